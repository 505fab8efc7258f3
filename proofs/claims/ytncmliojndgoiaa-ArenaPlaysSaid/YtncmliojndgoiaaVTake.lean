/- Take and Free, by their contracts; how the arena stands then. -/
import Derived.Test.YtncmliojndgoiaaVNext
namespace Go.Proofs.Ytncmliojndgoiaa
open Go.RowKit
set_option linter.unusedVariables false

theorem gens_set {a : Vp.Ar} {p : Int} {x t : Int} {G : Nat → Int} (hp : 1 ≤ p) (hpr : p ≤ a.room) (hl : a.gens.length = a.room + 1) (h : ∀ j, j ≤ a.room → G j = a.gens.getD j 0) : ∀ j, j ≤ a.room → updG G p.toNat x j = (a.gens.set p.toNat x).getD j 0 := by
  intro j hj
  unfold updG
  rw [List.getD_eq_getElem?_getD, List.getElem?_set]
  by_cases e : j = p.toNat
  · rw [if_pos e, if_pos e.symm, if_pos (by omega)]; rfl
  · rw [if_neg e, if_neg (fun e' => e e'.symm), ← List.getD_eq_getElem?_getD]; exact h j hj
theorem gens_top {a : Vp.Ar} {p : Nat} {x t : Int} (hx : x ≤ t + 1) (h : ∀ j, a.gens.getD j 0 ≤ t) : ∀ j, (a.gens.set p x).getD j 0 ≤ t + 1 := by
  intro j
  rw [List.getD_eq_getElem?_getD, List.getElem?_set]
  split
  · split
    · exact hx
    · have := h a.gens.length
      rw [List.getD_eq_getElem?_getD, List.getElem?_eq_none (Nat.le_refl _)] at this
      simp at this ⊢; omega
  · rw [← List.getD_eq_getElem?_getD]; have := h j; omega
/-- The list without its last member, its memory as it was. -/
theorem own_pop {w : World} {base g c n : Nat} {xs : List Value} {z : Value} (h : w.ownsRow base 3 1 (.slice (some ⟨g, 0, none⟩) (n + 1) c) (n + 1) (xs ++ [z])) : w.ownsRow base 3 1 (.slice (some ⟨g, 0, none⟩) n c) n xs := by
  have hl := h.1
  simp only [List.length_append, List.length_singleton] at hl
  refine ⟨by omega, ?_⟩
  rcases h.2 with ⟨e, _⟩ | ⟨g', cap, cur, e, hb, hg, hn, hm, hs, ht⟩
  · cases e
  · injection e with e1 e2 e3
    injection e1 with e1
    injection e1 with e1
    subst e1 e3
    refine .inr ⟨g, c, cur, rfl, hb, hg, by omega, hm, hs, ?_⟩
    have : cur.toList.take (n * 1) = (cur.toList.take ((n + 1) * 1)).take n := by rw [List.take_take]; congr 1; omega
    rw [this, ht, List.take_left' (by omega)]
theorem own_setCell {w : World} {base n : Nat} {e : TypeId} {size : Nat} {v : Value} {xs : List Value} (h : w.ownsRow base e size v n xs) {p : Addr} (hp : v.ownBlock ≠ some p.block) (u : Value) : (w.setCell p u).ownsRow base e size v n xs :=
  own_keep h (fun g hg => Below.heap_setCell w p u g (fun e => hp (by rw [hg, e])))
theorem LiveM.setCell {W : World} {m : Nat} {l : List Int} (h : LiveM W m l) {p : Addr} (hp : m ≠ p.block) (u : Value) : LiveM (W.setCell p u) m l := h.keep (Below.heap_setCell W p u m hp)
theorem in64_small {g : Int} (h1 : 0 ≤ g) (h2 : g ≤ 64) : In64 g := by unfold In64; omega

/-- What Take does when the number has been found: it lives then, and its generation is one more. -/
theorem kept_map {F : Nat → Prop} {w w' : World} {m : Nat} (h : w.grownBy w' (some m)) (hF : F m) : Kept F w w' := Kept.of_grown h (fun k e => by injection e with e; subst e; exact hF)

theorem take_nil (w : World) : Calls Try.prog 12 #[.pointer none] w fun e w' => e = .returned (.tuple #[.int .i64 0, .int .i64 0, .bool false]) ∧ w = w' := by
  go_enter Try.func12, Try.ntmps12
  go_wp2_with fail
  refine (next_nil w).mono ?_
  rintro e w' ⟨rfl, rfl⟩
  go_wp2_with fail
  go_ret3
  exact ⟨rfl, rfl⟩
/-- The world behind 'next': the cells of the arena, the number p that doesn't live. -/
structure Found (w w1 : World) (b m : Nat) (F : Nat → Prop) (a : Vp.Ar) (v : Value) (k : Nat) (G : Nat → Int) (p : Nat) : Prop where
  raw : VRaw w1 b m a.room k v G
  live : LiveM w1 m a.live
  own : w1.ownsRow 0 3 1 v (Vp.without a.freed p).length ((Vp.without a.freed p).map (Value.int .i64))
  ne : v.ownBlock ≠ some b
  inb : F b
  inm : F m
  inv : ∀ g, v.ownBlock = some g → F g
  kept : Kept F w w1
theorem block_ne {w : World} {b m : Nat} {r k : Int} {v : Value} {G : Nat → Int} {l : List Int} (h : VRaw w b m r k v G) (hm : LiveM w m l) : m ≠ b := by
  rintro rfl
  obtain ⟨D, ⟨es, clock, hb, _⟩, _⟩ := hm
  have := h.r
  simp [World.cell?, hb] at this
theorem own_ne {w : World} {base n m : Nat} {v : Value} {xs : List Value} {l : List Int} {e : TypeId} {size : Nat} (h : w.ownsRow base e size v n xs) (hm : LiveM w m l) : v.ownBlock ≠ some m := by
  intro e
  obtain ⟨D, ⟨es, clock, hb, _⟩, _⟩ := hm
  rcases h.2 with ⟨rfl, _⟩ | ⟨g, cap, cur, rfl, _, hg, _⟩
  · cases e
  · injection e with e
    simp only at e
    subst e
    rw [hb] at hg
    cases hg
/-- The arena that stands behind Take. -/
theorem Found.done {w w1 w2 : World} {b m k p : Nat} {F : Nat → Prop} {a : Vp.Ar} {t : Int} {v : Value} {G : Nat → Int} (h : Found w w1 b m F a v k G p) (h1 : 1 ≤ a.room) (h64 : a.room ≤ 64) (hF : ∀ j, F j → j < w.heap.size) (htop : ∀ j, a.gens.getD j 0 ≤ t) (hp : Vp.pick a = p) (hp0 : Vp.pick a ≠ 0)
    (hok : Vp.Ok (Vp.take a).1 k) (hG : ∀ j, j ≤ a.room → G j = a.gens.getD j 0) (hpr : 1 ≤ p ∧ p ≤ a.room) (hgl : a.gens.length = a.room + 1) (hx : Vp.gen a p = G p)
    (hl : LiveM w2 m (a.live ++ [(p : Int)])) (hg : w1.grownBy w2 (some m)) (q : Nat) : VAr ((w2.setCell ⟨b, 4 + p, none⟩ (.int .i64 (G p + 1))).drew.drewN q) b F (Vp.take a).1 (t + 1) ∧ Kept F w ((w2.setCell ⟨b, 4 + p, none⟩ (.int .i64 (G p + 1))).drew.drewN q) := by
  have hbm := block_ne h.raw h.live
  have R2 := h.raw.keep (hg.block b h.raw.lt (fun e => hbm (by injection e with e; exact e.symm)))
  have hk2 := h.kept.trans (kept_map hg h.inm)
  refine ⟨?_, (hk2.setCell b (4 + p) h.inb _).drew.drewN q⟩
  have e : (Vp.take a).1 = ⟨a.room, a.live ++ [(p : Int)], Vp.without a.freed p, a.gens.set p (G p + 1)⟩ := by
    rw [Vp.take_some hp0, hp, hx]
    rfl
  rw [e] at hok ⊢
  have hgp : G p ≤ t := by rw [hG p hpr.2]; exact htop p
  refine ⟨h1, h64, gens_top (by omega) htop, fun j hj => ?_, k, m, v, updG G p (G p + 1), hok, ?_, ?_, ?_, h.ne, ?_, h.inb, h.inm, h.inv⟩
  · have := hF j hj
    have := h.kept.size
    have := hg.size
    show j < ((w2.setCell ⟨b, 4 + p, none⟩ (.int .i64 (G p + 1))).drew.drewN q).heap.size
    simp [World.drewN, World.drew, World.setCell]; omega
  · exact (R2.setG p (by omega) _).drew.drewN q
  · exact (hl.setCell (p := ⟨b, 4 + p, none⟩) hbm _).keep rfl
  · have ho := own_keep h.own (w' := w2) (fun g hgg => hg.block g (h.own.lt g hgg).2 (fun e => own_ne h.own h.live (by rw [hgg]; exact e)))
    exact own_keep (own_setCell ho (p := ⟨b, 4 + p, none⟩) h.ne _) (fun _ _ => rfl)
  · have := gens_set (x := G p + 1) (t := t) (p := (p : Int)) (by omega) (by omega) hgl hG
    simpa using this
theorem live_less {a : Vp.Ar} {k : Nat} (h : Vp.Ok (Vp.take a).1 k) (hp : Vp.pick a ≠ 0) (hr : a.room ≤ 64) : a.live.length < 64 := by
  have c := h.count
  have m := h.most
  rw [Vp.take_some hp] at c m
  simp only [List.length_append, List.length_singleton] at c m
  omega
/-- What Take tells. -/
def tookV (a : Vp.Ar) : Value := .tuple #[.int .i64 (Vp.take a).2.1, .int .i64 (Vp.take a).2.2.1, .bool (Vp.take a).2.2.2]
/-- The same memory: Take makes none. -/
def VTurn1 (b : Nat) (F : Nat → Prop) (a' : Vp.Ar) (t' : Int) (w : World) (v : Value) (e : Ending) (w' : World) : Prop := e = .returned v ∧ VAr w' b F a' t' ∧ Kept F w w'
set_option maxHeartbeats 1600000 in
set_option maxRecDepth 100000 in
theorem take_any (b : Nat) (F : Nat → Prop) (a : Vp.Ar) (t : Int) (w : World) (h : VAr w b F a t) (ht : t ≤ 1000000) :
    Calls Try.prog 12 #[.pointer (some ⟨b, 0, none⟩)] w (VTurn1 b F (Vp.take a).1 (t + 1) w (tookV a)) := by
  obtain ⟨k, m, v, G, h1, h2, h3, h4, h5, h6, h7, h8, h9⟩ := h.mem
  have HB := Lib.hid (show 1 ≤ a.room ∧ a.room ≤ 64 ∧ (∀ j, F j → j < w.heap.size) ∧ (∀ j, a.gens.getD j 0 ≤ t) from ⟨h.room1, h.room64, h.lt, h.top⟩)
  have HGL := Lib.hid h1.gens
  have HG := Lib.hid h6
  have HGZ := Lib.hid (show ∀ j, j ≤ a.room → 0 ≤ G j ∧ G j ≤ t from fun j hj => by rw [h6 j hj]; exact ⟨h1.zero j (by rw [h1.gens]; omega), h.top j⟩)
  have H0 := Lib.hid (h.mono (t' := t + 1) (by omega))
  have hmost := h1.most
  have hr64 := h.room64
  clear h
  rcases List.eq_nil_or_concat a.freed with e | ⟨l, z, e⟩
  · have hpk := h1.pick_new e
    rw [e] at h4
    have hv : ∃ A c, v = .slice A 0 c := by
      rcases h4.2 with ⟨rfl, _⟩ | ⟨g, cap, cur, rfl, _⟩
      · exact ⟨_, _, rfl⟩
      · exact ⟨_, _, rfl⟩
    obtain ⟨A, c, rfl⟩ := hv
    by_cases hk : k < a.room
    · rw [if_pos hk] at hpk
      obtain ⟨p, hpp⟩ : ∃ p, p = k + 1 := ⟨_, rfl⟩
      have hpi : Vp.pick a = (p : Int) := by omega
      have hp0 : Vp.pick a ≠ 0 := by omega
      have HP := Lib.hid hpi
      have HP0 := Lib.hid hp0
      have hin := h1.pick_in hp0
      have HPR := Lib.hid (show 1 ≤ p ∧ p ≤ a.room by omega)
      have HN := Lib.hid (show (p : Int) ∉ a.live by rw [← hpi]; exact hin.2.2)
      have HX := Lib.hid (show Vp.gen a p = G p by rw [Vp.gen_in (by omega) (by have := HGL.out; omega), h6 p (by omega)]; rfl)
      have hok := h1.take hp0
      rw [if_pos e] at hok
      have HLL := Lib.hid (live_less hok hp0 hr64)
      have HR := Lib.hid (show tookV a = .tuple #[.int .i64 p, .int .i64 (G p + 1), .bool true] by unfold tookV; rw [Vp.take_some hp0, hpi, HX.out])
      have HOK := Lib.hid (show Vp.Ok (Vp.take a).1 p by rw [hpp]; exact hok)
      have hw : Vp.without a.freed p = [] := by rw [e]; rfl
      have HF := Lib.hid (fun q => (show Found w ((w.drewN q).setCell ⟨b, 1, none⟩ (.int .i64 (k + 1))) b m F a (.slice A 0 c) p G p from
        ⟨by have := (h2.drewN q).setK ((k : Int) + 1); rw [show ((p : Nat) : Int) = (k : Int) + 1 by omega]; exact this, (h3.setCell (p := ⟨b, 1, none⟩) (block_ne h2 h3) _).keep rfl, by rw [hw]; exact own_setCell (own_keep h4 (fun _ _ => rfl)) h5 _, h5, h7, h8, h9, ((Kept.refl F w).drewN q).setCell b 1 h7 _⟩))
      have HC := Lib.hid (next_new b m a.room k A c G w h2 hk hr64)
      have hkp : (k : Int) + 1 = p := by omega
      rw [hkp] at HC HF
      clear h1 h2 h3 h4 h5 h6 h7 h8 h9 e hpk hk hin hok hw hpi hp0 hkp hpp
      go_enter Try.func12, Try.ntmps12
      go_wp2_with fail
      refine HC.out.mono ?_
      rintro e w1 ⟨rfl, q, hw1⟩
      have HFd := Lib.hid (HF.out q)
      rw [← hw1] at HFd
      clear hw1 HF HC
      have hbm := block_ne HFd.out.raw HFd.out.live
      obtain ⟨D, hD, hh, hs⟩ := HFd.out.live
      have hp1 := HPR.out.1
      have hp2 := HPR.out.2
      have hp3 := HB.out.2.1
      have hkey := key_of (g := (p : Int)) (in64_small (by omega) (by omega))
      have c3 := HFd.out.raw.m
      have HH := Lib.hid hh
      have HS := Lib.hid hs
      have HT := Lib.hid (hD.tidy keyint)
      have hpz : ((p : Int) == 0) = false := by rw [beq_eq_false_iff_ne]; omega
      have hp65 : (p : Int) < 65 := by omega
      clear hh hs
      go_wp2_with (first | (at_mapUpdate; refine wpList_mapUpdate_own _ rfl _ _ _ 49 rfl 3 53 keyint Try.underlying49 (unitElem (H := Unit)) m 64 _ rfl hD (by unfold maxLen; omega) _ _ _ rfl rfl hkey _ [] unitElem_mk ?_; intro w2 hown hg) | go_in)
      have hL := LiveM.put (in64_small (g := (p : Int)) (by omega) (by omega)) HH.out HS.out HT.out HN.out HLL.out hown
      have R2 := HFd.out.raw.keep (hg.block b HFd.out.raw.lt (fun e => hbm (by injection e with e; exact e.symm)))
      have HD := Lib.hid (fun q => Found.done (t := t) HFd.out HB.out.1 HB.out.2.1 HB.out.2.2.1 HB.out.2.2.2 HP.out HP0.out HOK.out HG.out HPR.out HGL.out HX.out hL hg q)
      have cg := R2.g p (by omega)
      have fg := R2.z (4 + p)
      have cg2 : (w2.setCell ⟨b, 4 + p, none⟩ (.int .i64 (G p + 1))).cell? ⟨b, 4 + p, none⟩ = some (.int .i64 (G p + 1)) := World.cell?_setCell_same' _ _ _ (by rw [cg]; rfl)
      obtain ⟨gz1, gz2⟩ := HGZ.out p (by omega)
      have hwr : IntKind.i64.wrap (G p + 1) = G p + 1 := IntWalk.i64_in _ (by omega)
      clear hL hown hg R2 hD c3 hkey
      go_wp2_with fail
      go_region
      all_goals go_wp2_with fail
      go_quiet (fail)
      go_wp2_with fail
      go_ret3
      exact ⟨congrArg Ending.returned HR.out.symm, HD.out _⟩
    · obtain rfl : k = a.room := by omega
      rw [if_neg (by omega)] at hpk
      have HR := Lib.hid (show tookV a = .tuple #[.int .i64 0, .int .i64 0, .bool false] by unfold tookV; rw [Vp.take_none hpk])
      have HA := Lib.hid (show (Vp.take a).1 = a by rw [Vp.take_none hpk])
      have HC := Lib.hid (next_none b m a.room A c G w h2 hr64)
      clear h1 h2 h3 h4 h5 h6 h7 h8 h9 e hpk hk
      go_enter Try.func12, Try.ntmps12
      go_wp2_with fail
      refine HC.out.mono ?_
      rintro e w1 ⟨rfl, q, rfl⟩
      go_wp2_with fail
      go_ret3
      exact ⟨congrArg Ending.returned HR.out.symm, by rw [HA.out]; exact H0.out.keep (Nat.le_refl _) (fun _ _ => rfl), (Kept.refl F w).drewN q⟩
  · rw [List.concat_eq_append] at e
    have hpk := Vp.Ok.pick_freed e
    have hzf : z ∈ a.freed := by rw [e]; simp
    have hz := h1.in_freed hzf
    obtain ⟨p, rfl⟩ : ∃ p : Nat, z = p := ⟨z.toNat, by omega⟩
    have hp0 : Vp.pick a ≠ 0 := by omega
    have HP := Lib.hid hpk
    have HP0 := Lib.hid hp0
    have HPR := Lib.hid (show 1 ≤ p ∧ p ≤ a.room by omega)
    have HN := Lib.hid (show (p : Int) ∉ a.live by intro hl; exact h1.apart _ hl hzf)
    have HX := Lib.hid (show Vp.gen a p = G p by rw [Vp.gen_in (by omega) (by have := HGL.out; omega), h6 p (by omega)]; rfl)
    have hok := h1.take hp0
    rw [if_neg (by rw [e]; simp)] at hok
    have HOK := Lib.hid hok
    have HLL := Lib.hid (live_less hok hp0 hr64)
    have HR := Lib.hid (show tookV a = .tuple #[.int .i64 p, .int .i64 (G p + 1), .bool true] by unfold tookV; rw [Vp.take_some hp0, hpk, HX.out])
    have hw : Vp.without a.freed p = l := by rw [e]; exact Vp.without_last (by rw [← e]; exact h1.freed)
    have hlen : a.freed.length = l.length + 1 := by rw [e]; simp
    rw [hlen] at h4
    obtain ⟨g, c, rfl, _, hglt⟩ := h4.form (by omega)
    have hcz : w.cell? ⟨g, l.length, none⟩ = some (.int .i64 p) := by
      rw [h4.cellAt l.length (by omega), e]
      simp
    have hcap : l.length + 1 ≤ c ∧ c ≤ 9223372036854775807 := by
      rcases h4.2 with ⟨e', _⟩ | ⟨g', cap, cur, e', _, _, hn, hm, _⟩
      · cases e'
      · injection e' with _ _ e3
        subst e3
        exact ⟨hn, by unfold maxLen at hm; omega⟩
    have hown := own_pop (xs := l.map (Value.int .i64)) (z := .int .i64 p) (by rw [e] at h4; simpa using h4)
    have h5' : (Value.slice (some ⟨g, 0, none⟩) l.length c).ownBlock ≠ some b := fun e => h5 ((show (Value.slice (some ⟨g, 0, none⟩) (l.length + 1) c).ownBlock = some g from rfl).trans e)
    have h9' : ∀ j, (Value.slice (some ⟨g, 0, none⟩) l.length c).ownBlock = some j → F j := fun j e => h9 j ((show (Value.slice (some ⟨g, 0, none⟩) (l.length + 1) c).ownBlock = some g from rfl).trans e)
    have HFd0 := Lib.hid (show Found w (w.setCell ⟨b, 2, none⟩ (.slice (some ⟨g, 0, none⟩) l.length c)) b m F a (.slice (some ⟨g, 0, none⟩) l.length c) k G p from
      ⟨h2.setF _, h3.setCell (p := ⟨b, 2, none⟩) (block_ne h2 h3) _, by rw [hw]; exact own_setCell (p := ⟨b, 2, none⟩) hown h5' _, h5', h7, h8, h9', (Kept.refl F w).setCell b 2 h7 _⟩)
    have HC := Lib.hid (next_freed b m a.room k g c l.length p G w h2 hcz hcap.1 hcap.2)
    clear h1 h2 h3 h4 h5 h6 h7 h8 h9 h5' h9' e hpk hok hw hp0 hz hzf hown hcz hcap hlen hglt
    go_enter Try.func12, Try.ntmps12
    go_wp2_with fail
    refine HC.out.mono ?_
    rintro e w1 ⟨rfl, hw1⟩
    have HFd := HFd0
    rw [← hw1] at HFd
    clear hw1 HFd0 HC
    have hbm := block_ne HFd.out.raw HFd.out.live
    obtain ⟨D, hD, hh, hs⟩ := HFd.out.live
    have hp1 := HPR.out.1
    have hp2 := HPR.out.2
    have hp3 := HB.out.2.1
    have hkey := key_of (g := (p : Int)) (in64_small (by omega) (by omega))
    have c3 := HFd.out.raw.m
    have HH := Lib.hid hh
    have HS := Lib.hid hs
    have HT := Lib.hid (hD.tidy keyint)
    have hpz : ((p : Int) == 0) = false := by rw [beq_eq_false_iff_ne]; omega
    have hp65 : (p : Int) < 65 := by omega
    clear hh hs
    go_wp2_with (first | (at_mapUpdate; refine wpList_mapUpdate_own _ rfl _ _ _ 49 rfl 3 53 keyint Try.underlying49 (unitElem (H := Unit)) m 64 _ rfl hD (by unfold maxLen; omega) _ _ _ rfl rfl hkey _ [] unitElem_mk ?_; intro w2 hown hg) | go_in)
    have hL := LiveM.put (in64_small (g := (p : Int)) (by omega) (by omega)) HH.out HS.out HT.out HN.out HLL.out hown
    have R2 := HFd.out.raw.keep (hg.block b HFd.out.raw.lt (fun e => hbm (by injection e with e; exact e.symm)))
    have HD := Lib.hid (fun q => Found.done (t := t) HFd.out HB.out.1 HB.out.2.1 HB.out.2.2.1 HB.out.2.2.2 HP.out HP0.out HOK.out HG.out HPR.out HGL.out HX.out hL hg q)
    have cg := R2.g p (by omega)
    have fg := R2.z (4 + p)
    have cg2 : (w2.setCell ⟨b, 4 + p, none⟩ (.int .i64 (G p + 1))).cell? ⟨b, 4 + p, none⟩ = some (.int .i64 (G p + 1)) := World.cell?_setCell_same' _ _ _ (by rw [cg]; rfl)
    obtain ⟨gz1, gz2⟩ := HGZ.out p (by omega)
    have hwr : IntKind.i64.wrap (G p + 1) = G p + 1 := IntWalk.i64_in _ (by omega)
    clear hL hown hg R2 hD c3 hkey
    go_wp2_with fail
    go_region
    all_goals go_wp2_with fail
    go_quiet (fail)
    go_wp2_with fail
    go_ret3
    exact ⟨congrArg Ending.returned HR.out.symm, HD.out _⟩
end Go.Proofs.Ytncmliojndgoiaa

