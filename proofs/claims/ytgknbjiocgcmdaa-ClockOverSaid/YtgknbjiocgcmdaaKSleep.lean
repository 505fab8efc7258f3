/- Asleep, Contains, Sleep, by their contracts. -/
import Derived.Test.YtgknbjiocgcmdaaKTick
import Derived.Test.YtgknbjiocgcmdaaHAll
import Derived.StillTailTactics
namespace Go.Proofs.Ytgknbjiocgcmdaa
open Go.RowKit
set_option linter.unusedVariables false

/-- A place that is not below 0 just if the number is there. -/
def Place (zs : List Int) (v r : Int) : Prop := decide (0 ≤ r) = Tp.has zs v
theorem where_any (A : Option Addr) (n c : Nat) (zs : List Int) (v : Int) (w : World) (h : Row w A n c zs) :
    Calls Try.prog 28 #[.slice A n c, .int .i64 v] w fun e w' => ∃ r : Int, e = .returned (.int .i64 r) ∧ w' = w ∧ Place zs v r := by
  have hlen := h.len
  have h1 := h.cap
  have h2 := h.most
  have H := Lib.hid h
  clear h
  go_enter Try.func28, Try.ntmps28
  go_wp2_with fail
  go_loop [8] (fun i => ∃ k : Nat, k ≤ n ∧ i = .int .i64 k ∧ Hid (v ∉ zs.take k)) (fun i => n - (intOf i).toNat)
  case atStart => exact ⟨0, by omega, rfl, Lib.hid (by simp)⟩
  case round =>
    obtain ⟨k, hk, rfl, hno⟩ := hrel
    by_cases hkn : k < n
    · obtain ⟨z, hz⟩ : ∃ z, zs[k]? = some z := ⟨_, List.getElem?_eq_getElem (by omega)⟩
      obtain ⟨pb, po, hA, _, hcz⟩ := H.out.row k z hz
      subst hA
      cases hq : (v == z)
      · have HN : Hid (v ∉ zs.take (k + 1)) := Lib.hid (by
          rw [List.take_add_one, hz]
          simp only [Option.toList_some, List.mem_append, List.mem_singleton, not_or]
          rw [beq_eq_false_iff_ne] at hq
          exact ⟨hno.out, hq⟩)
        clear hz
        go_wp2_with fail
        go_round
        case rel => exact ⟨k + 1, by omega, by go_num, HN⟩
        case measure => simp [intOf]; omega
      · have HT : Hid (Place zs v k) := Lib.hid (by
          unfold Place Tp.has
          rw [beq_iff_eq] at hq
          subst hq
          rw [(List.contains_iff_mem (a := v)).2 (List.mem_of_getElem? hz)]
          exact decide_eq_true (by omega))
        clear hz
        go_wp2_with fail
        go_ret
        exact ⟨_, rfl, rfl, HT.out⟩
    · have HT : Hid (Place zs v (-1)) := Lib.hid (by
        unfold Place Tp.has
        have := hno.out
        rw [List.take_of_length_le (by omega)] at this
        have h3 : zs.contains v = false := by
          rw [Bool.eq_false_iff]
          exact fun e => this (List.contains_iff_mem.1 e)
        rw [h3]
        rfl)
      go_wp2_with fail
      go_ret
      exact ⟨_, rfl, rfl, HT.out⟩
theorem contains_any (A : Option Addr) (n c : Nat) (zs : List Int) (v : Int) (t : Bool) (ht : Hid (Tp.has zs v = t)) (w : World) (h : Row w A n c zs) :
    Calls Try.prog 22 #[.slice A n c, .int .i64 v] w fun e w' => e = .returned (.bool t) ∧ w' = w := by
  have HI := Lib.hid (where_any A n c zs v w h)
  clear h
  go_enter Try.func22, Try.ntmps22
  go_wp2_with fail
  refine HI.out.mono ?_
  rintro e w2 ⟨r, rfl, rfl, hr⟩
  unfold Place at hr
  rw [ht.out] at hr
  clear HI
  cases t
  · have h0 : ¬ (0 : Int) ≤ r := by simpa using hr
    clear hr
    go_wp2_with fail
    go_ret
    exact ⟨by first | (simp; done) | (simp; omega), rfl⟩
  · have h0 : (0 : Int) ≤ r := by simpa using hr
    clear hr
    go_wp2_with fail
    go_ret
    exact ⟨by first | (simp; done) | (simp; omega), rfl⟩
theorem asleep_nil (w : World) : Calls Try.prog 18 #[.pointer none] w fun e w' => e = .returned (.slice none 0 0) ∧ w' = w := by
  go_enter Try.func18, Try.ntmps18
  go_wp2_with fail
  go_ret
  exact ⟨rfl, rfl⟩
theorem asleep_any (b : Nat) (F : Nat → Prop) (now : Int) (S : List Kp.On) (m : Nat) (w : World) (h : Ck w b F now S m) :
    Calls Try.prog 18 #[.pointer (some ⟨b, 0, none⟩)] w (MadeO w (Kp.ids S)) := by
  obtain ⟨l, k, h1, h2, h3, h4, h5, h6⟩ := h.mem
  have hlS : l.length = S.length := by rw [← h6, List.length_map, Hp.srt_length]
  have hl := h.len
  have hm := h.small
  have HA := Lib.hid (all_any b F l w h1 (by omega))
  have HI := Lib.hid (show who (Hp.srt l) = Kp.ids S by unfold who; rw [Kp.ids_on, h6])
  have HL := Lib.hid (Hp.srt_length l)
  clear h h1 h2 h3 h6
  go_enter Try.func18, Try.ntmps18
  go_wp2_with fail
  refine HA.out.mono ?_
  rintro e w1 ⟨A, n, c, rfl, hr, hf, hb⟩
  have HG := Lib.hid (gs_any A n c _ w1 hr (by have := hr.len; have := HL.out; omega))
  have HB := Lib.hid hb
  clear hr hf hb HA
  go_wp2_with fail
  refine HG.out.mono ?_
  rintro e w2 ⟨v, q, rfl, hown, hb3⟩
  rw [HI.out] at hown
  have HM := Lib.hid (show MadeO w (Kp.ids S) (.returned v) w2 from ⟨v, q, rfl, by
    refine ⟨hown.1, ?_⟩
    rcases hown.2 with h0 | ⟨g, cap, cur, e1, hg, h3⟩
    · exact .inl h0
    · exact .inr ⟨g, cap, cur, e1, Nat.le_trans HB.out.size hg, h3⟩, HB.out.trans (hb3.mono HB.out.size)⟩)
  obtain ⟨A3, c3, rfl, _, _⟩ := Row.of_own' hown
  clear hown hb3 HG
  go_wp2_with fail
  go_ret
  exact HM.out
/-- How many slept, written anew. -/
theorem HM.turn2 {w : World} {b : Nat} {F : Nat → Prop} {l : List Hp.Tm} {now k k' : Int} (h : HM (Rc now k) w b F l) : HM (Rc now k') (w.setCell ⟨b, 2, none⟩ (.int .i64 k')) b F l ∧ Kept F w (w.setCell ⟨b, 2, none⟩ (.int .i64 k')) := by
  obtain ⟨A, c, h1, h2, h3⟩ := h.mem
  have c1 := (h.rest 1 _ (.inl ⟨rfl, rfl⟩)).2
  have c2 := (h.rest 2 _ (.inr ⟨rfl, rfl⟩)).2
  refine ⟨⟨⟨A, c, (World.cell?_setCell_other _ _ _ _ (fun e => by injection e with _ e; omega)).trans h1, own_keep h2 (fun g hg => Below.heap_setCell w ⟨b, 2, none⟩ _ g (fun e => ?_)), h3⟩, by rw [World.frozen?_setCell]; exact h.free, h.inb, fun j hj => ?_, fun i v hr => ?_⟩, (Kept.refl F w).setCell _ h.inb _⟩
  · cases A with
    | none => cases hg
    | some ad => injection hg with hg; exact (h3 ad rfl).1 (hg.trans e)
  · have := h.lt j hj
    simpa [World.setCell] using this
  · rcases hr with ⟨rfl, rfl⟩ | ⟨rfl, rfl⟩
    · exact ⟨by omega, (World.cell?_setCell_other _ _ _ _ (fun e => by injection e with _ e; omega)).trans c1.1, by rw [World.frozen?_setCell]; exact c1.2⟩
    · exact ⟨by omega, World.cell?_setCell_same' _ _ _ (by rw [c2.1]; rfl), by rw [World.frozen?_setCell]; exact c2.2⟩
/-- What Sleep tells, and who sleeps then. -/
def SleepD (b : Nat) (F : Nat → Prop) (now : Int) (S : List Kp.On) (m : Nat) (g n : Int) (w : World) (e : Ending) (w' : World) : Prop :=
  e = .returned (.int .i64 (Kp.code S g n)) ∧ ∃ F', Ck w' b F' now (Kp.slp S now g n) (m + 1) ∧ Turned F F' w w'
theorem sleep_nil (g n : Int) (w : World) : Calls Try.prog 10 #[.pointer none, .int .i64 g, .int .i64 n] w fun e w' => e = .returned (.int .i64 1) ∧ w' = w := by
  go_enter Try.func10, Try.ntmps10
  go_wp2_with fail
  go_ret
  exact ⟨rfl, rfl⟩
theorem sleep_arg (b : Nat) (F : Nat → Prop) (now : Int) (S : List Kp.On) (m : Nat) (g n : Int) (w : World) (h : Ck w b F now S m) (hm : m + 1 ≤ 100000) (ha : g < 1 ∨ n < 1 ∨ 1000 < n) :
    Calls Try.prog 10 #[.pointer (some ⟨b, 0, none⟩), .int .i64 g, .int .i64 n] w (SleepD b F now S m g n w) := by
  have HS := Lib.hid (show SleepD b F now S m g n w (.returned (.int .i64 1)) w from ⟨by unfold Kp.code; rw [if_pos ha], F, by unfold Kp.slp; rw [if_pos ha]; exact h.more (Nat.le_succ m) hm, Turned.of_kept (Kept.refl _ _)⟩)
  clear h
  by_cases h1 : g < 1
  · clear ha
    go_enter Try.func10, Try.ntmps10
    go_wp2_with fail
    go_ret
    exact HS.out
  · by_cases h2 : n < 1
    · clear ha
      go_enter Try.func10, Try.ntmps10
      go_wp2_with fail
      go_ret
      exact HS.out
    · have h3 : 1000 < n := by omega
      clear ha
      go_enter Try.func10, Try.ntmps10
      go_wp2_with fail
      go_ret
      exact HS.out
set_option maxRecDepth 100000 in
set_option maxHeartbeats 1000000 in
theorem sleep_any (b : Nat) (F : Nat → Prop) (now : Int) (S : List Kp.On) (m : Nat) (g n : Int) (w : World) (h : Ck w b F now S m) (hm : m + 1 ≤ 100000) :
    Calls Try.prog 10 #[.pointer (some ⟨b, 0, none⟩), .int .i64 g, .int .i64 n] w (SleepD b F now S m g n w) := by
  by_cases ha : g < 1 ∨ n < 1 ∨ 1000 < n
  · exact sleep_arg b F now S m g n w h hm ha
  · have h1 : ¬ g < 1 := fun e => ha (.inl e)
    have h2 : ¬ n < 1 := fun e => ha (.inr (.inl e))
    have h3 : ¬ 1000 < n := fun e => ha (.inr (.inr e))
    have HA := Lib.hid ha
    have HS := Lib.hid (asleep_any b F now S m w h)
    have H := Lib.hid h
    clear ha h
    go_enter Try.func10, Try.ntmps10
    go_wp2_with fail
    refine HS.out.mono ?_
    rintro e w1 ⟨v, q, rfl, hown, hb1⟩
    obtain ⟨A, c, rfl, hr, _⟩ := Row.of_own' hown
    obtain ⟨t, ht⟩ : ∃ t, t = Kp.has S g := ⟨_, rfl⟩
    have HC := Lib.hid (contains_any A q c (Kp.ids S) g t (Lib.hid (by unfold Tp.has; rw [Kp.has_contains, ht])) w1 hr)
    have H1 := Lib.hid (H.out.step hb1)
    have HB := Lib.hid hb1
    have HT := Lib.hid ht
    clear hown hr hb1 HS ht
    go_wp2_with fail
    refine HC.out.mono ?_
    rintro e w2 ⟨rfl, rfl⟩
    clear HC
    cases t
    · obtain ⟨l, k, hm1, hh, hq, k0, k1, hs⟩ := H1.out.mem
      have c2 := (hm1.rest 2 _ (.inr ⟨rfl, rfl⟩)).2
      have hlS : l.length = S.length := by rw [← hs, List.length_map, Hp.srt_length]
      have hll := H1.out.len
      obtain ⟨t1, t2⟩ := hm1.turn2 (k' := k + 1)
      obtain ⟨d2, f2⟩ := c2
      have w1' : IntKind.i64.wrap (k + 1) = k + 1 := IntWalk.i64_in _ (by omega)
      have w2' : IntKind.i64.wrap (now + n) = now + n := IntWalk.i64_in _ (by have := H1.out.now0; have := H1.out.now1; omega)
      have r1 := (t1.rest 1 _ (.inl ⟨rfl, rfl⟩)).2.1
      have r2 := (t1.rest 2 _ (.inr ⟨rfl, rfl⟩)).2.1
      have HM := Lib.hid t1
      have HK := Lib.hid t2
      have HH := Lib.hid hh
      have HSO := Lib.hid hs
      have HQ := Lib.hid hq
      have HKK := Lib.hid (And.intro k0 k1)
      have HNS := Lib.hid (And.intro H1.out.now0 H1.out.now1)
      clear hm1 t1 t2 hh hs hq k0 k1
      go_wp2_with fail
      generalize w2.setCell ⟨b, 2, none⟩ (.int .i64 (k + 1)) = w3 at *
      clear d2 f2
      go_still_tail 15, (by kernel_rfl)
      change wpList _ _ _ _ _ w3.drew
      have HM4 := Lib.hid HM.out.drew
      have HK4 := Lib.hid HK.out.drew
      clear HM HK r1 r2
      generalize w3.drew = w4 at *
      have HP := Lib.hid (push_any b F l (now + n) (k + 1) g w4 HM4.out HH (by omega))
      go_wp2_with fail
      refine HP.out.mono ?_
      rintro e w5 ⟨rfl, F', l', hp, hh', hm', hk', hf'⟩
      have hke : Kept F w w4 := (Kept.of_below HB.out).trans HK4.out
      have hse : (Hp.srt l').map Kp.on = Kp.ins S (g, now + n) := by
        rw [Hp.srt_congr hp, Kp.srt_more rfl (fun x hx => by have := HQ.out x hx; omega), HSO.out]
      have HR := Lib.hid (show SleepD b F now S m g n w (.returned (.int .i64 0)) w5 from
        ⟨by unfold Kp.code; rw [if_neg HA.out, if_neg (by rw [← HT.out]; simp)], F', by
          unfold Kp.slp
          rw [if_neg HA.out, if_neg (by rw [← HT.out]; simp)]
          exact ⟨⟨l', k + 1, hm', hh', fun x hx => by
            rcases List.mem_append.1 (hp.mem_iff.1 hx) with e | e
            · have := HQ.out x e; omega
            · rw [List.mem_singleton] at e; subst e; exact Int.le_refl _, by have := HKK.out; omega, by have := HKK.out; omega, hse⟩, by rw [Kp.ins_length _ _ H1.out.ends]; omega, hm, HNS.out.1, HNS.out.2⟩, ⟨hke.trans hk', fun j hj => (hf' j hj).imp id (fun e => Nat.le_trans hke.size e)⟩⟩)
      clear hp hh' hm' hk' hf' hke hse HP HM4 HK4 H1 HH HSO HQ HKK HNS HB HT
      go_wp2_with fail
      go_ret
      exact HR.out
    · have HR := Lib.hid (show SleepD b F now S m g n w (.returned (.int .i64 5)) w2 from ⟨by unfold Kp.code; rw [if_neg HA.out, if_pos HT.out.symm], F, by unfold Kp.slp; rw [if_neg HA.out, if_pos HT.out.symm]; exact H1.out.more (Nat.le_succ m) hm, Turned.of_below HB.out⟩)
      clear H1 HB HT
      go_wp2_with fail
      go_ret
      exact HR.out
end Go.Proofs.Ytgknbjiocgcmdaa

