/- runs.eachOnce, by its contract: a closure that keeps whom it met in a map. -/
import Derived.Test.YtcoccegmkcdeiaaDoorM6
import Derived.Test.YtcoccegmkcdeiaaDoorM7
import Derived.Maps.OwnSet
import Derived.RegionTactic
namespace Go.Proofs.YtcoccegmkcdeiaaDoor
open Go.RowKit
set_option linter.unusedVariables false

theorem jkeyed : Go.Maps.Keyed Tryd.prog 3 := Go.Maps.int_keyed Tryd.underlying3
theorem jzero (w : World) : (zeroValue 97).run Tryd.prog w = .ok (.agg #[]) w := by kernel_rfl
theorem jkey_of {g : Int} (h : In64 g) : keyOf Tryd.prog 3 (.int .i64 g) = some (.int .i64 g) := by
  refine Go.Maps.keyOf_int_mk Tryd.underlying3 ?_
  unfold In64 at h
  simpa [Lit.wf, IntKind.min, IntKind.max, IntKind.signed, IntKind.bits] using h
theorem jtight {H : Type} {P : Program} {k : TypeId} {R : Value → Option (DataW H × List MemPlace)} {w : World} {b n : Nat} {D : DataW H} (h : w.ownsMap P k R b n D) {n' : Nat} (hn : Maps.size D ≤ n') : w.ownsMap P k R b n' D := by
  obtain ⟨es, clock, hb, F, hs, rfl⟩ := h
  refine ⟨es, clock, hb, F, ?_, rfl⟩
  simpa [Maps.size, length_sorted] using hn
/-- Block m is a map whose keys are these numbers. -/
def MetM (W : World) (m : Nat) (l : List Int) : Prop :=
  ∃ D : DataW Unit, W.ownsMap Tryd.prog 3 unitElem m l.length D ∧ (∀ g : Int, Maps.has D (.int .i64 g) = l.contains g) ∧ Maps.size D = l.length
theorem MetM.lt {W : World} {m : Nat} {l : List Int} (h : MetM W m l) : m < W.heap.size := by obtain ⟨D, hD, _⟩ := h; exact hD.lt
theorem MetM.keep {W W' : World} {m : Nat} {l : List Int} (h : MetM W m l) (hk : W'.heap[m]? = W.heap[m]?) : MetM W' m l := by
  obtain ⟨D, ⟨es, clock, hb, r⟩, h2⟩ := h
  exact ⟨D, ⟨es, clock, hk.trans hb, r⟩, h2⟩
theorem MetM.made (w : World) : MetM (w.alloc (.map #[] 0)) w.heap.size [] :=
  ⟨.map [], (World.ownsMap_made w Tryd.prog 3 unitElem).mono (by simp), fun g => rfl, rfl⟩
theorem MetM.put {W : World} {m n : Nat} {l : List Int} {D : DataW Unit} {g : Int} (hk : In64 g) (h0 : ∀ g : Int, Maps.has D (.int .i64 g) = l.contains g) (hs : Maps.size D = l.length) (ht : Go.Maps.Tidy D) (hg : g ∉ l)
    (h : W.ownsMap Tryd.prog 3 unitElem m n (D.put (.int .i64 g) (.agg []))) : MetM W m (l ++ [g]) := by
  have hkl := jkeyed.key (jkey_of hk)
  have h1 : Maps.has D (.int .i64 g) = false := by rw [h0, ← Bool.not_eq_true, List.contains_iff_mem]; exact hg
  have hsz : Maps.size (D.put (.int .i64 g) (.agg [])) = l.length + 1 := by rw [Go.Maps.size_put ht, h1]; simp [hs]
  refine ⟨_, jtight h (by rw [hsz]; simp), fun z => ?_, by rw [hsz]; simp⟩
  by_cases e : z = g
  · subst e
    rw [Go.Maps.has_put_same ht.isMap hkl]
    simp
  · rw [Go.Maps.has_put_other (fun e' => e (by injection e')), h0, Bool.eq_iff_iff, List.contains_iff_mem, List.contains_iff_mem, List.mem_append, List.mem_singleton]
    exact ⟨.inl, fun h => h.resolve_right e⟩
/-- Nothing but block m has turned. -/
structure Sv (m : Nat) (w w' : World) : Prop where
  os : w'.os = w.os
  tape : w'.tape = w.tape
  output : w'.output = w.output
  size : w.heap.size ≤ w'.heap.size
  block : ∀ k, k < w.heap.size → k ≠ m → w'.heap[k]? = w.heap[k]?
theorem Sv.refl (m : Nat) (w : World) : Sv m w w := ⟨rfl, rfl, rfl, Nat.le_refl _, fun _ _ _ => rfl⟩
theorem Sv.trans {m : Nat} {a b c : World} (h : Sv m a b) (k : Sv m b c) : Sv m a c :=
  ⟨k.os.trans h.os, k.tape.trans h.tape, k.output.trans h.output, Nat.le_trans h.size k.size, fun i hi hn => (k.block i (Nat.lt_of_lt_of_le hi h.size) hn).trans (h.block i hi hn)⟩
theorem Sv.of_grown {m : Nat} {a b : World} (h : a.grownBy b (some m)) : Sv m a b := ⟨h.os, h.tape, h.output, h.size, fun i hi hn => h.block i hi (fun e => hn (by injection e))⟩
theorem Sv.of_below {m : Nat} {a b : World} (h : Below a.heap.size a b) : Sv m a b := ⟨h.os, h.tape, h.output, h.size, fun i hi _ => h.block i hi⟩
theorem Sv.below {m : Nat} {w0 w w' : World} {B : Nat} (h : Sv m w w') (hb : Below B w0 w) (hF : B ≤ m) (hB : B ≤ w.heap.size) : Below B w0 w' :=
  ⟨h.os.trans hb.os, h.tape.trans hb.tape, h.output.trans hb.output, Nat.le_trans hb.size h.size, fun k hk => (h.block k (by omega) (by omega)).trans (hb.block k hk)⟩
theorem Sv.cell {m : Nat} {w w' : World} {a : Addr} {v : Value} (h : Sv m w w') (hc : w.cell? a = some v) (hn : a.block ≠ m) : w'.cell? a = some v :=
  (World.cell?_of_block (w := w) (h.block a.block (World.block_lt_of_cell? _ _ hc) hn)).trans hc
theorem jonce_snoc {l : List Int} {g : Int} : Rp.Once (l ++ [g]) ↔ Rp.Once l ∧ g ∉ l ∧ 1 ≤ g := by
  constructor
  · intro h
    exact ⟨h.left, fun hm => (List.nodup_append.1 h.2).2.2 g hm g (by simp) rfl, h.1 g (by simp)⟩
  · intro h
    exact h.1.snoc h.2.2 h.2.1
set_option maxRecDepth 100000 in
set_option maxHeartbeats 1000000 in
theorem wrong_any (g : Int) (mb m : Nat) (l : List Int) (w : World) (hc : w.cell? ⟨mb, 0, none⟩ = some (.map (some m))) (hM : MetM w m l) (hne : mb ≠ m) (hg : In64 g) (hl : l.length ≤ 1000000) :
    Calls Tryd.prog 75 #[.int .i64 g, .pointer (some ⟨mb, 0, none⟩)] w fun e w' => e = .returned (.bool (!decide (g ∉ l ∧ 1 ≤ g))) ∧ Sv m w w' ∧ (g ∉ l → MetM w' m (l ++ [g])) := by
  obtain ⟨D, hD, hh, hs⟩ := hM
  have HC := Lib.hid (hh g)
  have HH := Lib.hid hh
  have HS := Lib.hid hs
  have HT := Lib.hid (hD.tidy jkeyed)
  have HD := Lib.hid hD
  have hkey := jkey_of hg
  have hkey2 := jkey_of hg
  have hb1 := below_new w (.cells #[] 97)
  have hD1 : (w.alloc (.cells #[] 97)).ownsMap Tryd.prog 3 unitElem m l.length D := by
    have hlt := hD.lt
    obtain ⟨es, clock, hb, r⟩ := hD
    exact ⟨es, clock, (hb1.block m hlt).trans hb, r⟩
  have c1 := keepcell hb1 hc
  have HB1 := Lib.hid hb1
  have HLN := Lib.hid hl
  clear hh hs hb1 hl
  go_enter Tryd.func75, Tryd.ntmps75
  go_wp2_with (first | (at_lookup; refine wpList_lookup_own_unit _ rfl _ _ 96 rfl 3 97 jkeyed Tryd.underlying96 (jzero _) m l.length D rfl hD _ _ rfl hkey ?_) | (at_mapUpdate; refine wpList_mapUpdate_own _ rfl _ _ _ 96 rfl 3 97 jkeyed Tryd.underlying96 (unitElem (H := Unit)) m l.length _ rfl hD1 (by have := HLN.out; unfold maxLen; omega) _ _ _ rfl rfl hkey2 _ [] unitElem_mk ?_; intro w2 hown hg2) | go_in)
  · rename_i hhas
    have hin : g ∈ l := by have := HC.out; rw [hhas] at this; exact List.contains_iff_mem.1 this.symm
    have HSV := Lib.hid ((Sv.of_below HB1.out).trans (Sv.of_grown hg2))
    clear hown hg2
    go_ret
    exact ⟨ret_bool (by simp [hin]), HSV.out, fun hn => absurd hin hn⟩
  · rename_i hhas
    have hni : g ∉ l := fun hm => hhas (by rw [HC.out]; exact List.contains_iff_mem.2 hm)
    have HSV := Lib.hid ((Sv.of_below HB1.out).trans (Sv.of_grown hg2))
    have HMM := Lib.hid (MetM.put hg HH.out HS.out HT.out hni hown)
    clear hown hg2
    go_ret
    refine ⟨ret_bool ?_, HSV.out, fun _ => HMM.out⟩
    by_cases h1 : g < 1
    · have : ¬ 1 ≤ g := by omega
      simp [h1, this]
    · have : 1 ≤ g := by omega
      simp [h1, this, hni]
theorem enters3 (args : Array Value) (w : World) : (callFunc 75 args).run Tryd.prog w = .ok (.enter 75 args) w := by kernel_rfl
theorem jonce_take {zs : List Int} {k : Nat} {z : Int} (hz : zs[k]? = some z) : Rp.Once (zs.take (k + 1)) ↔ Rp.Once (zs.take k) ∧ z ∉ zs.take k ∧ 1 ≤ z := by
  rw [List.take_add_one, hz]
  exact jonce_snoc
theorem jonce_cut {zs : List Int} (k : Nat) (h : Rp.Once zs) : Rp.Once (zs.take k) := by
  rw [← List.take_append_drop k zs] at h
  exact h.left
set_option maxRecDepth 100000 in
set_option maxHeartbeats 1000000 in
theorem indexM_any (A : Option Addr) (n c : Nat) (zs : List Int) (mb m : Nat) (w : World) (h : Row w A n c zs) (hn : n ≤ 1000000) (hi : ∀ z ∈ zs, In64 z) (hc : w.cell? ⟨mb, 0, none⟩ = some (.map (some m))) (hM : MetM w m []) (hne : mb ≠ m) (hA : ∀ ad, A = some ad → zs ≠ [] → ad.block ≠ m) :
    Calls Tryd.prog 81 #[.slice A n c, .func (.func 75) #[] #[.pointer (some ⟨mb, 0, none⟩)]] w fun e w' =>
      (∃ k : Int, e = .returned (.int .i64 k) ∧ (k < 0 ↔ Rp.Once zs)) ∧ Sv m w w' := by
  have H := Lib.hid h
  have hlen := h.len
  have HI := Lib.hid hi
  have HC := Lib.hid hc
  have HM := Lib.hid hM
  have HA0 := Lib.hid hA
  have HNN := Lib.hid hn
  have hent := enters3
  have hmx := h.most
  have hcp := h.cap
  clear h hi hc hM hA hn
  go_enter Tryd.func81, Tryd.ntmps81
  go_wp2_with fail
  go_loopw [8] (fun i wr => ∃ k : Nat, k ≤ n ∧ i = .int .i64 k ∧ Hid (Sv m w wr) ∧ Hid (MetM wr m (zs.take k)) ∧ Hid (Rp.Once (zs.take k))) (fun i _ => n - (intOf i).toNat)
  case atStart => exact ⟨0, Nat.zero_le _, rfl, Lib.hid (Sv.refl _ _), HM, Lib.hid ⟨fun x hx => by simp at hx, by simp⟩⟩
  case round =>
    obtain ⟨k, hk, rfl, HW, HMK, HOK⟩ := hrel
    by_cases hlt : k < n
    · obtain ⟨z, hz⟩ : ∃ z, zs[k]? = some z := ⟨_, List.getElem?_eq_getElem (by omega)⟩
      obtain ⟨b, off, rfl, _, hcs⟩ := H.out.cells (by omega)
      have c0 := HW.out.cell (hcs k z hz) (by exact HA0.out ⟨b, off, none⟩ rfl (fun e => by rw [e] at hz; simp at hz))
      have HZ := Lib.hid (jonce_take hz)
      have HZT := Lib.hid (show zs.take (k + 1) = zs.take k ++ [z] by rw [List.take_add_one, hz]; rfl)
      have hC := Lib.hid (wrong_any z mb m (zs.take k) wr (HW.out.cell HC.out hne) HMK.out hne (HI.out z (List.mem_of_getElem? hz)) (by rw [List.length_take]; have := HNN.out; omega))
      have i0 : (0 : Int) ≤ (k : Int) := by omega
      have i1 : (k : Int) < (n : Int) := by omega
      clear hcs hz
      go_wp2_with fail
      refine hC.out.mono ?_
      rintro e w2 ⟨rfl, hsv, hmm⟩
      have HW2 := Lib.hid (HW.out.trans hsv)
      have HMM := Lib.hid hmm
      clear hsv hmm c0 hC
      by_cases hq : z ∉ zs.take k ∧ 1 ≤ z
      · have hd : (!decide (z ∉ zs.take k ∧ 1 ≤ z)) = false := by simp [hq]
        rw [hd]
        have HM2 := Lib.hid (show MetM w2 m (zs.take (k + 1)) by rw [HZT.out]; exact HMM.out hq.1)
        have HO2 := Lib.hid (HZ.out.2 ⟨HOK.out, hq⟩)
        clear hq hd
        go_wp2_with fail
        go_roundw
        case rel => exact ⟨k + 1, by omega, by go_num, HW2, HM2, HO2⟩
        case measure => simp [intOf]; omega
      · have hd : (!decide (z ∉ zs.take k ∧ 1 ≤ z)) = true := by simp only [hq, decide_false, Bool.not_false]
        rw [hd]
        have HN := Lib.hid (show ¬ Rp.Once zs from fun h => hq (HZ.out.1 (jonce_cut (k + 1) h)).2)
        clear hq hd
        go_wp2_with fail
        go_ret
        exact ⟨⟨k, rfl, ⟨fun h => by omega, fun h => absurd h HN.out⟩⟩, HW2.out⟩
    · obtain rfl : k = n := by omega
      have HO := Lib.hid (show Rp.Once zs by have := HOK.out; rw [List.take_of_length_le (by omega)] at this; exact this)
      go_wp2_with fail
      go_ret
      exact ⟨⟨-1, rfl, ⟨fun _ => HO.out, fun _ => by decide⟩⟩, HW.out⟩
theorem containsM_any (A : Option Addr) (n c : Nat) (zs : List Int) (mb m : Nat) (w : World) (h : Row w A n c zs) (hn : n ≤ 1000000) (hi : ∀ z ∈ zs, In64 z) (hc : w.cell? ⟨mb, 0, none⟩ = some (.map (some m))) (hM : MetM w m []) (hne : mb ≠ m) (hA : ∀ ad, A = some ad → zs ≠ [] → ad.block ≠ m) :
    Calls Tryd.prog 76 #[.slice A n c, .func (.func 75) #[] #[.pointer (some ⟨mb, 0, none⟩)]] w fun e w' =>
      e = .returned (.bool (!decide (Rp.Once zs))) ∧ Sv m w w' := by
  have HC := Lib.hid (indexM_any A n c zs mb m w h hn hi hc hM hne hA)
  clear h hn hi hc hM hA
  go_enter Tryd.func76, Tryd.ntmps76
  go_wp2_with fail
  refine HC.out.mono ?_
  rintro e w1 ⟨⟨k, rfl, hk⟩, hsv⟩
  have HS := Lib.hid hsv
  have HK := Lib.hid hk
  clear HC hsv hk
  by_cases h0 : k < 0
  · go_wp2_with fail
    go_ret
    exact ⟨ret_bool (by simp [HK.out.1 h0]; omega), HS.out⟩
  · have h1 : 0 ≤ k := by omega
    have hno : ¬ Rp.Once zs := fun h => h0 (HK.out.2 h)
    have HNO := Lib.hid hno
    clear hno
    go_wp2_with fail
    go_ret
    exact ⟨ret_bool (by simp [HNO.out]), HS.out⟩
set_option maxRecDepth 100000 in
theorem eachOnce_any (A : Option Addr) (n c : Nat) (zs : List Int) (w : World) (h : Row w A n c zs) (hn : n ≤ 1000000) (hi : ∀ z ∈ zs, In64 z) :
    Calls Tryd.prog 68 #[.slice A n c] w fun e w' => e = .returned (.bool (decide (Rp.Once zs))) ∧ Below w.heap.size w w' := by
  obtain ⟨V, hV⟩ : ∃ V, V = (w.alloc (.map #[] 0)).alloc (.cells #[.map (some w.heap.size)] 96) := ⟨_, rfl⟩
  have hb1 := below_new w (.map #[] 0)
  have hs1 : (w.alloc (.map #[] 0)).heap.size = w.heap.size + 1 := by simp
  have hb2 := below_new (w.alloc (.map #[] 0)) (.cells #[.map (some w.heap.size)] 96)
  have hbV : Below w.heap.size w V := by rw [hV]; exact hb1.trans (hb2.mono hb1.size)
  have hc : V.cell? ⟨w.heap.size + 1, 0, none⟩ = some (.map (some w.heap.size)) := by rw [hV, ← hs1, World.cell?_alloc_at _ _ _ _ rfl]; rfl
  have hM : MetM V w.heap.size [] := by rw [hV]; exact (MetM.made w).keep (hb2.block _ (by simp))
  have HC := Lib.hid (containsM_any A n c zs (w.heap.size + 1) w.heap.size V (h.below hbV) hn hi hc hM (by omega) (fun ad hA hne => by have := row_block h hne hA; omega))
  have HB := Lib.hid hbV
  have E := Lib.hid hV
  have HSZ := Lib.hid (show w.heap.size ≤ V.heap.size from hbV.size)
  clear h hn hi hc hM hbV hb2 hs1 hb1 hV
  have hmm := @run_makeMap Tryd.prog
  go_enter Tryd.func68, Tryd.ntmps68
  go_wp2_with (rw [← E.out])
  refine HC.out.mono ?_
  rintro e w1 ⟨rfl, hsv⟩
  have HS := Lib.hid (hsv.below HB.out (Nat.le_refl _) HSZ.out)
  clear HC hsv
  go_wp2_with fail
  go_ret
  exact ⟨ret_bool (by simp), HS.out⟩
end Go.Proofs.YtcoccegmkcdeiaaDoor

