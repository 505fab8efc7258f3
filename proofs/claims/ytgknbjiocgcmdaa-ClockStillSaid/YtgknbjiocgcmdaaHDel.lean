/- slices.IndexFunc and slices.DeleteFunc at Drop's closure, by their contracts. -/
import Derived.Test.YtgknbjiocgcmdaaHPop
import Derived.Lib.SliceRun
namespace Go.Proofs.Ytgknbjiocgcmdaa
open Go.RowKit
set_option linter.unusedVariables false

set_option maxHeartbeats 1000000 in
theorem gone_any (x1 x2 x3 g : Int) (gb : Nat) (w : World) (hg : w.cell? ⟨gb, 0, none⟩ = some (.int .i64 g)) :
    Calls Try.prog 34 #[.agg #[.int .i64 x1, .int .i64 x2, .int .i64 x3], .pointer (some ⟨gb, 0, none⟩)] w fun e w' => e = .returned (.bool (x3 == g)) ∧ Below w.heap.size w w' := by
  have hb := below_new w (.cells #[.int .i64 x1, .int .i64 x2, .int .i64 x3] 62)
  have hg1 := keepcell hb hg
  have HB := Lib.hid hb
  clear hb
  go_enter Try.func34, Try.ntmps34
  go_wp2_with fail
  go_ret
  exact ⟨rfl, HB.out⟩
theorem gone_enters (args : Array Value) (w : World) : (callFunc 34 args).run Try.prog w = .ok (.enter 34 args) w := by kernel_rfl
set_option maxHeartbeats 1000000 in
theorem index_any (A : Option Addr) (n c : Nat) (ts : List Hp.Tm) (g : Int) (gb : Nat) (w : World) (h : TR w A n c ts) (hg : w.cell? ⟨gb, 0, none⟩ = some (.int .i64 g)) (hl : n ≤ 1000000) :
    Calls Try.prog 40 #[.slice A n c, .func (.func 34) #[] #[.pointer (some ⟨gb, 0, none⟩)]] w fun e w' =>
      ((e = .returned (.int .i64 (-1)) ∧ ∀ (j : Nat) x, ts[j]? = some x → x.2.2 ≠ g) ∨ (∃ k x, ts[k]? = some x ∧ e = .returned (.int .i64 (k : Nat)) ∧ x.2.2 = g ∧ ∀ (j : Nat) x, j < k → ts[j]? = some x → x.2.2 ≠ g)) ∧ Below w.heap.size w w' := by
  have H := Lib.hid h
  have hlen := h.len
  have HG := Lib.hid hg
  have hent := gone_enters
  clear h hg
  go_enter Try.func40, Try.ntmps40
  go_wp2_with fail
  go_loopw [8] (fun i wr => ∃ k : Nat, k ≤ n ∧ i = .int .i64 k ∧ Hid (Below w.heap.size w wr) ∧ Hid (∀ (j : Nat) x, j < k → ts[j]? = some x → x.2.2 ≠ g)) (fun i _ => n - (intOf i).toNat)
  case atStart => exact ⟨0, Nat.zero_le _, rfl, Lib.hid (Below.refl _ _), Lib.hid (fun j x hj => by omega)⟩
  case round =>
    obtain ⟨i, hi, rfl, HW, HA⟩ := hrel
    by_cases hlt : i < n
    · obtain ⟨x, hx⟩ : ∃ x, ts[i]? = some x := ⟨_, List.getElem?_eq_getElem (by omega)⟩
      obtain ⟨b, off, rfl, _, hc⟩ := H.out.cells (by omega)
      obtain ⟨c0, c1, c2⟩ := hc i x hx
      have c0 := keepcell HW.out c0
      have c1 := keepcell HW.out c1
      have c2 := keepcell HW.out c2
      obtain ⟨x1, x2, x3⟩ := x
      simp only at c0 c1 c2
      have HX := Lib.hid hx
      have hC := Lib.hid (gone_any x1 x2 x3 g gb wr (keepcell HW.out HG.out))
      have i0 : (0 : Int) ≤ (i : Int) := by omega
      have i1 : (i : Int) < (n : Int) := by omega
      clear hc hx
      go_wp2_with fail
      refine hC.out.mono ?_
      rintro e w2 ⟨rfl, hb⟩
      have HW2 := Lib.hid (HW.out.trans (hb.mono HW.out.size))
      clear hb c0 c1 c2 hC
      by_cases hgx : x3 = g
      · have t1 : (x3 == g) = true := by rw [beq_iff_eq]; exact hgx
        rw [t1]
        go_wp2_with fail
        go_ret
        exact ⟨.inr ⟨i, _, HX.out, rfl, hgx, HA.out⟩, HW2.out⟩
      · have t1 : (x3 == g) = false := by rw [beq_eq_false_iff_ne]; exact hgx
        rw [t1]
        have HA2 := Lib.hid (show ∀ (j : Nat) x, j < i + 1 → ts[j]? = some x → x.2.2 ≠ g from fun j x hj hx => by
          by_cases e : j = i
          · subst e; have := HX.out; rw [hx] at this; injection this with this; subst this; exact hgx
          · exact HA.out j x (by omega) hx)
        clear hgx
        go_wp2_with fail
        go_roundw
        case rel => exact ⟨i + 1, by omega, by go_num, HW2, HA2⟩
        case measure => simp [intOf]; omega
    · obtain rfl : i = n := by omega
      go_wp2_with fail
      go_ret
      exact ⟨.inl ⟨rfl, fun j x hj => HA.out j x (by have := (List.getElem?_eq_some_iff.1 hj).1; omega) hj⟩, HW.out⟩
theorem run_clear_tm (w : World) (ty : TypeId) (b o n c : Nat) (hn : 0 < n) (hc : ∀ j, j < n * 3 → (w.cell? ⟨b, o + j, none⟩).isSome = true) (hf : ∀ j, j < n * 3 → w.frozen? ⟨b, o + j, none⟩ = false) :
    (Builtin.clear_ #[25] ty #[.slice (some ⟨b, o, none⟩) n c]).run Try.prog w = .ok (.tuple #[]) (w.setCells b o (List.replicate (n * 3) (.int .i64 0))) := by
  have hzc : (Builtin.zeroCells #[Value.int .i64 0, Value.int .i64 0, Value.int .i64 0] n).toList = List.replicate (n * 3) (.int .i64 0) := by
    simp [Builtin.zeroCells]
    apply List.ext_getElem
    · simp
    · intro i h1 h2
      have hm : i % 3 = 0 ∨ i % 3 = 1 ∨ i % 3 = 2 := by omega
      rcases hm with e | e | e <;> simp [e]
  have hst := run_storeCells_cells (P := Try.prog) b o (List.replicate (n * 3) (Value.int .i64 0)) 0 w (by simpa using hc) (by simpa using hf) (by intro v hv'; rw [List.eq_of_mem_replicate hv']; rfl)
  simp only [Nat.add_zero] at hst
  have hv : ∀ w, (zeroValue 62).run Try.prog w = .ok (.agg #[.int .i64 0, .int .i64 0, .int .i64 0]) w := Try.zeroValue62
  have hz : (Value.agg #[.int .i64 0, .int .i64 0, .int .i64 0]).cells = #[.int .i64 0, .int .i64 0, .int .i64 0] := by first | rfl | kernel_rfl
  obtain ⟨m, rfl⟩ : ∃ m, n = m + 1 := ⟨n - 1, by omega⟩
  simp [Builtin.clear_, run_underlying Try.underlying25, hv, hz, hzc, hst]
theorem own_beyond {w : World} {base g n c o : Nat} {e : TypeId} {size : Nat} {xs : List Value} (h : w.ownsRow base e size (.slice (some ⟨g, 0, none⟩) n c) n xs) (ho : n * size ≤ o) (u : Value) : (w.setCell ⟨g, o, none⟩ u).ownsRow base e size (.slice (some ⟨g, 0, none⟩) n c) n xs := by
  have h1 := (h.stored o u).1
  rwa [List.set_eq_of_length_le (by rw [h.1]; exact ho)] at h1
theorem own_beyonds {base g n c : Nat} {e : TypeId} {size : Nat} {xs : List Value} : ∀ (vs : List Value) (o : Nat) (w : World), w.ownsRow base e size (.slice (some ⟨g, 0, none⟩) n c) n xs → n * size ≤ o → (w.setCells g o vs).ownsRow base e size (.slice (some ⟨g, 0, none⟩) n c) n xs := by
  intro vs
  induction vs with
  | nil => intro o w h _; exact h
  | cons v r ih => intro o w h ho; exact ih (o + 1) _ (own_beyond h ho v) (by omega)
theorem kept_setCells {F : Nat → Prop} {a : World} {g : Nat} (hg : F g) : ∀ (vs : List Value) (o : Nat) (w : World), Kept F a w → Kept F a (w.setCells g o vs) := by
  intro vs
  induction vs with
  | nil => intro o w h; exact h
  | cons v r ih => intro o w h; exact ih (o + 1) _ (h.setCell ⟨g, o, none⟩ hg v)
/-- Of a row those of one G are dropped in place. -/
def Dropped (gr n c : Nat) (ts : List Hp.Tm) (g : Int) (w : World) (e : Ending) (w' : World) : Prop :=
  e = .returned (.slice (some ⟨gr, 0, none⟩) (Hp.others ts g).length c) ∧ w'.ownsRow 0 62 3 (.slice (some ⟨gr, 0, none⟩) (Hp.others ts g).length c) (Hp.others ts g).length (tcells (Hp.others ts g)) ∧ Kept (fun k => k = gr) w w'
set_option maxRecDepth 100000 in
set_option maxHeartbeats 2000000 in
theorem delete_any (gr n c : Nat) (ts : List Hp.Tm) (g : Int) (gb : Nat) (w : World) (h : w.ownsRow 0 62 3 (.slice (some ⟨gr, 0, none⟩) n c) n (tcells ts)) (hg : w.cell? ⟨gb, 0, none⟩ = some (.int .i64 g)) (hne : gb ≠ gr) (hl : n ≤ 1000000) :
    Calls Try.prog 33 #[.slice (some ⟨gr, 0, none⟩) n c, .func (.func 34) #[] #[.pointer (some ⟨gb, 0, none⟩)]] w (Dropped gr n c ts g w) := by
  obtain ⟨A', c', e, hr, _⟩ := TR.of_own h
  injection e with e1 e2 e3
  subst e1 e3
  have hlen := hr.len
  have hcap := hr.cap
  have hmost := hr.most
  have HI := Lib.hid (index_any _ n c ts g gb w hr hg hl)
  have HO := Lib.hid h
  have HG := Lib.hid hg
  have hent := gone_enters
  clear h hg hr
  go_enter Try.func33, Try.ntmps33
  go_wp2_with fail
  refine HI.out.mono ?_
  rintro e w1 ⟨(⟨rfl, hA⟩ | ⟨k, x, hx, rfl, hxg, hA⟩), hb⟩
  · have ho := Hp.others_all hA
    have HE := Lib.hid ho
    have HO1 := Lib.hid (own_below HO.out hb)
    have HK := Lib.hid (Kept.of_below (F := fun k => k = gr) hb)
    clear hA ho hb HI
    go_wp2_with fail
    go_ret
    refine ⟨by rw [HE.out, hlen]; rfl, by rw [HE.out, hlen]; exact HO1.out, HK.out⟩
  · have hkn : k < n := by have := (List.getElem?_eq_some_iff.1 hx).1; omega
    have HD := Lib.hid (Hp.Del.start hx hxg hA)
    have HO1 := Lib.hid (own_below HO.out hb)
    have HK := Lib.hid (Kept.of_below (F := fun k => k = gr) hb)
    have hne1 : ((k : Int) == -1) = false := by rw [beq_eq_false_iff_ne]; omega
    clear hA hb HI hx hxg
    go_wp2_with fail
    go_loopw [5, 6] (fun a d wr => ∃ (i j : Nat) (m : List Hp.Tm), a = .int .i64 i ∧ d = .int .i64 j ∧ i < j ∧ j ≤ n ∧ Hid (Hp.Del ts m g i j) ∧ Hid (wr.ownsRow 0 62 3 (.slice (some ⟨gr, 0, none⟩) n c) n (tcells m)) ∧ Hid (Kept (fun k => k = gr) w wr)) (fun _ d _ => n - (intOf d).toNat)
    case atStart => exact ⟨k, k + 1, ts, rfl, by go_num, by omega, by omega, HD, HO1, HK⟩
    case round =>
      clear HD HO1 HK hne1
      obtain ⟨i, j, m, rfl, rfl, hij, hjn, HD, HO1, HK⟩ := hrel
      obtain ⟨A', c', e, hr, _⟩ := TR.of_own HO1.out
      injection e with e1 e2 e3
      subst e1 e3
      have hml := hr.len
      by_cases hlt : j < n
      · obtain ⟨x, hx⟩ : ∃ x, ts[j]? = some x := ⟨_, List.getElem?_eq_getElem (by omega)⟩
        have hxm : m[j]? = some x := by rw [HD.out.rest j (Nat.le_refl _)]; exact hx
        obtain ⟨b, off, e, _, hc⟩ := hr.cells (by omega)
        injection e with e
        injection e with e1 e2
        subst e1 e2
        obtain ⟨c0, c1, c2⟩ := hc j x hxm
        obtain ⟨x1, x2, x3⟩ := x
        simp only [Nat.zero_add] at c0 c1 c2
        have HX := Lib.hid hx
        obtain ⟨W2, hW2, y0, y1, y2, yf, hb2⟩ := new3v wr (.int .i64 x1) (.int .i64 x2) (.int .i64 x3) 62
        have hgw := hb2.size
        have hC := Lib.hid (gone_any x1 x2 x3 g gb W2 (keepcell hb2 (HK.out.cell HG.out hne)))
        have i0 : (i : Int) < (n : Int) := by omega
        have j1 : (j : Int) < (n : Int) := by omega
        have HO2 := Lib.hid (own_below HO1.out hb2)
        have HK2 := Lib.hid (HK.out.trans (Kept.of_below (F := fun k => k = gr) hb2))
        clear hc hx hxm hr yf hb2 hgw
        subst hW2
        go_wp2_with fail
        generalize wr.alloc (.cells #[.int .i64 x1, .int .i64 x2, .int .i64 x3] 62) = W2 at *
        refine hC.out.mono ?_
        rintro e w3 ⟨rfl, hb3⟩
        have y0 := keepcell hb3 y0
        have y1 := keepcell hb3 y1
        have y2 := keepcell hb3 y2
        have ho3 := own_below HO2.out hb3
        have HO3 := Lib.hid ho3
        have HK3 := Lib.hid (HK2.out.trans (Kept.of_below (F := fun k => k = gr) hb3))
        obtain ⟨A', c', e, hr, _⟩ := TR.of_own ho3
        injection e with e1 e2 e3
        subst e1 e3
        obtain ⟨z, hz⟩ : ∃ z, m[i]? = some z := ⟨_, List.getElem?_eq_getElem (by omega)⟩
        obtain ⟨b, off, e, _, hc⟩ := hr.cells (by omega)
        injection e with e
        injection e with e1 e2
        subst e1 e2
        obtain ⟨z0, z1, z2⟩ := hc i z hz
        obtain ⟨za, zb, zc⟩ := z
        simp only [Nat.zero_add] at z0 z1 z2
        have f0 := own_free ho3 (i * 3)
        have f1 := own_free ho3 (i * 3 + 1)
        have f2 := own_free ho3 (i * 3 + 2)
        clear hb3 ho3 hr hc hz hC HO2 HK2 c0 c1 c2
        by_cases hgx : x3 = g
        · have t1 : (x3 == g) = true := by rw [beq_iff_eq]; exact hgx
          rw [t1]
          have HD1 := Lib.hid (HD.out.skip HX.out hgx)
          clear hgx
          go_wp2_with fail
          go_roundw
          case rel => exact ⟨i, j + 1, m, rfl, by go_num, by omega, by omega, HD1, HO3, HK3⟩
          case measure => simp [intOf]; omega
        · have t1 : (x3 == g) = false := by rw [beq_eq_false_iff_ne]; exact hgx
          rw [t1]
          have HD1 := Lib.hid (HD.out.keep HX.out hgx)
          have HO4 := Lib.hid (own_put HO3.out i (by omega) (x1, x2, x3))
          have HK4 := Lib.hid (kept_put3 _ HK3.out gr (i * 3) (x1, x2, x3) rfl)
          clear hgx
          go_wp2_with fail
          go_roundw
          case rel => exact ⟨i + 1, j + 1, m.set i (x1, x2, x3), by go_num, by go_num, by omega, by omega, HD1, HO4, HK4⟩
          case measure => simp [intOf]; omega
      · obtain rfl : j = n := by omega
        have hcnt := HD.out
        rw [← hlen] at hcnt
        have hover := hcnt.over
        have hcount := hcnt.count
        have hcl : ∀ ty, (Builtin.clear_ #[25] ty #[.slice (some ⟨gr, i * 3, none⟩) (j - i) (c - i)]).run Try.prog wr = .ok (.tuple #[]) (wr.setCells gr (i * 3) (List.replicate ((j - i) * 3) (.int .i64 0))) :=
          fun ty => run_clear_tm wr ty gr (i * 3) (j - i) (c - i) (by omega) (fun t ht => by rw [HO1.out.cellAt _ (by omega)]; rw [List.getElem?_eq_getElem (by rw [tcells_length]; omega)]; rfl) (fun t ht => own_free HO1.out _)
        have HOE := Lib.hid (own_beyonds (List.replicate ((j - i) * 3) (.int .i64 0)) (i * 3) wr (own_tcut HO1.out i (by omega)) (by omega))
        have HKE := Lib.hid (kept_setCells (F := fun k => k = gr) (g := gr) rfl (List.replicate ((j - i) * 3) (.int .i64 0)) (i * 3) wr HK.out)
        have HV := Lib.hid hover
        have HC := Lib.hid hcount
        clear hcnt hover hcount hr
        go_wp2_with fail
        go_ret
        refine ⟨by rw [HC.out]; rfl, ?_, HKE.out⟩
        rw [HC.out, ← HV.out]
        exact HOE.out
end Go.Proofs.Ytgknbjiocgcmdaa

