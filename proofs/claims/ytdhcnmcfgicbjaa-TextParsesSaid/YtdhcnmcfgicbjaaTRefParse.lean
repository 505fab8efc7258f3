/- The document's own way to read a text comes to the plain function to which text.Parse comes. -/
import Derived.Test.YtdhcnmcfgicbjaaTVertex
namespace Go.Proofs.Ytdhcnmcfgicbjaa
open Go.RowKit
set_option linter.unusedVariables false

theorem spec_all (s : ByteArray) (hs : s.size ≤ 2000) : ∀ d, d ≤ 3 → VSpec s d := by
  intro d
  induction d with
  | zero => intro _; exact spec_leaf s hs
  | succ d ih => intro h; exact spec_inner s hs d (by omega) (ih (by omega))
theorem sofar_run (l : List UInt8) : ∀ (cs : List UInt8) (σ : Tx.St) (pos : Nat), SoFar l σ pos → l.drop pos = cs → ∃ pos', SoFar l (Tx.run σ cs).1 pos' := by
  intro cs
  induction cs with
  | nil => intro σ pos h _; exact ⟨pos, h⟩
  | cons c cs ih =>
    intro σ pos h hd
    cases hg : Tx.goes σ.q c σ.lv
    · rw [Tx.run_no hg]; exact ⟨pos, h⟩
    · rw [Tx.run_yes hg]
      refine ih _ (pos + 1) (h.next hd hg) ?_
      rw [← List.drop_drop, hd]; rfl
theorem whole_fit (l : List UInt8) (hl : l.length ≤ 2000) (h1 : (Tx.vx 3 (-1) [] l).is = true) (h2 : (Tx.vx 3 (-1) [] l).l = []) : Fit (Tx.vx 3 (-1) [] l).t ∧ (Tx.vx 3 (-1) [] l).t.length ≤ 2000 := by
  have hc := (Tx.vx_came 3 (Nat.le_refl _) Tx.st0 l rfl (.inl (.inl rfl)) (fun _ => rfl)).1
  have hg := Tx.vx_grow 3 (-1) [] l
  simp only [show Tx.st0.ab Tx.st0.lv = -1 from rfl, show Tx.st0.vs = [] from rfl] at hc
  generalize Tx.vx 3 (-1) [] l = g at *
  obtain ⟨σ', e1, e2, _⟩ := hc h1
  rw [h2] at e1
  have e1 : Tx.run Tx.st0 l = (σ', []) := e1
  obtain ⟨pos, hs⟩ := sofar_run l l Tx.st0 0 (good0 l) (List.drop_zero)
  rw [e1] at hs
  have hs : SoFar l σ' pos := hs
  have hlen : g.t.length ≤ 2000 := by simp only [List.length_nil] at hg; omega
  refine ⟨fun x hx => ?_, hlen⟩
  obtain ⟨i, hi⟩ := List.mem_iff_getElem?.1 hx
  have hil := (List.getElem?_eq_some_iff.1 hi).1
  rw [← e2] at hi
  have := hs.vs i x hi
  exact ⟨⟨by omega, by omega⟩, ⟨by omega, by omega⟩⟩
set_option maxHeartbeats 1600000 in
theorem refParse_any (s : ByteArray) (w : World) (hs : s.size ≤ 2000) :
    Calls Try.prog 11 #[.string s] w (Parsed w (Tx.parse s.data.toList)) := by
  have hlen : s.data.toList.length = s.size := Array.length_toList
  have HS := Lib.hid (Tx.parse_same s.data.toList)
  have HV := spec_all s hs 3 (Nat.le_refl _) none 0 0 [] 0 (-1) 0 0 w rfl rfl (Nat.zero_le _) (Lib.hid rfl) (Nat.zero_le _) (VRow.nil _ _ _) (fun _ => rfl) (fun X _ ad e => by cases e)
  rw [List.drop_zero] at HV
  have HF := Lib.hid (whole_fit s.data.toList (by rw [hlen]; exact hs))
  have HD := Lib.hid (Tx.vx_drop 3 (-1) [] s.data.toList)
  obtain ⟨g, hg⟩ : ∃ g, g = Tx.vx 3 (-1) [] s.data.toList := ⟨_, rfl⟩
  rw [← hg] at HV HF HD
  have HP := Lib.hid (show Tx.parse s.data.toList = if g.is = true ∧ g.l = [] ∧ Tp.may g.t = true then (g.t, 0, 0) else ([], s.size - g.l.length, 2) by rw [← HS.out, Tx.parseV, ← hg, hlen])
  have HGL := Lib.hid (show g.l.length ≤ s.size by obtain ⟨m, hm⟩ := HD.out; rw [hm, List.length_drop, hlen]; omega)
  obtain ⟨a, ha⟩ : ∃ a, a = s.size - g.l.length := ⟨_, rfl⟩
  have HA := Lib.hid ha
  have HVV := Lib.hid HV
  clear hg ha hlen HS HD HV
  have has : a ≤ s.size := by have := HA.out; omega
  by_cases hi : g.is = true
  · by_cases hlt : a < s.size
    · have HR := Lib.hid (show Tx.parse s.data.toList = ([], a, 2) by
        rw [HP.out, if_neg, ← HA.out]; rintro ⟨_, h, _⟩; have := HA.out; rw [h] at this; simp at this; omega)
      have g1 : decide (a < s.size) = true := by simp; omega
      have HI := Lib.hid hi
      clear hi
      go_enter Try.func11, Try.ntmps11
      go_wp2_with fail
      refine HVV.out.mono ?_
      rintro e w1 ⟨A1, c1, rfl, hv1, hb1, _, _, _⟩
      rw [← HA.out, HI.out]
      have hb2 := Lib.hid (hb1.alloc hb1.size (.cells #[.slice A1 g.t.length c1, .int .i64 a, .bool true] 49))
      clear hb1
      go_wp2_with fail
      go_quiet (fail)
      go_wp2_with fail
      go_ret3
      exact ⟨none, 0, by rw [HR.out]; rfl, by rw [HR.out]; exact VRow.nil _ _ _, below_drewN hb2.out _⟩
    · have hnil : g.l = [] := List.length_eq_zero_iff.1 (by have h1 := HGL.out; have h2 := HA.out; omega)
      obtain ⟨hfit, hl2⟩ := HF.out hi hnil
      have HFIT := Lib.hid hfit
      have g1 : decide (a < s.size) = false := by simp; omega
      have HI := Lib.hid hi
      have HAS := Lib.hid (show a = s.size by omega)
      cases hm : Tp.may g.t
      · have HR := Lib.hid (show Tx.parse s.data.toList = ([], s.size, 2) by
          rw [HP.out, if_neg, ← HA.out, HAS.out]; rintro ⟨_, _, h⟩; rw [hm] at h; cases h)
        have HM := Lib.hid (show Tp.errno (Tp.may g.t) = 2 by rw [hm]; rfl)
        clear hi hnil hm hfit
        go_enter Try.func11, Try.ntmps11
        go_wp2_with fail
        refine HVV.out.mono ?_
        rintro e w1 ⟨A1, c1, rfl, hv1, hb1, _, _, _⟩
        rw [← HA.out, HI.out]
        have hb2 := Lib.hid (hb1.alloc hb1.size (.cells #[.slice A1 g.t.length c1, .int .i64 a, .bool true] 49))
        have hv2 := (hv1.below (below1 w1 (.cells #[.slice A1 g.t.length c1, .int .i64 a, .bool true] 49))).more (below1 w1 (.cells #[.slice A1 g.t.length c1, .int .i64 a, .bool true] 49)).size
        clear hb1 hv1
        go_wp2_with fail
        refine (refCheck_any A1 g.t.length c1 g.t _ (Lib.hid rfl) (by omega) HFIT hv2).mono ?_
        rintro e w2 ⟨rfl, hb3⟩
        rw [HM.out]
        have hb4 := hb2.out.trans (hb3.mono hb2.out.size)
        go_wp2_with fail
        go_ret3
        exact ⟨none, 0, by rw [HR.out]; rfl, by rw [HR.out]; exact VRow.nil _ _ _, hb4⟩
      · have HR := Lib.hid (show Tx.parse s.data.toList = (g.t, 0, 0) by
          rw [HP.out, if_pos ⟨hi, hnil, hm⟩])
        have HM := Lib.hid (show Tp.errno (Tp.may g.t) = 0 by rw [hm]; rfl)
        clear hi hnil hm hfit
        go_enter Try.func11, Try.ntmps11
        go_wp2_with fail
        refine HVV.out.mono ?_
        rintro e w1 ⟨A1, c1, rfl, hv1, hb1, _, _, _⟩
        rw [← HA.out, HI.out]
        have hc1 : (w1.alloc (.cells #[.slice A1 g.t.length c1, .int .i64 a, .bool true] 49)).cell? ⟨w1.heap.size, 0, none⟩ = some (.slice A1 g.t.length c1) := by rw [World.cell?_alloc_at _ _ _ _ rfl]; rfl
        have hb2 := Lib.hid (hb1.alloc hb1.size (.cells #[.slice A1 g.t.length c1, .int .i64 a, .bool true] 49))
        have hv2 := (hv1.below (below1 w1 (.cells #[.slice A1 g.t.length c1, .int .i64 a, .bool true] 49))).more (below1 w1 (.cells #[.slice A1 g.t.length c1, .int .i64 a, .bool true] 49)).size
        clear hb1 hv1
        go_wp2_with fail
        refine (refCheck_any A1 g.t.length c1 g.t _ (Lib.hid rfl) (by omega) HFIT hv2).mono ?_
        rintro e w2 ⟨rfl, hb3⟩
        rw [HM.out]
        have hb4 := hb2.out.trans (hb3.mono hb2.out.size)
        have hc2 := (hb3.cell (p := ⟨w1.heap.size, 0, none⟩) (by simp)).trans hc1
        have hv3 := (hv2.below hb3).more hb3.size
        clear hc1
        go_wp2_with fail
        go_ret3
        exact ⟨A1, c1, by rw [HR.out]; rfl, by rw [HR.out]; exact hv3, hb4⟩
  · have HR := Lib.hid (show Tx.parse s.data.toList = ([], a, 2) by
      rw [HP.out, if_neg, ← HA.out]; rintro ⟨h, _⟩; exact hi h)
    have HI := Lib.hid (show g.is = false from Bool.eq_false_iff.2 hi)
    clear hi
    go_enter Try.func11, Try.ntmps11
    go_wp2_with fail
    refine HVV.out.mono ?_
    rintro e w1 ⟨A1, c1, rfl, hv1, hb1, _, _, _⟩
    rw [← HA.out, HI.out]
    have hb2 := Lib.hid (hb1.alloc hb1.size (.cells #[.slice A1 g.t.length c1, .int .i64 a, .bool false] 49))
    clear hb1
    go_wp2_with fail
    go_quiet (fail)
    go_wp2_with fail
    go_ret3
    exact ⟨none, 0, by rw [HR.out]; rfl, by rw [HR.out]; exact VRow.nil _ _ _, below_drewN hb2.out _⟩
end Go.Proofs.Ytdhcnmcfgicbjaa

