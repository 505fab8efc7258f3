/- steal.isThief, by its contract. -/
import Derived.Test.YtdohnhdjlhaaaaaGreatDoorM7
import Derived.Test.YtdohnhdjlhaaaaaGreatDoorYFind
import Derived.Test.YtdohnhdjlhaaaaaGreatDoorM5
namespace Go.Proofs.YtdohnhdjlhaaaaaGreatDoor
open Go.RowKit
set_option linter.unusedVariables false

set_option maxRecDepth 100000 in
set_option maxHeartbeats 2000000 in
theorem isThief_any {F : Nat → Prop} (d : Ad) (r : Jp.Rn) (p : Int) (T : Bool) (w : World) (HT : Hid (T = true ↔ Jp.Thief r p)) (h : RM F w d r) (hlow : Low r) (hp : In64 p) (hT : Tab w) :
    Calls Tryz.prog 28 #[jv d r, .int .i64 p] w fun e w' => e = .returned (.bool T) ∧ Below w.heap.size w w' := by
  obtain ⟨A0, nt, ct, R, nr, cr, S, ns, cs⟩ := d
  have H := Lib.hid h
  have HL := Lib.hid hlow
  have HTW := Lib.hid hT
  have HP := Lib.hid hp
  obtain ⟨V, hV, hX, hB⟩ := B5.start w (.slice A0 nt ct) (.int .i64 r.size) (.slice R nr cr) (.slice S ns cs) (.int .u64 (r.on : Nat)) 33
  have E := Lib.hid hV
  have X0 := Lib.hid hX
  have B0 := Lib.hid hB
  obtain ⟨Tb, hTb⟩ : ∃ Tb : Bool, (Tb = true ↔ Jp.May r) := by
    by_cases h : Jp.May r
    · exact ⟨true, by simp [h]⟩
    · exact ⟨false, by simp [h]⟩
  have HTB := Lib.hid hTb
  have hMY := runsMay_any ⟨A0, nt, ct, R, nr, cr, S, ns, cs⟩ r Tb V HTB (H.out.below B0.out) HL.out (hT.step B0.out)
  unfold jv at hMY
  simp only at hMY
  have MY := Lib.hid hMY
  have q0 := hX.c0
  have q1 := hX.c1
  have q2 := hX.c2
  have q3 := hX.c3
  have q4 := hX.c4
  clear hV hX hB hMY hTb h hlow hT hp
  unfold jv
  go_enter Tryz.func28, Tryz.ntmps28
  go_wp2_with (rw [← E.out])
  clear E
  refine MY.out.mono ?_
  rintro e w1 ⟨rfl, hb1⟩
  have X1 := Lib.hid (X0.out.step hb1)
  have B1 := Lib.hid (held_trans B0.out hb1)
  clear q0 q1 q2 q3 q4 MY X0 B0 hb1
  cases Tb
  · have HTF : T = false := by
      cases T with
      | false => rfl
      | true => have := (HT.out.1 rfl).may; have := HTB.out.2 this; cases this
    subst HTF
    go_wp2_with fail
    go_ret
    exact ⟨rfl, B1.out⟩
  have HMAY := Lib.hid (HTB.out.1 rfl)
  have q4 := X1.out.c4
  have hon := fun W => has_any r.on p W H.out.on
  rw [has_onP] at hon
  obtain ⟨ob, hob⟩ : ∃ ob, ob = Jp.onP r p := ⟨_, rfl⟩
  rw [← hob] at hon
  have HOB := Lib.hid hob
  have ON := Lib.hid hon
  clear hon hob HTB
  go_wp2_with fail
  refine (ON.out _).mono ?_
  rintro e w2 ⟨rfl, hb2⟩
  have X2 := Lib.hid (X1.out.step hb2)
  have B2 := Lib.hid (held_trans B1.out hb2)
  clear hb2 X1 B1 q4 ON
  cases ob
  · have HTF : T = false := by
      cases T with
      | false => rfl
      | true => have := (HT.out.1 rfl).on; rw [← HOB.out] at this; cases this
    subst HTF
    go_wp2_with fail
    go_ret
    exact ⟨rfl, B2.out⟩
  have q0 := X2.out.c0
  have q1 := X2.out.c1
  have q2 := X2.out.c2
  have q3 := X2.out.c3
  have q4 := X2.out.c4
  have hLO := findLocal_any ⟨A0, nt, ct, R, nr, cr, S, ns, cs⟩ r p 0 w2 (H.out.below B2.out).bound (fun b hb => hb.2) HL.out HP.out (by unfold In64; omega) (HTW.out.step B2.out)
  obtain ⟨⟨r', g', pl⟩, hlo⟩ : ∃ x, x = Jp.loc r p 0 := ⟨_, rfl⟩
  have HTV : T = (pl == 0) := by
    have h1 := Jp.thief_loc HMAY.out HOB.out.symm
    rw [← hlo] at h1
    simp only at h1
    have h2 := HT.out.trans h1
    cases T with
    | true => rw [h2.1 rfl]; rfl
    | false =>
      by_cases h3 : pl = 0
      · have := h2.2 h3; cases this
      · exact (beq_eq_false_iff_ne.2 h3).symm
  subst HTV
  rw [← hlo] at hLO
  unfold jv at hLO
  simp only at hLO
  have LO := Lib.hid hLO
  clear hLO hlo HT
  go_wp2_with fail
  refine LO.out.mono ?_
  rintro e w3 ⟨⟨T1, nt1, ct1, R1, nr1, cr1, S1, ns1, cs1⟩, rfl, _, hb3⟩
  have B3 := Lib.hid (held_trans B2.out hb3)
  unfold jv
  simp only
  have hb4 := below_new w3 (.cells #[.slice T1 nt1 ct1, .int .i64 r'.size, .slice R1 nr1 cr1, .slice S1 ns1 cs1, .int .u64 (r'.on : Nat)] 33)
  have B4 := Lib.hid (held_trans B3.out hb4)
  clear hb3 hb4 q0 q1 q2 q3 q4 LO X2
  go_wp2_with fail
  go_ret
  exact ⟨rfl, B4.out⟩
end Go.Proofs.YtdohnhdjlhaaaaaGreatDoor

