/- The landed Parse, by its contract. -/
import Derived.Test.YtejhlenckdkonaaDoorCLRead
namespace Go.Proofs.YtejhlenckdkonaaDoor
open Go.RowKit
set_option linter.unusedVariables false
set_option maxRecDepth 100000

def strSz : Value → Nat
  | .string s => s.size
  | _ => 0
theorem strSz_str (T : List UInt8) : strSz (.string (str T)) = T.length := str_size T
theorem errA {S T a b : List UInt8} {f : Bool} {out : List (Int × Int)} {d : Nat} (hP : Cp.parse S = Cp.pf T [] out) (hp : Cp.Parts T a b f 10) (hT : ¬ T = []) (hr : Cp.rd a = none) (hl : out.length = d) : Cp.parse S = ([], d, 2) := by
  rw [hP, ← hl]
  rcases hp with ⟨_, _, _, h⟩ | ⟨e, _, h⟩
  · exact Cp.pf_end h [] out (by simpa using hT)
  · rw [e, Cp.pf_line a h b [] out, List.nil_append, hr]
theorem errB {S T a b : List UInt8} {out : List (Int × Int)} {d : Nat} (hP : Cp.parse S = Cp.pf T [] out) (hp : Cp.Parts T a b false 10) (hT : ¬ T = []) (hl : out.length = d) : Cp.parse S = ([], d, 2) := by
  rw [hP, ← hl]
  rcases hp with ⟨_, _, _, h⟩ | ⟨_, e, _⟩
  · exact Cp.pf_end h [] out (by simpa using hT)
  · cases e
theorem goesOn {S T a b : List UInt8} {out : List (Int × Int)} {x : Int × Int} (hP : Cp.parse S = Cp.pf T [] out) (hp : Cp.Parts T a b true 10) (hr : Cp.rd a = some x) : Cp.parse S = Cp.pf b [] (out ++ [x]) := by
  rw [hP]
  rcases hp with ⟨_, _, e, _⟩ | ⟨e, _, h⟩
  · cases e
  · rw [e, Cp.pf_line a h b [] out, List.nil_append, hr]
theorem shorter {T a b : List UInt8} (hp : Cp.Parts T a b true 10) : b.length + 1 ≤ T.length := by
  rcases hp with ⟨_, _, e, _⟩ | ⟨e, _, h⟩
  · cases e
  · rw [e]; simp
set_option maxHeartbeats 8000000 in
theorem parse_any (S : List UInt8) (w : World) (hS : S.length ≤ 100000) (hE : MetE w) :
    Calls Tryd.prog 12 #[.string (str S)] w (PTold w (Cp.parse S)) := by
  obtain ⟨i0, hi, hz0, hz1, hz2⟩ := info_parts info_ins
  have HE := Lib.hid hE
  clear hE
  go_enter Tryd.func12, Tryd.ntmps12
  go_wp2_with fail
  go_loopw [0, 5] (fun s v wr => ∃ (T : List UInt8) (d : Nat) (out : List (Int × Int)), s = .string (str T) ∧ T.length + d ≤ 100000 ∧ wr.ownsRow w.heap.size 42 2 v d (vcells out) ∧ Hid (Cp.parse S = Cp.pf T [] out) ∧ Hid (Below w.heap.size w wr)) (fun s _ _ => strSz s)
  case atStart => exact ⟨S, 0, [], rfl, by omega, World.ownsRow_nil _ _ _ _, Lib.hid rfl, Lib.hid (Below.refl _ _)⟩
  case round =>
    obtain ⟨T, d, out, rfl, hTd, hown, HP, HB⟩ := hrel
    have hlen := own_vlen hown
    by_cases hT : T = []
    · subst hT
      have HPE := Lib.hid (show Cp.parse S = (out, 0, 0) by rw [HP.out]; rfl)
      have q0 := str_none
      have HLE := Lib.hid hlen
      obtain ⟨Av, cv, rfl, hcap, hmost, hnil, hvr⟩ := own_vform hown
      have HV := Lib.hid hvr
      have HNI := Lib.hid hnil
      clear hown hvr hlen hnil
      go_wp2_with fail
      refine bodyPost_ret (v := .tuple #[.slice Av d cv, .int .i64 0, .int .i64 0]) (by simp [results, Tryd.results12, go_sem]) rfl ?_
      rw [HPE.out]
      exact ⟨Av, d, cv, rfl, HLE.out, hcap, hmost, HNI.out, HV.out, HB.out⟩
    · have q0 := str_some hT
      have hTl : T.length ≤ 1000000 := by omega
      have HE1 := Lib.hid (HE.out.step HB.out)
      have HTN := Lib.hid hT
      have HLE := Lib.hid hlen
      clear hT hlen
      go_wp2_with fail
      refine (cut_any T 10 wr hTl).mono ?_
      rintro e w1 ⟨a, b, f, rfl, hb1, hp⟩
      have HP1 := Lib.hid hp
      have HB1 := Lib.hid (HB.out.trans (hb1.mono HB.out.size))
      have HE2 := Lib.hid (HE1.out.step hb1)
      have hal : a.length ≤ 1000000 := by
        rcases hp with ⟨e, _, _, _⟩ | ⟨e, _, _⟩
        · rw [e]; exact hTl
        · rw [e] at hTl; simp at hTl; omega
      have hown1 := own_below hown hb1
      clear hb1 hp hown
      go_wp2_with fail
      refine (read_any a w1 hal HE2.out).mono ?_
      rintro e w2 ⟨x, y, rfl, hb2, hxy⟩
      have HB2 := Lib.hid (HB1.out.trans (hb2.mono HB1.out.size))
      have HXY := Lib.hid hxy
      have hown2 := own_below hown1 hb2
      have HBA := Lib.hid (HB2.out.alloc HB2.out.size (.cells #[.int .i64 x, .int .i64 y] 42))
      clear hb2 hxy hown1
      cases hr : Cp.rd a with
      | none =>
        have HR := Lib.hid hr
        clear hr
        obtain ⟨Av, cv, rfl, _⟩ := own_vform hown2
        clear hown2
        have HCE := Lib.hid (show Cp.parse S = ([], d, 2) from (errA HP.out HP1.out HTN.out HR.out HLE.out))
        go_wp2_with fail
        refine bodyPost_ret (v := .tuple #[.slice none 0 0, .int .i64 (d : Nat), .int .i64 2]) (by simp [results, Tryd.results12, go_sem]) rfl ?_
        exact PTold.none HBA.out _ HCE.out
      | some p =>
        have HR := Lib.hid hr
        have hp := HXY.out p hr
        subst hp
        clear hr
        cases f with
        | false =>
          obtain ⟨Av, cv, rfl, _⟩ := own_vform hown2
          clear hown2
          have HCE := Lib.hid (show Cp.parse S = ([], d, 2) from (errB HP.out HP1.out HTN.out HLE.out))
          go_wp2_with fail
          refine bodyPost_ret (v := .tuple #[.slice none 0 0, .int .i64 (d : Nat), .int .i64 2]) (by simp [results, Tryd.results12, go_sem]) rfl ?_
          exact PTold.none HBA.out _ HCE.out
        | true =>
          have HM := Lib.hid (goesOn HP.out HP1.out HR.out)
          have HTb := Lib.hid (shorter HP1.out)
          have hown3 := hown2.alloc (.cells #[.int .i64 x, .int .i64 y] 42)
          have hlen3 := HLE.out
          go_wp2_with (at_builtin; refine wpList_append_own _ rfl _ _ 24 rfl w.heap.size 42 i0 (.agg #[.int .i64 0, .int .i64 0]) 2 16 Tryd.underlying24 hi hz0 hz1 hz2 rfl (by decide) _ _ _ rfl (hown3.alloc _) ⟨w2.heap.size + 1, 0, none⟩ 1 1 (vcells [(x, y)]) rfl rfl ?c1 ?c2 ?c3 ?c4 ?c5 ?_)
          case c1 => have := two_cells (w2.alloc (.cells #[.int .i64 x, .int .i64 y] 42)) x y 42; simpa using this
          case c2 => exact vcells_one' _
          case c3 => unfold maxLen; omega
          case c4 => omega
          case c5 => have := HB2.out.size; simp; omega
          intro v' w5 hownA hg _
          have HO := Lib.hid (show w5.ownsRow w.heap.size 42 2 v' (d + 1) (vcells (out ++ [(x, y)])) by rw [vcells_append]; exact hownA)
          have HB5 := Lib.hid ((HBA.out.alloc HBA.out.size (.cells #[.int .i64 x, .int .i64 y] 42)).grown hg (by have := HBA.out.size; simp at this; simp; omega) (fun j hj => (hown3.lt j hj).1))
          clear hownA hg hown2 hown3 hlen3
          go_wp2_with fail
          go_roundw
          case rel => exact ⟨b, d + 1, out ++ [(x, y)], rfl, by have := HTb.out; omega, HO.out, HM, HB5⟩
          case measure => have := HTb.out; rw [strSz_str, strSz_str]; omega
end Go.Proofs.YtejhlenckdkonaaDoor

