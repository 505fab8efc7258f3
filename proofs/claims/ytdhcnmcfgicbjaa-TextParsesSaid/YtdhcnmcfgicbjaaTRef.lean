/- The document's own text, and the comparison of vertices, come to plain functions. -/
import Derived.Test.YtdhcnmcfgicbjaaTText
import Derived.Test.YtdhcnmcfgicbjaaRefCheck
namespace Go.Proofs.Ytdhcnmcfgicbjaa
open Go.RowKit
set_option linter.unusedVariables false

set_option maxHeartbeats 1600000 in
theorem refOfV_any (A : Option Addr) (n c : Nat) (vs : List (Int × Int)) (hT : Hid (Tp.Tree vs)) (hn : Hid (vs.length = n)) : ∀ (d : Nat), d ≤ 3 → ∀ (k : Nat) (x : Int × Int) (w : World), vs[k]? = some x → x.2 = ((3 - d : Nat) : Int) → VRow w w.heap.size A vs →
    Calls Try.prog 22 #[.slice A n c, .int .i64 k] w fun e w' => e = .returned (.string (str (Tx.tx vs d k))) ∧ Below w.heap.size w w' := by
  have h64 : n ≤ 64 := by have := hT.out.few; rw [hn.out] at this; exact this
  intro d
  induction d with
  | zero =>
    intro _ k x w hx hl hv
    obtain ⟨b, off, hA, hbk, _, hc2⟩ := hv k x hx
    subst hA
    have hk : k < n := by have := (List.getElem?_eq_some_iff.1 hx).1; rw [hn.out] at this; exact this
    rw [hl] at hc2
    clear hx hl
    go_enter Try.func22, Try.ntmps22
    go_wp2_with fail
    go_quiet (fail)
    go_wp2_with fail
    go_ret
    exact ⟨ret_str rfl, below_drewN (Below.refl _ _) _⟩
  | succ d ih =>
    intro hd k x w hx hl hv
    obtain ⟨b, off, hA, hbk, _, hc2⟩ := hv k x hx
    subst hA
    have hk : k < n := by have := (List.getElem?_eq_some_iff.1 hx).1; rw [hn.out] at this; exact this
    rw [hl] at hc2
    have HL := Lib.hid (Tx.tx_len hT.out (d + 1) hd k x hx hl)
    have HX := Lib.hid hx
    have hd3 : d = 0 ∨ d = 1 ∨ d = 2 := by omega
    have hne : ∀ z, z ∈ Tx.kidsL vs k → ∃ (j : Nat) (y : Int × Int), z = (j : Int) ∧ vs[j]? = some y ∧ y.2 = ((3 - d : Nat) : Int) := by
      intro z hz
      obtain ⟨j, y, e, hy, hp⟩ := Tp.mem_those.1 hz
      obtain ⟨_, u, hu, hl2⟩ := hT.out.kid hy (by simpa using hp)
      rw [HX.out] at hu
      injection hu with hu
      subst hu
      exact ⟨j, y, e, hy, by omega⟩
    have HNE := Lib.hid hne
    obtain ⟨P, hP⟩ : ∃ P, P = part vs d k := ⟨_, rfl⟩
    obtain ⟨F, hF⟩ : ∃ F, F = Tx.tx vs d := ⟨_, rfl⟩
    have HP0 := Lib.hid (show P 0 = [Tx.lt (2 - d), 40] by rw [hP]; rfl)
    have HP := Lib.hid (show ∀ j z, (Tx.kidsL vs k)[j]? = some z → P (j + 1) = P j ++ F z from fun j z h => by rw [hP, hF]; exact part_step vs d k j z h)
    have HB := Lib.hid (show ∀ j z, (Tx.kidsL vs k)[j]? = some z → (P j).length + (F z).length ≤ 731 from fun j z h => by rw [hP, hF]; exact Nat.le_trans (part_le vs d k j z h) (Nat.le_trans HL.out (big_le _)))
    have HE := Lib.hid (show Tx.tx vs (d + 1) k = P (Tx.kidsL vs k).length ++ [41] from by rw [hP]; exact part_end vs d k)
    have HF := Lib.hid (show (P (Tx.kidsL vs k).length).length ≤ 731 from by have h1 := congrArg List.length HE.out; rw [List.length_append] at h1; have h2 := HL.out; have h3 := big_le (d + 1); omega)
    have ih' : ∀ (j : Nat) (y : Int × Int) (W : World), vs[j]? = some y → y.2 = ((3 - d : Nat) : Int) → VRow W W.heap.size (some ⟨b, off, none⟩) vs → Calls Try.prog 22 #[.slice (some ⟨b, off, none⟩) n c, .int .i64 j] W fun e w' => e = .returned (.string (str (F j))) ∧ Below W.heap.size W w' := fun j y W h1 h2 h3 => by
      rw [hF]
      exact ih (by omega) j y W h1 h2 h3
    clear ih hne hP hF hx hl HL
    rcases hd3 with rfl | rfl | rfl
    all_goals
      go_enter Try.func22, Try.ntmps22
      go_wp2_with fail
      go_quiet (fail)
      go_wp2_with fail
      have hv0 := fun q => hv.below (below_drewN (Below.refl w.heap.size w) q)
      refine (refKids_any _ n c vs k _ hn (by omega) (by omega) (hv0 _)).mono ?_
      rintro e w1 ⟨A1, c1, rfl, hI, hb1⟩
      have hb1 : Below w.heap.size w w1 := (below_drewN (Below.refl _ _) _).trans hb1
      clear hv0
      obtain ⟨m, hm⟩ : ∃ m, (Tp.those (kidsP (k : Int)) vs).length = m := ⟨_, rfl⟩
      have HM := Lib.hid (show (Tx.kidsL vs k).length = m from hm)
      have hm9 : m ≤ 64 := by have := Tp.those_le (kidsP k) vs n; rw [List.take_of_length_le (by rw [hn.out]; exact Nat.le_refl _), hm] at this; omega
      rw [hm]
      clear hm
      go_wp2_with fail
      go_loopw [5, 7] (fun a i wr => ∃ j : Nat, j ≤ m ∧ i = .int .i64 j ∧ a = .string (str (P j)) ∧ Below w.heap.size w wr ∧ Below w1.heap.size w1 wr) (fun _ i _ => m - (intOf i).toNat)
      case atStart => exact ⟨0, Nat.zero_le _, rfl, by rw [HP0.out]; congr 1, hb1, Below.refl _ _⟩
      case round =>
        obtain ⟨j, hj, rfl, rfl, hbe, hbe1⟩ := hrel
        by_cases hlt : j < m
        · obtain ⟨z, hz⟩ : ∃ z, (Tx.kidsL vs k)[j]? = some z := ⟨_, List.getElem?_eq_getElem (by rw [HM.out]; exact hlt)⟩
          obtain ⟨b1, off1, hA1, hbk1, hcz⟩ := (hI.below hbe1) j z hz
          subst hA1
          obtain ⟨i, y, rfl, hy, hy2⟩ := HNE.out z (List.mem_of_getElem? hz)
          have HY := Lib.hid hy
          have HY2 := Lib.hid hy2
          have hadd : ∀ W, (Op.stringOp .add (str (P j)) (str (F i))).run Try.prog W = .ok (.string (str (P j ++ F i))) W := fun W => str_add W _ _ (by have := HB.out j i hz; omega)
          have H1 := Lib.hid (HP.out j i hz)
          have hvr := (hv.below hbe).more hbe.size
          clear hz hy hy2
          go_wp2_with fail
          refine (ih' i y _ HY.out HY2.out hvr).mono ?_
          rintro e w2 ⟨rfl, hb2⟩
          have hbe2 := hbe.trans (hb2.mono hbe.size)
          have hbe12 := hbe1.trans (hb2.mono hbe1.size)
          go_wp2_with fail
          go_roundw
          case rel => exact ⟨j + 1, by omega, by go_num, by rw [H1.out], hbe2, hbe12⟩
          case measure => simp [intOf]; omega
        · have hjm : j = m := by omega
          subst hjm
          have hadd : ∀ W, (Op.stringOp .add (str (P j)) ⟨#[41]⟩).run Try.prog W = .ok (.string (str (P j ++ [41]))) W := fun W => str_add W _ _ (by have h1 := HF.out; rw [HM.out] at h1; simp; omega)
          go_wp2_with fail
          go_ret
          exact ⟨ret_str (by rw [HE.out, HM.out]), hbe⟩
set_option maxHeartbeats 1600000 in
theorem refText_any (A : Option Addr) (n c : Nat) (vs : List (Int × Int)) (w : World)
    (hn : Hid (vs.length = n)) (hl : n ≤ 9223372036854775807) (hf : Hid (Fit vs)) (hv : VRow w w.heap.size A vs) :
    Calls Try.prog 13 #[.slice A n c] w (Told w (textR vs)) := by
  cases hm : Tp.may vs
  · have HM := Lib.hid (show Tp.errno (Tp.may vs) = 2 by rw [hm]; rfl)
    have HR := Lib.hid (show textR vs = ([], 2) by unfold textR; rw [hm]; rfl)
    clear hm
    go_enter Try.func13, Try.ntmps13
    go_wp2_with fail
    refine (refCheck_any A n c vs _ hn hl hf hv).mono ?_
    rintro e w1 ⟨rfl, hb1⟩
    rw [HM.out]
    go_wp2_with fail
    go_ret2
    exact ⟨by rw [HR.out]; rfl, hb1⟩
  · have HM := Lib.hid (show Tp.errno (Tp.may vs) = 0 by rw [hm]; rfl)
    have HR := Lib.hid (show textR vs = (Tx.tx vs 3 0, 0) by unfold textR; rw [hm]; rfl)
    have HT := Lib.hid ((Tp.tree_iff vs).1 hm)
    clear hm
    go_enter Try.func13, Try.ntmps13
    go_wp2_with fail
    refine (refCheck_any A n c vs _ hn hl hf hv).mono ?_
    rintro e w1 ⟨rfl, hb1⟩
    have hv1 := (hv.below hb1).more hb1.size
    rw [HM.out]
    go_wp2_with fail
    refine (refOfV_any A n c vs HT hn 3 (Nat.le_refl _) 0 (-1, 0) _ HT.out.first rfl hv1).mono ?_
    rintro e w2 ⟨rfl, hb2⟩
    go_wp2_with fail
    go_ret2
    exact ⟨by rw [HR.out]; rfl, hb1.trans (hb2.mono hb1.size)⟩
/-- Two lists that are one: true; and nothing that was there is another. -/
theorem refSame_any (A B : Option Addr) (n c d : Nat) (zs : List (Int × Int)) (w : World) (hn : Hid (zs.length = n)) (hl : n ≤ 9223372036854775807)
    (ha : VRow w w.heap.size A zs) (hb : VRow w w.heap.size B zs) :
    Calls Try.prog 14 #[.slice A n c, .slice B n d] w fun e w' => e = .returned (.bool true) ∧ Below w.heap.size w w' := by
  go_enter Try.func14, Try.ntmps14
  go_wp2
  go_loopw [5] (fun i wr => ∃ k : Nat, k ≤ n ∧ i = .int .i64 k ∧ Below w.heap.size w wr)
    (fun i _ => n - (intOf i).toNat)
  case atStart => exact ⟨0, Nat.zero_le _, rfl, Below.refl _ _⟩
  case round =>
    obtain ⟨k, hk, rfl, hbe⟩ := hrel
    by_cases hlt : k < n
    · obtain ⟨x, hx⟩ : ∃ x, zs[k]? = some x := ⟨_, List.getElem?_eq_getElem (by have := hn.out; omega)⟩
      obtain ⟨b, off, hA, hbk, hc, hd⟩ := (ha.below hbe) k x hx
      obtain ⟨b', off', hB, hbk', hc', hd'⟩ := (hb.below hbe) k x hx
      subst hA
      subst hB
      clear hx
      go_wp2
      go_quiet (fail)
      go_wp2
      go_roundw
      case rel => exact ⟨k + 1, by omega, by go_num, below_drewN hbe _⟩
      case measure => simp [intOf]; omega
    · go_wp2
      go_ret
      exact ⟨rfl, hbe⟩
end Go.Proofs.Ytdhcnmcfgicbjaa

