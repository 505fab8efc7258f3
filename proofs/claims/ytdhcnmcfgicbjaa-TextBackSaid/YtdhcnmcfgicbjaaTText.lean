/- text.below, text.Text and text.Same come to plain functions of the vertices. -/
import Derived.Test.YtdhcnmcfgicbjaaTParse
namespace Go.Proofs.Ytdhcnmcfgicbjaa
open Go.RowKit
set_option linter.unusedVariables false

def str (l : List UInt8) : ByteArray := ⟨l.toArray⟩
theorem str_size (l : List UInt8) : (str l).size = l.length := by show l.toArray.size = _; simp
theorem str_append (a b : List UInt8) : str a ++ str b = str (a ++ b) := ByteArray.mk_append_mk a b
theorem str_add (w : World) (a b : List UInt8) (h : a.length + b.length ≤ 9223372036854775807) : (Op.stringOp .add (str a) (str b)).run Try.prog w = .ok (.string (str (a ++ b))) w := by
  rw [run_string_add_sum w _ _ (by rw [str_size, str_size]; exact h), str_append]
theorem ret_str {a b : ByteArray} (h : a = b) : Ending.returned (.string a) = .returned (.string b) := by rw [h]
/-- A vertex' text, as far as it has come behind its j-th kid. -/
def part (vs : List (Int × Int)) (d k j : Nat) : List UInt8 := Tx.lt (2 - d) :: 40 :: ((Tx.kidsL vs k).take j).flatMap (Tx.tx vs d)
theorem part_step (vs : List (Int × Int)) (d k j : Nat) (z : Int) (h : (Tx.kidsL vs k)[j]? = some z) : part vs d k (j + 1) = part vs d k j ++ Tx.tx vs d z := by
  unfold part
  rw [List.take_add_one, h, List.flatMap_append]
  simp
theorem part_end (vs : List (Int × Int)) (d k : Nat) : Tx.tx vs (d + 1) k = part vs d k (Tx.kidsL vs k).length ++ [41] := by
  rw [Tx.tx_succ]
  unfold part
  rw [List.take_of_length_le (Nat.le_refl _)]
  simp
theorem part_le (vs : List (Int × Int)) (d k j : Nat) (z : Int) (h : (Tx.kidsL vs k)[j]? = some z) : (part vs d k j).length + (Tx.tx vs d z).length ≤ (Tx.tx vs (d + 1) k).length := by
  have hj := (List.getElem?_eq_some_iff.1 h).1
  have e : (Tx.kidsL vs k) = (Tx.kidsL vs k).take (j + 1) ++ (Tx.kidsL vs k).drop (j + 1) := (List.take_append_drop _ _).symm
  rw [part_end, ← List.length_append, ← part_step vs d k j z h]
  unfold part
  rw [List.take_of_length_le (Nat.le_refl _)]
  conv => rhs; rw [e, List.flatMap_append]
  simp
theorem big_le (d : Nat) : Tx.big d ≤ 731 := by
  unfold Tx.big; split <;> omega
set_option maxHeartbeats 1600000 in
theorem below_any (A : Option Addr) (n c : Nat) (vs : List (Int × Int)) (hT : Hid (Tp.Tree vs)) (hn : Hid (vs.length = n)) : ∀ (d : Nat), d ≤ 3 → ∀ (k : Nat) (x : Int × Int) (w : World), vs[k]? = some x → x.2 = ((3 - d : Nat) : Int) → VRow w w.heap.size A vs →
    Calls Try.prog 21 #[.slice A n c, .int .i64 k] w fun e w' => e = .returned (.string (str (Tx.tx vs d k))) ∧ Below w.heap.size w w' := by
  have h64 : n ≤ 64 := by have := hT.out.few; rw [hn.out] at this; exact this
  intro d
  induction d with
  | zero =>
    intro _ k x w hx hl hv
    obtain ⟨b, off, hA, hbk, _, hc2⟩ := hv k x hx
    subst hA
    have hk : k < n := by have := (List.getElem?_eq_some_iff.1 hx).1; rw [hn.out] at this; exact this
    rw [hl] at hc2
    clear hx hl
    go_enter Try.func21, Try.ntmps21
    go_wp2_with fail
    go_ret
    exact ⟨ret_str rfl, Below.refl _ _⟩
  | succ d ih =>
    intro hd k x w hx hl hv
    obtain ⟨b, off, hA, hbk, _, hc2⟩ := hv k x hx
    subst hA
    have hk : k < n := by have := (List.getElem?_eq_some_iff.1 hx).1; rw [hn.out] at this; exact this
    rw [hl] at hc2
    have HL := Lib.hid (Tx.tx_len hT.out (d + 1) hd k x hx hl)
    have HX := Lib.hid hx
    have hd3 : d = 0 ∨ d = 1 ∨ d = 2 := by omega
    have hne : ∀ z, z ∈ Tx.kidsL vs k → ∃ (j : Nat) (y : Int × Int), z = (j : Int) ∧ vs[j]? = some y ∧ y.2 = ((3 - d : Nat) : Int) := by
      intro z hz
      obtain ⟨j, y, e, hy, hp⟩ := Tp.mem_those.1 hz
      obtain ⟨_, u, hu, hl2⟩ := hT.out.kid hy (by simpa using hp)
      rw [HX.out] at hu
      injection hu with hu
      subst hu
      exact ⟨j, y, e, hy, by omega⟩
    have HNE := Lib.hid hne
    obtain ⟨P, hP⟩ : ∃ P, P = part vs d k := ⟨_, rfl⟩
    obtain ⟨F, hF⟩ : ∃ F, F = Tx.tx vs d := ⟨_, rfl⟩
    have HP0 := Lib.hid (show P 0 = [Tx.lt (2 - d), 40] by rw [hP]; rfl)
    have HP := Lib.hid (show ∀ j z, (Tx.kidsL vs k)[j]? = some z → P (j + 1) = P j ++ F z from fun j z h => by rw [hP, hF]; exact part_step vs d k j z h)
    have HB := Lib.hid (show ∀ j z, (Tx.kidsL vs k)[j]? = some z → (P j).length + (F z).length ≤ 731 from fun j z h => by rw [hP, hF]; exact Nat.le_trans (part_le vs d k j z h) (Nat.le_trans HL.out (big_le _)))
    have HE := Lib.hid (show Tx.tx vs (d + 1) k = P (Tx.kidsL vs k).length ++ [41] from by rw [hP]; exact part_end vs d k)
    have HF := Lib.hid (show (P (Tx.kidsL vs k).length).length ≤ 731 from by have h1 := congrArg List.length HE.out; rw [List.length_append] at h1; have h2 := HL.out; have h3 := big_le (d + 1); omega)
    have ih' : ∀ (j : Nat) (y : Int × Int) (W : World), vs[j]? = some y → y.2 = ((3 - d : Nat) : Int) → VRow W W.heap.size (some ⟨b, off, none⟩) vs → Calls Try.prog 21 #[.slice (some ⟨b, off, none⟩) n c, .int .i64 j] W fun e w' => e = .returned (.string (str (F j))) ∧ Below W.heap.size W w' := fun j y W h1 h2 h3 => by
      rw [hF]
      exact ih (by omega) j y W h1 h2 h3
    clear ih hne hP hF hx hl HL
    rcases hd3 with rfl | rfl | rfl
    all_goals
      go_enter Try.func21, Try.ntmps21
      go_wp2_with fail
      refine (kids_any _ n c vs k _ hn (by omega) (by omega) hv).mono ?_
      rintro e w1 ⟨A1, c1, rfl, hI, hb1⟩
      obtain ⟨m, hm⟩ : ∃ m, (Tp.those (kidsP (k : Int)) vs).length = m := ⟨_, rfl⟩
      have HM := Lib.hid (show (Tx.kidsL vs k).length = m from hm)
      have hm9 : m ≤ 64 := by have := Tp.those_le (kidsP k) vs n; rw [List.take_of_length_le (by rw [hn.out]; exact Nat.le_refl _), hm] at this; omega
      rw [hm]
      clear hm
      go_wp2_with fail
      go_loopw [6, 27] (fun a i wr => ∃ j : Nat, j ≤ m ∧ i = .int .i64 j ∧ a = .string (str (P j)) ∧ Below w.heap.size w wr ∧ Below w1.heap.size w1 wr) (fun _ i _ => m - (intOf i).toNat)
      case atStart => exact ⟨0, Nat.zero_le _, rfl, by rw [HP0.out]; congr 1, hb1, Below.refl _ _⟩
      case round =>
        obtain ⟨j, hj, rfl, rfl, hbe, hbe1⟩ := hrel
        by_cases hlt : j < m
        · obtain ⟨z, hz⟩ : ∃ z, (Tx.kidsL vs k)[j]? = some z := ⟨_, List.getElem?_eq_getElem (by rw [HM.out]; exact hlt)⟩
          obtain ⟨b1, off1, hA1, hbk1, hcz⟩ := (hI.below hbe1) j z hz
          subst hA1
          obtain ⟨i, y, rfl, hy, hy2⟩ := HNE.out z (List.mem_of_getElem? hz)
          have HY := Lib.hid hy
          have HY2 := Lib.hid hy2
          have hadd : ∀ W, (Op.stringOp .add (str (P j)) (str (F i))).run Try.prog W = .ok (.string (str (P j ++ F i))) W := fun W => str_add W _ _ (by have := HB.out j i hz; omega)
          have H1 := Lib.hid (HP.out j i hz)
          have hvr := (hv.below hbe).more hbe.size
          clear hz hy hy2
          go_wp2_with fail
          refine (ih' i y _ HY.out HY2.out hvr).mono ?_
          rintro e w2 ⟨rfl, hb2⟩
          have hbe2 := hbe.trans (hb2.mono hbe.size)
          have hbe12 := hbe1.trans (hb2.mono hbe1.size)
          go_wp2_with fail
          go_roundw
          case rel => exact ⟨j + 1, by omega, by go_num, by rw [H1.out], hbe2, hbe12⟩
          case measure => simp [intOf]; omega
        · have hjm : j = m := by omega
          subst hjm
          have hadd : ∀ W, (Op.stringOp .add (str (P j)) ⟨#[41]⟩).run Try.prog W = .ok (.string (str (P j ++ [41]))) W := fun W => str_add W _ _ (by have h1 := HF.out; rw [HM.out] at h1; simp; omega)
          go_wp2_with fail
          go_ret
          exact ⟨ret_str (by rw [HE.out, HM.out]), hbe⟩
/-- What a tree's text is, and the error. -/
def textR (vs : List (Int × Int)) : List UInt8 × Int := if Tp.may vs = true then (Tx.tx vs 3 0, 0) else ([], 2)
def sameR (vs : List (Int × Int)) : List (Int × Int) := if Tp.may vs = true then Tx.sm vs else []
def Told (w0 : World) (r : List UInt8 × Int) (e : Ending) (w' : World) : Prop :=
  e = .returned (.tuple #[.string (str r.1), .int .i64 r.2]) ∧ Below w0.heap.size w0 w'
/-- What a call leaves that has made a list of vertices. -/
def MadeV (w0 : World) (zs : List (Int × Int)) (e : Ending) (w' : World) : Prop :=
  ∃ A c, e = .returned (.slice A zs.length c) ∧ VRow w' w'.heap.size A zs ∧ Below w0.heap.size w0 w'
set_option maxHeartbeats 1600000 in
theorem text_any (A : Option Addr) (n c : Nat) (vs : List (Int × Int)) (w : World)
    (hn : Hid (vs.length = n)) (hl : n ≤ 9223372036854775807) (hf : Hid (Fit vs)) (hv : VRow w w.heap.size A vs) :
    Calls Try.prog 12 #[.slice A n c] w (Told w (textR vs)) := by
  cases hm : Tp.may vs
  · have HM := Lib.hid (show Tp.errno (Tp.may vs) = 2 by rw [hm]; rfl)
    have HR := Lib.hid (show textR vs = ([], 2) by unfold textR; rw [hm]; rfl)
    clear hm
    go_enter Try.func12, Try.ntmps12
    go_wp2_with fail
    refine (check_any A n c vs _ hn hl hf hv).mono ?_
    rintro e w1 ⟨rfl, hb1⟩
    rw [HM.out]
    go_wp2_with fail
    go_ret2
    exact ⟨by rw [HR.out]; rfl, hb1⟩
  · have HM := Lib.hid (show Tp.errno (Tp.may vs) = 0 by rw [hm]; rfl)
    have HR := Lib.hid (show textR vs = (Tx.tx vs 3 0, 0) by unfold textR; rw [hm]; rfl)
    have HT := Lib.hid ((Tp.tree_iff vs).1 hm)
    clear hm
    go_enter Try.func12, Try.ntmps12
    go_wp2_with fail
    refine (check_any A n c vs _ hn hl hf hv).mono ?_
    rintro e w1 ⟨rfl, hb1⟩
    have hv1 := (hv.below hb1).more hb1.size
    rw [HM.out]
    go_wp2_with fail
    refine (below_any A n c vs HT hn 3 (Nat.le_refl _) 0 (-1, 0) _ HT.out.first rfl hv1).mono ?_
    rintro e w2 ⟨rfl, hb2⟩
    go_wp2_with fail
    go_ret2
    exact ⟨by rw [HR.out]; rfl, hb1.trans (hb2.mono hb1.size)⟩
set_option maxHeartbeats 1600000 in
theorem same_any (A : Option Addr) (n c : Nat) (vs : List (Int × Int)) (w : World)
    (hn : Hid (vs.length = n)) (hl : n ≤ 9223372036854775807) (hf : Hid (Fit vs)) (hv : VRow w w.heap.size A vs) :
    Calls Try.prog 15 #[.slice A n c] w (MadeV w (sameR vs)) := by
  cases hm : Tp.may vs
  · have HT := Lib.hid (show textR vs = ([], 2) by unfold textR; rw [hm]; rfl)
    have HR := Lib.hid (show sameR vs = [] by unfold sameR; rw [hm]; rfl)
    clear hm
    go_enter Try.func15, Try.ntmps15
    go_wp2_with fail
    refine (text_any A n c vs _ hn hl hf hv).mono ?_
    rintro e w1 ⟨rfl, hb1⟩
    rw [HT.out]
    go_wp2_with fail
    go_ret
    exact ⟨none, 0, by rw [HR.out]; rfl, by rw [HR.out]; exact VRow.nil _ _ _, hb1⟩
  · have HT := Lib.hid (show textR vs = (Tx.tx vs 3 0, 0) by unfold textR; rw [hm]; rfl)
    have HR := Lib.hid (show sameR vs = Tx.sm vs by unfold sameR; rw [hm]; rfl)
    have T := (Tp.tree_iff vs).1 hm
    have HP := Lib.hid (Tx.parse_tx T)
    have HL := Lib.hid (Tx.tx_fits T)
    have HLS := Lib.hid (Tx.len_sm T)
    clear hm T
    go_enter Try.func15, Try.ntmps15
    go_wp2_with fail
    refine (text_any A n c vs _ hn hl hf hv).mono ?_
    rintro e w1 ⟨rfl, hb1⟩
    rw [HT.out]
    go_wp2_with fail
    refine (parse_any (str (Tx.tx vs 3 0)) _ (by rw [str_size]; have := HL.out; omega)).mono ?_
    rintro e w2 ⟨A2, c2, rfl, hv2, hb2⟩
    have ep : Tx.parse (str (Tx.tx vs 3 0)).data.toList = (Tx.sm vs, 0, 0) := HP.out
    rw [ep] at hv2 ⊢
    clear ep
    have hbe := hb1.trans (hb2.mono hb1.size)
    go_wp2_with fail
    go_ret
    exact ⟨A2, c2, by rw [HR.out]; rfl, by rw [HR.out]; exact hv2, hbe⟩
end Go.Proofs.Ytdhcnmcfgicbjaa

