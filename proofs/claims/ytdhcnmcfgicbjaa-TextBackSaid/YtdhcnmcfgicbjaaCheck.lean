/- topo.hangs, topo.filled and topo.Check come to plain functions of the vertices. -/
import Derived.Test.YtdhcnmcfgicbjaaThose
namespace Go.Proofs.Ytdhcnmcfgicbjaa
open Go.RowKit
set_option linter.unusedVariables false

theorem below1 (w : World) (o : Obj) : Below w.heap.size w (w.alloc o) := (Below.refl _ _).alloc (Nat.le_refl _) o

theorem wrap_dec {l : Int} (h : In64 l) (h3 : l ≤ 3) : wrap64 (l - 1) = Tp.dec l := by
  obtain ⟨h1, h2⟩ := h
  unfold wrap64 Tp.dec
  split <;> omega
set_option maxHeartbeats 1600000 in
theorem hangs_any (A : Option Addr) (n c : Nat) (vs : List (Int × Int)) (k : Nat) (w : World)
    (hn : Hid (vs.length = n)) (hl : n ≤ 9223372036854775807) (hf : Hid (Fit vs)) (hk : k < n) (hv : VRow w w.heap.size A vs) :
    Calls Try.prog 25 #[.slice A n c, .int .i64 k] w fun e w' => e = .returned (.bool (Tp.hangs vs k)) ∧ Below w.heap.size w w' := by
  obtain ⟨x, hx⟩ : ∃ x, vs[k]? = some x := ⟨_, List.getElem?_eq_getElem (by have := hn.out; omega)⟩
  obtain ⟨b, off, hA, hbk, hc1, hc2⟩ := hv k x hx
  subst hA
  have hfx : In64 x.1 ∧ In64 x.2 := hf.out x (List.mem_of_getElem? hx)
  obtain ⟨⟨f1, f2⟩, ⟨f3, f4⟩⟩ := hfx
  have HH : Hid (Tp.hangs vs k = Tp.hangsX vs k x) := Lib.hid (by unfold Tp.hangs; rw [hx]; rfl)
  clear hx
  by_cases h0 : k = 0
  · subst h0
    have e0 : ((0 : Int) == 0) = true := rfl
    have H : Hid (Tp.hangs vs 0 = (x.1 == -1 && x.2 == 0)) := Lib.hid (by rw [HH.out]; rfl)
    simp only [Nat.zero_mul, Nat.add_zero] at hc1 hc2
    clear HH
    cases hp : (x.1 == -1)
    · go_enter Try.func25, Try.ntmps25
      go_wp2
      go_ret
      exact ⟨by rw [H.out, hp]; rfl, below1 _ _⟩
    · go_enter Try.func25, Try.ntmps25
      go_wp2
      go_ret
      exact ⟨by rw [H.out, hp]; rfl, below1 _ _⟩
  · have e0 : ((k : Int) == 0) = false := by rw [beq_eq_false_iff_ne]; omega
    by_cases hlo : x.1 < 0
    · have H : Hid (Tp.hangs vs k = false) := Lib.hid (by rw [HH.out, Tp.hangsX, if_neg h0, if_pos (.inl hlo)])
      clear HH h0
      go_enter Try.func25, Try.ntmps25
      go_wp2
      go_ret
      exact ⟨by rw [H.out]; rfl, below1 _ _⟩
    · by_cases hhi : (k : Int) ≤ x.1
      · have H : Hid (Tp.hangs vs k = false) := Lib.hid (by rw [HH.out, Tp.hangsX, if_neg h0, if_pos (.inr hhi)])
        clear HH h0
        go_enter Try.func25, Try.ntmps25
        go_wp2
        go_ret
        exact ⟨by rw [H.out]; rfl, below1 _ _⟩
      · obtain ⟨j, hj⟩ := Int.eq_ofNat_of_zero_le (show 0 ≤ x.1 by omega)
        obtain ⟨y, hy⟩ : ∃ y, vs[j]? = some y := ⟨_, List.getElem?_eq_getElem (by have := hn.out; omega)⟩
        obtain ⟨b', off', hA', _, hd1, hd2⟩ := hv j y hy
        injection hA' with hA'
        injection hA' with hb' ho'
        subst hb' ho'
        rw [hj] at hc1
        have hjk : (j : Int) < k := by omega
        by_cases h3 : x.2 ≤ 3
        · have hd : decide (x.2 ≤ 3) = true := by simpa using h3
          have H : Hid (Tp.hangs vs k = (y.2 == wrap64 (x.2 - 1))) := Lib.hid (by
            rw [HH.out, Tp.hangsX, if_neg h0, if_neg (by omega), hj, Int.toNat_natCast, hy, wrap_dec ⟨f3, f4⟩ h3]
            simp [h3])
          clear HH h0 hlo hhi hj hy f1 f2 f3 f4 hd
          go_enter Try.func25, Try.ntmps25
          go_wp2
          go_quiet (fail)
          go_wp2
          go_ret
          exact ⟨by rw [H.out]; rfl, below_drewN (below1 _ _) _⟩
        · have hd : decide (x.2 ≤ 3) = false := by simpa using h3
          have H : Hid (Tp.hangs vs k = false) := Lib.hid (by
            rw [HH.out, Tp.hangsX, if_neg h0, if_neg (by omega), hd]; rfl)
          clear HH h0 hlo hhi hj hy f1 f2 f3 f4
          go_enter Try.func25, Try.ntmps25
          go_wp2
          go_quiet (fail)
          go_wp2
          go_ret
          exact ⟨by rw [H.out]; rfl, below_drewN (below1 _ _) _⟩

set_option maxHeartbeats 1600000 in
theorem filled_any (A : Option Addr) (n c : Nat) (vs : List (Int × Int)) (k : Nat) (w : World)
    (hn : Hid (vs.length = n)) (hl : n ≤ 9223372036854775807) (hby : n * 8 ≤ 140737488351232) (hk : k < n) (hv : VRow w w.heap.size A vs) :
    Calls Try.prog 26 #[.slice A n c, .int .i64 k] w fun e w' => e = .returned (.bool (Tp.filled vs k)) ∧ Below w.heap.size w w' := by
  obtain ⟨x, hx⟩ : ∃ x, vs[k]? = some x := ⟨_, List.getElem?_eq_getElem (by have := hn.out; omega)⟩
  obtain ⟨b, off, hA, hbk, hc1, hc2⟩ := hv k x hx
  subst hA
  by_cases h3 : 3 ≤ x.2
  · have H : Hid (Tp.filled vs k = true) := Lib.hid (by unfold Tp.filled; rw [hx]; exact if_pos h3)
    clear hx
    go_enter Try.func26, Try.ntmps26
    go_wp2
    go_ret
    exact ⟨by rw [H.out]; rfl, Below.refl _ _⟩
  · have H : Hid (Tp.filled vs k = (decide (1 ≤ Tp.kidsN vs k) && decide (Tp.kidsN vs k ≤ 8))) := Lib.hid (by unfold Tp.filled; rw [hx]; exact if_neg h3)
    have HK : Hid ((Tp.those (kidsP k) vs).length = Tp.kidsN vs k) := Lib.hid rfl
    have hle := Tp.those_le (kidsP k) vs n
    rw [show vs.take n = vs from List.take_of_length_le (by have := hn.out; omega)] at hle
    clear hx
    go_enter Try.func26, Try.ntmps26
    go_wp2_with fail
    refine (kids_any _ n c vs k _ hn hl hby hv).mono ?_
    rintro e w1 ⟨A1, c1, rfl, _, hb1⟩
    rw [HK.out] at hle ⊢
    by_cases h1 : 1 ≤ Tp.kidsN vs k
    · go_wp2
      go_ret
      refine ⟨?_, hb1⟩
      rw [H.out, decide_eq_true h1]
      exact ret_bool (a := decide ((Tp.kidsN vs k : Int) ≤ 8)) (Bool.eq_iff_iff.2 (by simp; omega))
    · go_wp2
      go_ret
      exact ⟨by rw [H.out, decide_eq_false h1]; rfl, hb1⟩

set_option maxHeartbeats 1600000 in
theorem check_any (A : Option Addr) (n c : Nat) (vs : List (Int × Int)) (w : World)
    (hn : Hid (vs.length = n)) (hl : n ≤ 9223372036854775807) (hf : Hid (Fit vs)) (hv : VRow w w.heap.size A vs) :
    Calls Try.prog 19 #[.slice A n c] w fun e w' => e = .returned (.int .i64 (Tp.errno (Tp.may vs))) ∧ Below w.heap.size w w' := by
  have hle := Tp.those_le (levelP 3) vs n
  rw [show vs.take n = vs from List.take_of_length_le (by have := hn.out; omega)] at hle
  by_cases h1 : 1 ≤ n
  · by_cases h64 : n ≤ 64
    · by_cases h32 : (Tp.those (levelP 3) vs).length ≤ 32
      · have H0 : Hid (Tp.may vs = Tp.bodyTo vs n) := Lib.hid (by
          have e := hn.out
          unfold Tp.may Tp.headOK
          rw [e, decide_eq_true h1, decide_eq_true h64, decide_eq_true (show (Tp.those (fun x => x.2 == 3) vs).length ≤ 32 from h32)]
          rfl)
        go_enter Try.func19, Try.ntmps19
        go_wp2_with fail
        refine (procs_any _ n c vs _ hn hl (by omega) hv).mono ?_
        rintro e w1 ⟨A1, c1, rfl, _, hb1⟩
        go_wp2_with fail
        go_loopw [20] (fun i wr => ∃ k : Nat, k ≤ n ∧ i = .int .i64 k ∧ Hid (Tp.bodyTo vs k = true) ∧ Below w.heap.size w wr) (fun i _ => n - (intOf i).toNat)
        case atStart => exact ⟨0, Nat.zero_le _, rfl, Lib.hid rfl, hb1⟩
        case round =>
          obtain ⟨k, hk, rfl, hto, hbe⟩ := hrel
          by_cases hlt : k < n
          · have hv' := (hv.below hbe).more hbe.size
            go_wp2_with fail
            refine (hangs_any _ n c vs k _ hn hl hf hlt hv').mono ?_
            rintro e w2 ⟨rfl, hb2⟩
            have hbe2 := hbe.trans (hb2.mono hbe.size)
            cases hh : Tp.hangs vs k
            · have H : Hid (Tp.may vs = false) := Lib.hid (by rw [H0.out]; exact Tp.bodyTo_false hlt (by rw [hh]; rfl))
              clear hh
              go_wp2_with fail
              go_ret
              exact ⟨by rw [H.out]; rfl, hbe2⟩
            · have hv2 := (hv.below hbe2).more hbe2.size
              have HG : Hid (Tp.hangs vs k = true) := Lib.hid hh
              clear hh
              go_wp2_with fail
              refine (filled_any _ n c vs k _ hn hl (by omega) hlt hv2).mono ?_
              rintro e w3 ⟨rfl, hb3⟩
              have hbe3 := hbe2.trans (hb3.mono hbe2.size)
              cases hh : Tp.filled vs k
              · have H : Hid (Tp.may vs = false) := Lib.hid (by rw [H0.out]; exact Tp.bodyTo_false hlt (by rw [hh]; simp))
                clear hh
                go_wp2_with fail
                go_ret
                exact ⟨by rw [H.out]; rfl, hbe3⟩
              · have H : Hid (Tp.bodyTo vs (k + 1) = true) := Lib.hid (by rw [Tp.bodyTo_succ, hto.out, HG.out, hh]; rfl)
                clear hh
                go_wp2_with fail
                go_roundw
                case rel => exact ⟨k + 1, by omega, by go_num, H, hbe3⟩
                case measure => simp [intOf]; omega
          · have H : Hid (Tp.may vs = true) := Lib.hid (by rw [H0.out, show n = k by omega]; exact hto.out)
            go_wp2_with fail
            go_ret
            exact ⟨by rw [H.out]; rfl, hbe⟩
      · have H : Hid (Tp.may vs = false) := Lib.hid (by
          unfold Tp.may Tp.headOK
          rw [decide_eq_false (show ¬ (Tp.those (fun x => x.2 == 3) vs).length ≤ 32 from h32)]
          simp)
        go_enter Try.func19, Try.ntmps19
        go_wp2_with fail
        refine (procs_any _ n c vs _ hn hl (by omega) hv).mono ?_
        rintro e w1 ⟨A1, c1, rfl, _, hb1⟩
        go_wp2_with fail
        go_ret
        exact ⟨by rw [H.out]; rfl, hb1⟩
    · have H : Hid (Tp.may vs = false) := Lib.hid (by
        have e := hn.out
        unfold Tp.may Tp.headOK
        rw [e, decide_eq_false h64]
        simp)
      go_enter Try.func19, Try.ntmps19
      go_wp2_with fail
      go_ret
      exact ⟨by rw [H.out]; rfl, Below.refl _ _⟩
  · have H : Hid (Tp.may vs = false) := Lib.hid (by
      have e := hn.out
      unfold Tp.may Tp.headOK
      rw [e, decide_eq_false h1]
      simp)
    go_enter Try.func19, Try.ntmps19
    go_wp2_with fail
    go_ret
    exact ⟨by rw [H.out]; rfl, Below.refl _ _⟩
end Go.Proofs.Ytdhcnmcfgicbjaa

