/- topo.those and its three tests, by contracts: of any vertices the numbers of those that are as asked, in new memory. -/
import Derived.Test.YtdhcnmcfgicbjaaBase
import Derived.Test.YtdhcnmcfgicbjaaPlain
namespace Go.Proofs.Ytdhcnmcfgicbjaa
open Go.RowKit
set_option linter.unusedVariables false

theorem kidsTest (p l v : Int) (b : Nat) (w : World) (hc : w.cell? ⟨b, 0, none⟩ = some (.int .i64 v)) (hb : b < w.heap.size) :
    Calls Try.prog 30 #[.agg #[.int .i64 p, .int .i64 l], .pointer (some ⟨b, 0, none⟩)] w fun e w' => e = .returned (.bool (p == v)) ∧ Below w.heap.size w w' := by
  go_enter Try.func30, Try.ntmps30
  go_wp2
  go_ret
  exact ⟨rfl, (Below.refl _ _).alloc (Nat.le_refl _) _⟩
theorem procsTest (p l : Int) (w : World) :
    Calls Try.prog 29 #[.agg #[.int .i64 p, .int .i64 l]] w fun e w' => e = .returned (.bool (l == 3)) ∧ Below w.heap.size w w' := by
  go_enter Try.func29, Try.ntmps29
  go_wp2
  go_ret
  exact ⟨rfl, (Below.refl _ _).alloc (Nat.le_refl _) _⟩
/-- What a test is told to do: it answers p, in every later world. -/
def Tests (w : World) (F : FuncId) (caps : Array Value) (p : Int × Int → Bool) : Prop :=
  ∀ (x : Int × Int) (W : World), Below w.heap.size w W → Calls Try.prog F (#[.agg #[.int .i64 x.1, .int .i64 x.2]] ++ caps) W fun e w' => e = .returned (.bool (p x)) ∧ Below W.heap.size W w'

set_option maxHeartbeats 1600000 in
set_option maxRecDepth 1000000 in
theorem those_any (A : Option Addr) (n c : Nat) (vs : List (Int × Int)) (F : FuncId) (caps : Array Value) (p : Int × Int → Bool) (w : World)
    (hn : Hid (vs.length = n)) (hl : n ≤ 9223372036854775807) (hby : n * 8 ≤ 140737488351232) (hv : VRow w w.heap.size A vs) (hF : ∀ (args : Array Value) (W : World), (callFunc F args).run Try.prog W = .ok (.enter F args) W) (hT : Tests w F caps p) :
    Calls Try.prog 28 #[.slice A n c, .func (.func F) #[] caps] w fun e w' =>
      ∃ v, e = .returned v ∧ w'.ownsRow w.heap.size 3 1 v (Tp.those p vs).length ((Tp.those p vs).map (Value.int .i64)) ∧ Below w.heap.size w w' := by
  obtain ⟨i0, hi, hz0, hz1, hz2⟩ := info_parts info_int
  go_enter Try.func28, Try.ntmps28
  go_wp2
  go_loopw [5, 9] (fun v i wr => ∃ k : Nat, k ≤ n ∧ i = .int .i64 k ∧ wr.ownsRow w.heap.size 3 1 v (Tp.those p (vs.take k)).length ((Tp.those p (vs.take k)).map (Value.int .i64)) ∧ Below w.heap.size w wr)
    (fun _ i _ => n - (intOf i).toNat)
  case atStart => exact ⟨0, Nat.zero_le _, rfl, World.ownsRow_nil _ _ _ _, Below.refl _ _⟩
  case round =>
    obtain ⟨k, hk, rfl, hown, hbe⟩ := hrel
    by_cases hlt : k < n
    · obtain ⟨x, hx⟩ : ∃ x, vs[k]? = some x := ⟨_, List.getElem?_eq_getElem (by have := hn.out; omega)⟩
      obtain ⟨b, off, hA, hbk, hc1, hc2⟩ := (hv.below hbe) k x hx
      subst hA
      have HX : Hid (vs[k]? = some x) := hx
      clear hx
      have hle := Tp.those_le p vs k
      go_wp2_with fail
      refine (hT x _ hbe).mono ?_
      rintro e w1 ⟨rfl, hb1⟩
      have hown1 := own_below hown hb1
      have hbe1 := hbe.trans (hb1.mono hbe.size)
      cases hp : p x
      · have hm := Hid.out HX
        have R := Tp.those_miss hm hp
        clear hm
        have R' := Lib.hid R
        clear R hown
        go_wp2
        go_roundw
        case rel => exact ⟨k + 1, by omega, by go_num, by rw [R'.out]; exact hown1, hbe1⟩
        case measure => simp [intOf]; omega
      · have hm := Hid.out HX
        have R := Tp.those_hit hm hp
        clear hm
        have R' := Lib.hid R
        clear R hown
        go_wp2_with (at_builtin; refine wpList_append_own _ rfl _ _ 37 rfl w.heap.size 3 i0 (.int .i64 0) 1 8 Try.underlying37 hi hz0 hz1 hz2 rfl (by decide) _ _ _ rfl (hown1.alloc _) ⟨w1.heap.size, 0, none⟩ 1 1 [.int .i64 (k : Int)] rfl rfl ?c1 ?c2 ?c3 ?c4 ?c5 ?_)
        case c1 => exact one_cell _ _ _
        case c2 => intro u hu; simp at hu; subst hu; rfl
        case c3 => unfold maxLen; omega
        case c4 => omega
        case c5 => have := hbe1.size; simp; omega
        intro v' w2 hown2 hg _
        go_wp2
        go_roundw
        case rel =>
          refine ⟨k + 1, by omega, by go_num, ?_, (hbe1.alloc hbe1.size _).grown hg (by have := hbe1.size; simp; omega) (fun j hj => (hown1.lt j hj).1)⟩
          rw [R'.out]; simpa using hown2
        case measure => simp [intOf]; omega
    · have hkn : k = n := by omega
      have e := hn.out
      have H := Lib.hid (show vs.take k = vs by rw [List.take_of_length_le (by omega)])
      clear hkn e
      go_wp2
      go_ret
      rw [H.out] at hown
      exact ⟨_, rfl, hown, hbe⟩

theorem hmf (fn : Fn) (first cap : Array Value) (w : World) : (Instr.makeFunc fn first cap).run Try.prog w = .ok (.func fn first cap) w := rfl
def kidsP (v : Int) (x : Int × Int) : Bool := x.1 == v
def levelP (l : Int) (x : Int × Int) : Bool := x.2 == l

theorem kids_any (A : Option Addr) (n c : Nat) (vs : List (Int × Int)) (v : Int) (w : World)
    (hn : Hid (vs.length = n)) (hl : n ≤ 9223372036854775807) (hby : n * 8 ≤ 140737488351232) (hv : VRow w w.heap.size A vs) :
    Calls Try.prog 27 #[.slice A n c, .int .i64 v] w (Made w (Tp.those (kidsP v) vs)) := by
  have hmf := hmf
  have hb0 : Below w.heap.size w (w.alloc (.cells #[.int .i64 v] 3)) := (Below.refl _ _).alloc (Nat.le_refl _) _
  have hT : Tests (w.alloc (.cells #[.int .i64 v] 3)) 30 #[.pointer (some ⟨w.heap.size, 0, none⟩)] (kidsP v) := by
    intro x W hW
    refine kidsTest x.1 x.2 v w.heap.size W ?_ ?_
    · rw [hW.cell (by simp), World.cell?_alloc_at _ _ _ _ rfl]; rfl
    · have := hW.size; simp at this; omega
  have hv1 := (hv.below hb0).more hb0.size
  go_enter Try.func27, Try.ntmps27
  go_wp2_with fail
  refine (those_any A n c vs _ _ (kidsP v) _ hn hl hby hv1 (fun _ _ => by kernel_rfl) hT).mono ?_
  rintro e w1 ⟨u, rfl, hown, hb1⟩
  have M := made_of hb0 hown hb1
  clear hown
  go_wp2
  go_ret
  exact M
theorem procs_any (A : Option Addr) (n c : Nat) (vs : List (Int × Int)) (w : World)
    (hn : Hid (vs.length = n)) (hl : n ≤ 9223372036854775807) (hby : n * 8 ≤ 140737488351232) (hv : VRow w w.heap.size A vs) :
    Calls Try.prog 24 #[.slice A n c] w (Made w (Tp.those (levelP 3) vs)) := by
  have hT : Tests w 29 #[] (levelP 3) := fun x W _ => procsTest x.1 x.2 W
  go_enter Try.func24, Try.ntmps24
  go_wp2_with fail
  refine (those_any A n c vs _ _ (levelP 3) _ hn hl hby hv (fun _ _ => by kernel_rfl) hT).mono ?_
  rintro e w1 ⟨u, rfl, hown, hb1⟩
  have M := made_of (Below.refl _ _) hown hb1
  clear hown
  go_wp2
  go_ret
  exact M
end Go.Proofs.Ytdhcnmcfgicbjaa

