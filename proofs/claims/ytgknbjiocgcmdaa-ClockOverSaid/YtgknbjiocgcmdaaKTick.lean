/- Tick, by its contract: what time it is then, who wakes, and who sleeps then. -/
import Derived.Test.YtgknbjiocgcmdaaKCk
namespace Go.Proofs.Ytgknbjiocgcmdaa
open Go.RowKit
set_option linter.unusedVariables false

/-- What time it is, written anew. -/
theorem HM.turn {w : World} {b : Nat} {F : Nat → Prop} {l : List Hp.Tm} {now now' k : Int} (h : HM (Rc now k) w b F l) : HM (Rc now' k) (w.setCell ⟨b, 1, none⟩ (.int .i64 now')) b F l ∧ Kept F w (w.setCell ⟨b, 1, none⟩ (.int .i64 now')) := by
  obtain ⟨A, c, h1, h2, h3⟩ := h.mem
  have c1 := (h.rest 1 _ (.inl ⟨rfl, rfl⟩)).2
  have c2 := (h.rest 2 _ (.inr ⟨rfl, rfl⟩)).2
  refine ⟨⟨⟨A, c, (World.cell?_setCell_other _ _ _ _ (fun e => by injection e with _ e; omega)).trans h1, own_keep h2 (fun g hg => Below.heap_setCell w ⟨b, 1, none⟩ _ g (fun e => ?_)), h3⟩, by rw [World.frozen?_setCell]; exact h.free, h.inb, fun j hj => ?_, fun i v hr => ?_⟩, (Kept.refl F w).setCell _ h.inb _⟩
  · cases A with
    | none => cases hg
    | some ad => injection hg with hg; exact (h3 ad rfl).1 (hg.trans e)
  · have := h.lt j hj
    simpa [World.setCell] using this
  · rcases hr with ⟨rfl, rfl⟩ | ⟨rfl, rfl⟩
    · exact ⟨by omega, World.cell?_setCell_same' _ _ _ (by rw [c1.1]; rfl), by rw [World.frozen?_setCell]; exact c1.2⟩
    · exact ⟨by omega, (World.cell?_setCell_other _ _ _ _ (fun e => by injection e with _ e; omega)).trans c2.1, by rw [World.frozen?_setCell]; exact c2.2⟩
/-- What Tick tells: a row, and a number. -/
def TickD (b : Nat) (F : Nat → Prop) (now : Int) (S : List Kp.On) (m : Nat) (n : Int) (w : World) (e : Ending) (w' : World) : Prop :=
  (∃ A k c, e = .returned (.tuple #[.slice A k c, .int .i64 (Kp.tcode now n)]) ∧ Row w' A k c (Kp.ids (Kp.twoke S now n)) ∧ From w.heap.size A) ∧ Ck w' b F (Kp.tnow now n) (Kp.trest S now n) m ∧ Kept F w w'
theorem tick_nil (n : Int) (w : World) : Calls Try.prog 12 #[.pointer none, .int .i64 n] w fun e w' => e = .returned (.tuple #[.slice none 0 0, .int .i64 1]) ∧ w' = w := by
  go_enter Try.func12, Try.ntmps12
  go_wp2_with fail
  go_ret2
  exact ⟨rfl, rfl⟩
set_option maxHeartbeats 1000000 in
theorem tick_any (b : Nat) (F : Nat → Prop) (now : Int) (S : List Kp.On) (m : Nat) (n : Int) (w : World) (h : Ck w b F now S m) :
    Calls Try.prog 12 #[.pointer (some ⟨b, 0, none⟩), .int .i64 n] w (TickD b F now S m n w) := by
  by_cases hn : n < 0
  · have HT := Lib.hid (show TickD b F now S m n w (.returned (.tuple #[.slice none 0 0, .int .i64 1])) w from
      ⟨⟨none, 0, 0, by unfold Kp.tcode; rw [if_pos hn], by unfold Kp.twoke; rw [if_pos hn]; exact Row.nothing w, From.none _⟩, by unfold Kp.tnow Kp.trest; rw [if_pos hn, if_pos hn]; exact h, Kept.refl _ _⟩)
    clear h
    go_enter Try.func12, Try.ntmps12
    go_wp2_with fail
    go_ret2
    exact HT.out
  · have c0 := h.cell.1
    have f0 := h.cell.2
    have hw : IntKind.i64.wrap (1099511627776 - now) = 1099511627776 - now := IntWalk.i64_in _ (by have := h.now0; have := h.now1; omega)
    by_cases ho : 1099511627776 - now < n
    · have HT := Lib.hid (show TickD b F now S m n w (.returned (.tuple #[.slice none 0 0, .int .i64 7])) w from
        ⟨⟨none, 0, 0, by unfold Kp.tcode; rw [if_neg hn, if_pos ho], by unfold Kp.twoke; rw [if_neg hn, if_pos ho]; exact Row.nothing w, From.none _⟩, by unfold Kp.tnow Kp.trest; rw [if_neg hn, if_pos ho, if_neg hn, if_pos ho]; exact h, Kept.refl _ _⟩)
      clear h f0
      go_enter Try.func12, Try.ntmps12
      go_wp2_with fail
      go_ret2
      exact HT.out
    · have hw2 : IntKind.i64.wrap (now + n) = now + n := IntWalk.i64_in _ (by have := h.now0; have := h.now1; omega)
      obtain ⟨l, k, h1, h2, h3, h4, h5, h6⟩ := h.mem
      have hlS : l.length = S.length := by rw [← h6, List.length_map, Hp.srt_length]
      have hl := h.len
      have hm := h.small
      obtain ⟨t1, t2⟩ := h1.turn (now' := now + n)
      have HD := Lib.hid (due_any b F l (now + n) _ t1 (Lib.hid h2) (Lib.hid (.inl ⟨rfl, rfl⟩)) (by omega))
      have HK := Lib.hid t2
      have HO := Lib.hid ho
      have HN := Lib.hid hn
      have HS := Lib.hid h6
      have HQ := Lib.hid h3
      have HB := Lib.hid (show 0 ≤ now + n ∧ now + n ≤ 1099511627776 by have := h.now0; have := h.now1; omega)
      clear h h1 h2 h3 h6 t1 t2
      go_enter Try.func12, Try.ntmps12
      go_wp2_with fail
      refine HD.out.mono ?_
      rintro e w2 ⟨D, l', e1, e2, e3, e4, e5, e6, A, p, c, rfl, hr, hf⟩
      obtain ⟨d1, d2⟩ := Kp.due_on e1 e2 e3
      rw [HS.out] at d1 d2
      have hp : p ≤ l.length := by
        have q1 := congrArg List.length e1
        have q2 := hr.len
        rw [List.length_append, Hp.srt_length, Hp.srt_length] at q1
        omega
      have hq : ∀ x ∈ l', x.2.1 ≤ k := fun x hx => HQ.out x ((Hp.srt_perm l).mem_iff.1 (by rw [e1]; exact List.mem_append_right _ ((Hp.srt_perm l').mem_iff.2 hx)))
      have HC := Lib.hid (show Ck w2 b F (now + n) (Kp.beyond S (now + n)) m from ⟨⟨l', k, e5, e4, hq, h4, h5, d2⟩, by have := Kp.beyond_le S (now + n); omega, hm, HB.out.1, HB.out.2⟩)
      have HK2 := Lib.hid (HK.out.trans e6)
      have HG := Lib.hid (gs_any A p c D w2 hr (by omega))
      have HI := Lib.hid (show who D = Kp.ids (Kp.upto S (now + n)) by unfold who; rw [Kp.ids_on, d1])
      clear e1 e2 e3 e4 e5 e6 hr hf d1 d2 hq HD HK HS HQ
      go_wp2_with fail
      refine HG.out.mono ?_
      rintro e w3 ⟨v, q, rfl, hown, hb3⟩
      rw [HI.out] at hown
      obtain ⟨A3, c3, rfl, hr3, hf3⟩ := Row.of_own' hown
      have HR := Lib.hid (show TickD b F now S m n w (.returned (.tuple #[.slice A3 q c3, .int .i64 0])) w3 from
        ⟨⟨A3, q, c3, by unfold Kp.tcode; rw [if_neg (show ¬ n < 0 by have := HN.out; omega), if_neg (show ¬ 1099511627776 - now < n by have := HO.out; omega)], by unfold Kp.twoke; rw [if_neg (show ¬ n < 0 by have := HN.out; omega), if_neg (show ¬ 1099511627776 - now < n by have := HO.out; omega)]; exact hr3, hf3.mono HK2.out.size⟩, by unfold Kp.tnow Kp.trest; rw [if_neg (show ¬ n < 0 by have := HN.out; omega), if_neg (show ¬ 1099511627776 - now < n by have := HO.out; omega), if_neg (show ¬ n < 0 by have := HN.out; omega), if_neg (show ¬ 1099511627776 - now < n by have := HO.out; omega)]; exact HC.out.step hb3, HK2.out.trans (Kept.of_below hb3)⟩)
      clear hown hb3 hr3 hf3 HC HK2 HG HI
      go_wp2_with fail
      go_ret2
      exact HR.out
end Go.Proofs.Ytgknbjiocgcmdaa

