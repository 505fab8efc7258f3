/- Mailboxes in plain mathematics: a room, what is there, who waits to send and with what, who waits to receive. -/
import Derived.Test.YtjpnfjiccckaiaaRPlain
namespace Go.Proofs.Ytjpnfjiccckaiaa.Mp
open Rp (Once)
set_option linter.unusedVariables false

structure Bo where
  room : Int
  msgs : List Int
  send : List (Int × Int)
  recv : List Int
deriving DecidableEq
def snd (b : Bo) (g n : Int) : Bo × Int × Bool :=
  match b.recv with
  | z :: t => (⟨b.room, b.msgs, b.send, t⟩, z, true)
  | [] => if (b.msgs.length : Int) < b.room then (⟨b.room, b.msgs ++ [n], b.send, []⟩, 0, true) else (⟨b.room, b.msgs, b.send ++ [(g, n)], []⟩, 0, false)
def rcv (b : Bo) (g : Int) : Bo × Int × Int × Bool :=
  match b.msgs, b.send with
  | m :: ms, [] => (⟨b.room, ms, [], b.recv⟩, m, 0, true)
  | m :: ms, s :: ss => (⟨b.room, ms ++ [s.2], ss, b.recv⟩, m, s.1, true)
  | [], s :: ss => (⟨b.room, [], ss, b.recv⟩, s.2, s.1, true)
  | [], [] => (⟨b.room, [], [], b.recv ++ [g]⟩, 0, 0, false)
/-- All who wait: to send, to receive. -/
def who (b : Bo) : List Int := b.send.map Prod.fst ++ b.recv
def Fits (b : Bo) : Prop := 0 ≤ b.room ∧ b.room ≤ 8 ∧ (b.msgs.length : Int) ≤ b.room ∧ (b.send = [] ∨ ¬ (b.msgs.length : Int) < b.room) ∧ (b.recv = [] ∨ b.msgs = [] ∧ b.send = [])
instance (b : Bo) : Decidable (Fits b) := by unfold Fits; infer_instance
def May (b : Bo) : Prop := Fits b ∧ Once (who b)
instance (b : Bo) : Decidable (May b) := by unfold May; infer_instance
/-- All that is there, or waits to be sent. -/
def row (b : Bo) : List Int := b.msgs ++ b.send.map Prod.snd

theorem once_perm {a b : List Int} (p : a.Perm b) : Once a ↔ Once b := ⟨fun h => h.perm p, fun h => h.perm p.symm⟩
theorem Once.right {a b : List Int} (h : Once (a ++ b)) : Once b := ⟨fun x hx => h.1 x (List.mem_append_right _ hx), (List.nodup_append.1 h.2).2.1⟩
theorem Once.cut {z : Int} {t : List Int} (h : Once (z :: t)) : 1 ≤ z ∧ Once t := ⟨h.1 z (by simp), ⟨fun x hx => h.1 x (List.mem_cons_of_mem _ hx), (List.nodup_cons.1 h.2).2⟩⟩
/-- One is in the row twice, or is below 1: the whole is not such as may be. -/
theorem once_not {l : List Int} {k : Nat} {z : Int} (hz : l[k]? = some z) (h : z < 1 ∨ z ∈ l.take k) : ¬ Once l := by
  intro ho
  rcases h with h | h
  · have := ho.1 z (List.mem_of_getElem? hz); omega
  · have e : l = l.take k ++ l.drop k := (List.take_append_drop _ _).symm
    rw [e] at ho
    have hd : z ∈ l.drop k := by
      have : (l.drop k)[0]? = some z := by rw [List.getElem?_drop]; simpa using hz
      exact List.mem_of_getElem? this
    exact (List.nodup_append.1 ho.2).2.2 z h z hd rfl

/-! ### What may be stays so -/
theorem May.snd {b : Bo} {g n : Int} (h : May b) (hg : 1 ≤ g) (hn : g ∉ who b) : May (snd b g n).1 := by
  obtain ⟨room, msgs, send, recv⟩ := b
  obtain ⟨⟨h0, h1, h2, h3, h4⟩, ho⟩ := h
  unfold who at ho hn
  simp only at h0 h1 h2 h3 h4 ho hn
  unfold Mp.snd
  cases recv with
  | cons z t =>
    obtain ⟨rfl, rfl⟩ : msgs = [] ∧ send = [] := h4.elim (fun h => by cases h) id
    refine ⟨⟨h0, h1, h2, .inl rfl, .inr ⟨rfl, rfl⟩⟩, ?_⟩
    have ho' : Once (z :: t) := by simpa using ho
    simpa [who] using (Once.cut ho').2
  | nil =>
    by_cases hl : (msgs.length : Int) < room
    · have hs : send = [] := h3.elim id (fun h => absurd hl h)
      subst hs
      simp only [if_pos hl]
      refine ⟨⟨h0, h1, ?_, .inl rfl, .inl rfl⟩, ?_⟩
      · simp only [List.length_append, List.length_singleton]; omega
      · simpa [who] using ho
    · simp only [if_neg hl]
      refine ⟨⟨h0, h1, h2, .inr hl, .inl rfl⟩, ?_⟩
      simp only [List.append_nil] at ho hn
      simp only [who, List.map_append, List.append_nil]
      exact ho.snoc hg hn
theorem May.rcv {b : Bo} {g : Int} (h : May b) (hg : 1 ≤ g) (hn : g ∉ who b) : May (rcv b g).1 := by
  obtain ⟨room, msgs, send, recv⟩ := b
  obtain ⟨⟨h0, h1, h2, h3, h4⟩, ho⟩ := h
  unfold who at ho hn
  simp only at h0 h1 h2 h3 h4 ho hn
  unfold Mp.rcv
  cases msgs with
  | cons m ms =>
    have hr : recv = [] := h4.elim id (fun h => by cases h.1)
    subst hr
    cases send with
    | nil =>
      refine ⟨⟨h0, h1, ?_, .inl rfl, .inl rfl⟩, by simpa [who] using ho⟩
      simp only [List.length_cons] at h2 ⊢; omega
    | cons s ss =>
      refine ⟨⟨h0, h1, ?_, .inr ?_, .inl rfl⟩, ?_⟩
      · simp only [List.length_cons, List.length_append, List.length_nil] at h2 ⊢; omega
      · have := h3.elim (fun h => by cases h) id
        simp only [List.length_cons, List.length_append, List.length_nil] at this ⊢; omega
      · exact (Once.cut (by simpa [who] using ho)).2
  | nil =>
    cases send with
    | nil =>
      refine ⟨⟨h0, h1, h2, .inl rfl, .inr ⟨rfl, rfl⟩⟩, ?_⟩
      simp only [List.map_nil, List.nil_append] at ho hn
      simpa [who] using ho.snoc hg hn
    | cons s ss =>
      have hr : recv = [] := h4.elim id (fun h => by cases h.2)
      subst hr
      refine ⟨⟨h0, h1, h2, ?_, .inl rfl⟩, ?_⟩
      · exact .inr (h3.elim (fun h => by cases h) id)
      · exact (Once.cut (by simpa [who] using ho)).2

/-! ### First in, first out -/
theorem row_snd (b : Bo) (g n : Int) : (b.recv = [] → row (snd b g n).1 = row b ++ [n] ∨ (b.send ≠ [] ∧ (b.msgs.length : Int) < b.room)) := by
  obtain ⟨room, msgs, send, recv⟩ := b
  intro h
  simp only at h
  subst h
  unfold snd row
  by_cases hl : (msgs.length : Int) < room
  · cases send with
    | nil => exact .inl (by simp [hl])
    | cons s ss => exact .inr ⟨by simp, hl⟩
  · exact .inl (by simp [hl])
theorem rcv_row (b : Bo) (g : Int) : (rcv b g).2.2.2 = decide (row b ≠ []) ∧ (rcv b g).2.1 = (row b).headD 0 ∧ row (rcv b g).1 = (row b).drop 1 ∧ (rcv b g).1.recv = if row b = [] then b.recv ++ [g] else b.recv := by
  obtain ⟨room, msgs, send, recv⟩ := b
  unfold rcv row
  cases msgs with
  | cons m ms => cases send with
    | nil => simp
    | cons s ss => simp
  | nil => cases send with
    | nil => simp
    | cons s ss => simp
/-- Numbers that wait are of those who came. -/
def Up (b : Bo) (k : Nat) : Prop := ∀ x ∈ who b, x ≤ (k : Int)
theorem Up.snd {b : Bo} {k : Nat} {n : Int} (h : Up b k) : Up (snd b ((k : Int) + 1) n).1 (k + 1) := by
  obtain ⟨room, msgs, send, recv⟩ := b
  intro x hx
  unfold Up who at h
  unfold who Mp.snd at hx
  simp only at h hx
  cases recv with
  | cons z t =>
    have := h x (by
      rcases List.mem_append.1 hx with hx | hx
      · exact List.mem_append_left _ hx
      · exact List.mem_append_right _ (List.mem_cons_of_mem _ hx))
    omega
  | nil =>
    by_cases hl : (msgs.length : Int) < room
    · simp only [if_pos hl] at hx
      have := h x hx
      omega
    · simp only [if_neg hl, List.map_append, List.append_nil] at hx
      rcases List.mem_append.1 hx with hx | hx
      · have := h x (List.mem_append_left _ hx); omega
      · simp at hx; omega
theorem Up.rcv {b : Bo} {k : Nat} (h : Up b k) : Up (rcv b ((k : Int) + 1)).1 (k + 1) := by
  obtain ⟨room, msgs, send, recv⟩ := b
  intro x hx
  unfold Up who at h
  unfold who Mp.rcv at hx
  simp only at h hx
  have hle : x ∈ send.map Prod.fst ++ recv ∨ x = (k : Int) + 1 := by
    cases msgs with
    | cons m ms => cases send with
      | nil => exact .inl (by simpa using hx)
      | cons s ss => exact .inl (by
          rcases List.mem_append.1 hx with hx | hx
          · exact List.mem_append_left _ (List.mem_cons_of_mem _ hx)
          · exact List.mem_append_right _ hx)
    | nil => cases send with
      | nil =>
        rcases List.mem_append.1 hx with hx | hx
        · simp at hx
        · rcases List.mem_append.1 hx with hx | hx
          · exact .inl (List.mem_append_right _ hx)
          · exact .inr (by simpa using hx)
      | cons s ss => exact .inl (by
          rcases List.mem_append.1 hx with hx | hx
          · exact List.mem_append_left _ (List.mem_cons_of_mem _ hx)
          · exact List.mem_append_right _ hx)
  rcases hle with h1 | h1
  · have := h x h1; omega
  · omega
theorem Up.new {b : Bo} {k : Nat} (h : Up b k) : ((k : Int) + 1) ∉ who b := fun hm => by have := h _ hm; omega
/-- What a play keeps: all that was sent and not received is there, in turn; just those wait to receive who came first. -/
structure Play (b : Bo) (k : Nat) (sent : List Int) (got : Nat) (wait : List Int) : Prop where
  may : May b
  up : Up b k
  le : got ≤ sent.length
  row : Mp.row b = sent.drop got
  wait : b.recv = wait
theorem Play.start (room : Int) (h0 : 0 ≤ room) (h1 : room ≤ 8) : Play ⟨room, [], [], []⟩ 0 [] 0 [] :=
  ⟨⟨⟨h0, h1, by simpa using h0, .inl rfl, .inl rfl⟩, ⟨fun x hx => by simp [who] at hx, by simp [who]⟩⟩, fun x hx => by simp [who] at hx, Nat.le_refl _, rfl, rfl⟩
/-- What the row's length is. -/
theorem Play.len {b : Bo} {k got : Nat} {sent wait : List Int} (h : Play b k sent got wait) : b.msgs.length + b.send.length = sent.length - got := by
  have := congrArg List.length h.row
  simpa [Mp.row] using this
theorem Play.sends {b : Bo} {k got : Nat} {sent wait : List Int} {n : Int} (h : Play b k sent got wait) :
    (wait = [] ∧ (snd b ((k : Int) + 1) n).2.1 = 0 ∧ Play (snd b ((k : Int) + 1) n).1 (k + 1) (sent ++ [n]) got []) ∨
    (∃ z t, wait = z :: t ∧ 1 ≤ z ∧ (snd b ((k : Int) + 1) n).2.1 = z ∧ Play (snd b ((k : Int) + 1) n).1 (k + 1) sent got t) := by
  have hm := h.may.snd (n := n) (show 1 ≤ (k : Int) + 1 by omega) h.up.new
  have hu := h.up.snd (n := n)
  obtain ⟨hmay, hup, hle, hrow, hwait⟩ := h
  cases wait with
  | nil =>
    refine .inl ⟨rfl, ?_, hm, hu, by rw [List.length_append]; omega, ?_, ?_⟩
    · unfold snd; rw [hwait]; simp only; split <;> rfl
    · rcases row_snd b ((k : Int) + 1) n hwait with h1 | ⟨h1, h2⟩
      · rw [h1, hrow, List.drop_append_of_le_length hle]
      · exact (hmay.1.2.2.2.1.elim (fun h => absurd h h1) (fun h => absurd h2 h))
    · unfold snd; rw [hwait]; simp only; split <;> rfl
  | cons z t =>
    have hz : 1 ≤ z := hmay.2.1 z (by unfold who; rw [hwait]; simp)
    have e : snd b ((k : Int) + 1) n = (⟨b.room, b.msgs, b.send, t⟩, z, true) := by unfold snd; rw [hwait]
    rw [e] at hm hu
    refine .inr ⟨z, t, rfl, hz, by rw [e], ?_⟩
    rw [e]
    exact ⟨hm, hu, hle, hrow, rfl⟩
theorem Play.recvs {b : Bo} {k got : Nat} {sent wait : List Int} (h : Play b k sent got wait) :
    (got = sent.length ∧ (rcv b ((k : Int) + 1)).2.2.2 = false ∧ Play (rcv b ((k : Int) + 1)).1 (k + 1) sent got (wait ++ [(k : Int) + 1])) ∨
    (∃ z, sent[got]? = some z ∧ (rcv b ((k : Int) + 1)).2.2.2 = true ∧ (rcv b ((k : Int) + 1)).2.1 = z ∧ Play (rcv b ((k : Int) + 1)).1 (k + 1) sent (got + 1) wait) := by
  have hm := h.may.rcv (show 1 ≤ (k : Int) + 1 by omega) h.up.new
  have hu := h.up.rcv
  obtain ⟨hmay, hup, hle, hrow, hwait⟩ := h
  obtain ⟨h1, h2, h3, h4⟩ := rcv_row b ((k : Int) + 1)
  by_cases hg : got = sent.length
  · have e : Mp.row b = [] := by rw [hrow, hg]; simp
    rw [if_pos e, hwait] at h4
    rw [e] at h1 h3
    refine .inl ⟨hg, by simpa using h1, hm, hu, hle, ?_, h4⟩
    rw [h3, hg]; simp
  · have hlt : got < sent.length := by omega
    obtain ⟨z, hz⟩ : ∃ z, sent[got]? = some z := ⟨_, List.getElem?_eq_getElem hlt⟩
    have e : Mp.row b = z :: sent.drop (got + 1) := by rw [hrow, List.drop_eq_getElem_cons hlt]; congr; rw [List.getElem?_eq_getElem hlt] at hz; injection hz
    rw [e] at h1 h2 h3 h4
    refine .inr ⟨z, hz, by simpa using h1, by simpa using h2, hm, hu, hlt, ?_, ?_⟩
    · rw [h3]; simp
    · rw [h4]; simpa using hwait

/-! ### Sent one by one, received one by one -/
/-- Of n that were sent, those behind the first a: as many as there is room for, and who waits. -/
def st (r a n : Nat) : Bo := ⟨r, (List.range (min r (n - a))).map fun (k : Nat) => ((a + 1 + k : Nat) : Int), (List.range (n - a - r)).map fun (k : Nat) => (((a + r + 1 + k : Nat) : Int), ((a + r + 1 + k : Nat) : Int)), []⟩
theorem st_zero (r : Nat) : st r 0 0 = ⟨r, [], [], []⟩ := by simp [st]
theorem st_send (r i : Nat) : snd (st r 0 i) ((i + 1 : Nat) : Int) ((i + 1 : Nat) : Int) = (st r 0 (i + 1), 0, decide (i + 1 ≤ r)) := by
  unfold snd st
  simp only [Nat.sub_zero, List.length_map, List.length_range, Nat.zero_add]
  by_cases h : i < r
  · have e1 : min r i = i := by omega
    have e2 : min r (i + 1) = i + 1 := by omega
    have e3 : i - r = 0 := by omega
    have e4 : i + 1 - r = 0 := by omega
    rw [e1, e2, e3, e4, if_pos (by omega)]
    rw [List.range_succ, List.map_append]
    simp [Nat.add_comm]; omega
  · have e1 : min r i = r := by omega
    have e2 : min r (i + 1) = r := by omega
    have e3 : i + 1 - r = (i - r) + 1 := by omega
    rw [e1, e2, e3, if_neg (by omega)]
    rw [List.range_succ, List.map_append]
    have e4 : r + 1 + (i - r) = i + 1 := by omega
    simp; omega
theorem st_recv (r a n : Nat) (h : a < n) : rcv (st r a n) 100 = (st r (a + 1) n, ((a + 1 : Nat) : Int), if r + (a + 1) ≤ n then ((r + (a + 1) : Nat) : Int) else 0, true) := by
  have f1 : ∀ m : Nat, (List.range (m + 1)).map (fun (k : Nat) => ((a + 1 + k : Nat) : Int)) = ((a + 1 : Nat) : Int) :: (List.range m).map (fun (k : Nat) => ((a + 1 + 1 + k : Nat) : Int)) := by
    intro m
    rw [List.range_succ_eq_map, List.map_cons, List.map_map]
    congr 1
    refine List.map_congr_left fun k _ => ?_
    simp only [Function.comp]
    omega
  have f2 : ∀ m : Nat, (List.range (m + 1)).map (fun (k : Nat) => (((a + r + 1 + k : Nat) : Int), ((a + r + 1 + k : Nat) : Int))) = (((a + r + 1 : Nat) : Int), ((a + r + 1 : Nat) : Int)) :: (List.range m).map (fun (k : Nat) => (((a + 1 + r + 1 + k : Nat) : Int), ((a + 1 + r + 1 + k : Nat) : Int))) := by
    intro m
    rw [List.range_succ_eq_map, List.map_cons, List.map_map]
    congr 1
    refine List.map_congr_left fun k _ => ?_
    simp only [Function.comp]
    rw [show a + r + 1 + k.succ = a + 1 + r + 1 + k by omega]
  unfold st
  by_cases hr : r = 0
  · subst hr
    obtain ⟨m, hm⟩ : ∃ m, n - a - 0 = m + 1 := ⟨n - a - 1, by omega⟩
    have e2 : n - (a + 1) - 0 = m := by omega
    rw [hm, e2, f2, Nat.zero_min, Nat.zero_min, if_pos (by omega)]
    simp [rcv]
  · obtain ⟨m, hm⟩ : ∃ m, min r (n - a) = m + 1 := ⟨min r (n - a) - 1, by omega⟩
    rw [hm, f1]
    by_cases hs : n - a - r = 0
    · have e1 : min r (n - (a + 1)) = m := by omega
      have e2 : n - (a + 1) - r = 0 := by omega
      rw [hs, e1, e2, if_neg (by omega)]
      simp [rcv]
    · obtain ⟨s, hs⟩ : ∃ s, n - a - r = s + 1 := ⟨n - a - r - 1, by omega⟩
      have e1 : min r (n - (a + 1)) = m + 1 := by omega
      have e2 : n - (a + 1) - r = s := by omega
      have e3 : a + 1 + 1 + m = a + r + 1 := by omega
      rw [hs, f2, e1, e2, if_pos (by omega), List.range_succ, List.map_append, List.map_singleton, e3]
      simp [rcv]; omega
theorem st_over (r n : Nat) : rcv (st r n n) 100 = (⟨r, [], [], [100]⟩, 0, 0, false) := by
  unfold rcv st
  simp
end Go.Proofs.Ytjpnfjiccckaiaa.Mp

