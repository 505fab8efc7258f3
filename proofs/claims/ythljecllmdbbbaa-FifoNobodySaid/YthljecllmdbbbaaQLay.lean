/- How queues lie in an arena: who is next behind each, in which queue each stands, who is first and last of each; and what that is when one is pushed or dropped. -/
import Derived.Test.YthljecllmdbbbaaQPlain
namespace Go.Proofs.Ythljecllmdbbbaa
namespace Qp

def updn (f : Nat → Int) (x : Nat) (v : Int) : Nat → Int := fun y => if y = x then v else f y
structure Lay (m : Int) (q : List (List Int)) (N I : Int → Int) (F L : Nat → Int) : Prop where
  ok : Ok m q
  link : ∀ (i : Nat) l, q[i]? = some l → Links N l
  zero : ∀ g, of q g < 0 → N g = 0
  inn : ∀ g, I g = of q g + 1
  fst : ∀ k : Nat, F k = (q.getD k []).headD 0
  lst : ∀ k : Nat, L k = (q.getD k []).getLastD 0

theorem getD_set {q : List (List Int)} {k i : Nat} {x : List Int} (hk : k < q.length) : (q.set k x).getD i [] = if i = k then x else q.getD i [] := by
  simp only [List.getD_eq_getElem?_getD, List.getElem?_set]
  by_cases h : k = i
  · subst h; simp [hk]
  · simp [h]; intro e; exact absurd e.symm h
theorem of_eq_none {q : List (List Int)} {g : Int} (h : of q g < 0) : of q g = -1 := by rcases of_ge q g with h1 | h1 <;> omega
/-- Where each stands when one has been pushed. -/
theorem of_push {m : Int} {q : List (List Int)} (h : Ok m q) {k : Nat} {l : List Int} {g : Int} (hk : q[k]? = some l) (hg : of q g < 0) (h1 : 1 ≤ g) (h2 : g ≤ m) (x : Int) :
    of (q.set k (l ++ [g])) x = if x = g then (k : Int) else of q x := by
  have hlt := (List.getElem?_eq_some_iff.1 hk).1
  have h' := ok_set_push h hk hg h1 h2
  have hat : (q.set k (l ++ [g]))[k]? = some (l ++ [g]) := by rw [List.getElem?_set]; simp [hlt]
  by_cases e : x = g
  · subst e
    rw [if_pos rfl]
    exact of_eq h' hat (by simp)
  · rw [if_neg e]
    by_cases hx : of q x < 0
    · rw [of_eq_none hx]
      apply of_eq_none
      rw [of_none] at hx ⊢
      intro i a hi
      rcases set_at hi with ⟨e1, rfl, _⟩ | ⟨e1, hi'⟩
      · simp [e]; exact hx _ _ hk
      · exact hx _ _ hi'
    · obtain ⟨i, a, e1, hi, ha⟩ := of_at (q := q) (g := x) (by omega)
      rw [e1]
      by_cases hik : i = k
      · subst hik
        rw [hk] at hi
        injection hi with hi
        subst hi
        exact of_eq h' hat (by simp [ha])
      · exact of_eq h' (l := a) (by rw [List.getElem?_set]; simp [hi]; intro e; exact absurd e.symm hik) ha
theorem of_drop {m : Int} {q : List (List Int)} (h : Ok m q) (g x : Int) : of (drop q g) x = if x = g then -1 else of q x := by
  by_cases e : x = g
  · subst e
    rw [if_pos rfl]
    apply of_eq_none
    rw [of_none]
    intro i l hi hx
    rw [drop_at] at hi
    obtain ⟨a, ha, rfl⟩ := Option.map_eq_some_iff.1 hi
    exact (mem_but.1 hx).2 rfl
  · rw [if_neg e]
    by_cases hx : of q x < 0
    · rw [of_eq_none hx]
      apply of_eq_none
      rw [of_none] at hx ⊢
      intro i l hi hx'
      rw [drop_at] at hi
      obtain ⟨a, ha, rfl⟩ := Option.map_eq_some_iff.1 hi
      exact hx _ _ ha (mem_but.1 hx').1
    · obtain ⟨i, a, e1, hi, ha⟩ := of_at (q := q) (g := x) (by omega)
      rw [e1]
      exact of_eq (ok_drop h g) (l := but g a) (by rw [drop_at, hi]; rfl) (mem_but.2 ⟨ha, e⟩)
theorem last_app : ∀ (a : List Int) (b : List Int) (d : Int), b ≠ [] → (a ++ b).getLastD d = b.getLastD 0
  | [], [], _, h => absurd rfl h
  | [], x :: t, d, _ => by rw [List.nil_append, List.getLastD_cons, List.getLastD_cons]
  | y :: a, b, d, h => by rw [List.cons_append, List.getLastD_cons]; exact last_app a b y h
theorem last_mem : ∀ {l : List Int}, l ≠ [] → l.getLastD 0 ∈ l
  | [], h => absurd rfl h
  | [x], _ => by simp [List.getLastD]
  | x :: y :: t, _ => by
    have := last_mem (l := y :: t) (by simp)
    have e : (x :: y :: t).getLastD 0 = (y :: t).getLastD 0 := by simp [List.getLastD]
    rw [e]
    exact List.mem_cons_of_mem _ this
theorem lay_push {m : Int} {q : List (List Int)} {N I : Int → Int} {F L : Nat → Int} (h : Lay m q N I F L) {k : Nat} {l : List Int} {g : Int} (hk : q[k]? = some l) (hg : of q g < 0) (h1 : 1 ≤ g) (h2 : g ≤ m) :
    Lay m (q.set k (l ++ [g])) (if l = [] then N else upd N (l.getLastD 0) g) (upd I g ((k : Int) + 1)) (if l = [] then updn F k g else F) (updn L k g) := by
  have hlt := (List.getElem?_eq_some_iff.1 hk).1
  have hgd : q.getD k [] = l := by rw [List.getD_eq_getElem?_getD, hk]; rfl
  refine ⟨ok_set_push h.ok hk hg h1 h2, fun i a hi => ?_, fun x hx => ?_, fun x => ?_, fun i => ?_, fun i => ?_⟩
  · rcases set_at hi with ⟨e1, rfl, _⟩ | ⟨e1, hi'⟩
    · have hn := (ok_set_push h.ok hk hg h1 h2).nodup _ _ hi
      by_cases e : l = []
      · subst e; rw [if_pos rfl]; exact links_one (h.zero _ hg)
      · rw [if_neg e]; exact links_end (h.link _ _ hk) hn (h.zero _ hg) e
    · refine (h.link _ _ hi').congr fun x hx => ?_
      by_cases e : l = []
      · rw [if_pos e]
      · rw [if_neg e]
        apply upd_ne
        intro ex
        subst ex
        exact e1 (h.ok.one _ _ _ _ _ hi' hk hx (last_mem e))
  · rw [of_push h.ok hk hg h1 h2] at hx
    by_cases e : x = g
    · rw [if_pos e] at hx; omega
    · rw [if_neg e] at hx
      by_cases el : l = []
      · rw [if_pos el]; exact h.zero _ hx
      · rw [if_neg el, upd_ne]
        · exact h.zero _ hx
        · intro ex
          subst ex
          exact of_none.1 hx _ _ hk (last_mem el)
  · rw [of_push h.ok hk hg h1 h2]
    unfold upd
    split
    · rfl
    · exact h.inn x
  · rw [getD_set hlt]
    by_cases e : i = k
    · subst e
      rw [if_pos rfl]
      by_cases el : l = []
      · subst el; simp [updn]
      · rw [if_neg el, h.fst, hgd]
        cases l with
        | nil => exact absurd rfl el
        | cons x t => rfl
    · rw [if_neg e]
      by_cases el : l = []
      · rw [if_pos el]; unfold updn; rw [if_neg e]; exact h.fst i
      · rw [if_neg el]; exact h.fst i
  · rw [getD_set hlt]
    unfold updn
    by_cases e : i = k
    · subst e
      simp
    · rw [if_neg e, if_neg e]; exact h.lst i
theorem but_mid {a c : List Int} {g : Int} (hn : (a ++ g :: c).Nodup) : but g (a ++ g :: c) = a ++ c := by
  rw [List.nodup_append] at hn
  obtain ⟨_, h2, h3⟩ := hn
  rw [List.nodup_cons] at h2
  have ha : g ∉ a := fun h => h3 g h g (by simp) rfl
  unfold but
  rw [List.filter_append, List.filter_cons]
  simp only [bne_self_eq_false]
  have e1 := but_none ha
  have e2 := but_none h2.1
  unfold but at e1 e2
  rw [e1, e2]
  rfl
theorem not_mid {a c : List Int} {g : Int} (hn : (a ++ g :: c).Nodup) : g ∉ a ∧ g ∉ c := by
  rw [List.nodup_append] at hn
  obtain ⟨_, h2, h3⟩ := hn
  rw [List.nodup_cons] at h2
  exact ⟨fun h => h3 g h g (by simp) rfl, h2.1⟩
theorem lay_drop {m : Int} {q : List (List Int)} {N I : Int → Int} {F L : Nat → Int} (h : Lay m q N I F L) {k : Nat} {a c : List Int} {g : Int} (hk : q[k]? = some (a ++ g :: c)) :
    Lay m (drop q g) (upd (if a = [] then N else upd N (a.getLastD 0) (c.headD 0)) g 0) (upd I g 0) (if a = [] then updn F k (c.headD 0) else F) (if c = [] then updn L k (a.getLastD 0) else L) := by
  have hlt := (List.getElem?_eq_some_iff.1 hk).1
  have hn := h.ok.nodup _ _ hk
  have hgd : q.getD k [] = a ++ g :: c := by rw [List.getD_eq_getElem?_getD, hk]; rfl
  obtain ⟨na, nc⟩ := not_mid hn
  have hdk : (drop q g).getD k [] = a ++ c := by rw [List.getD_eq_getElem?_getD, drop_at, hk]; simp [but_mid hn]
  have hdo : ∀ i, i ≠ k → (drop q g).getD i [] = q.getD i [] := by
    intro i hi
    rw [List.getD_eq_getElem?_getD, List.getD_eq_getElem?_getD, drop_at]
    cases he : q[i]? with
    | none => rfl
    | some l =>
      have : g ∉ l := fun hg => hi (h.ok.one _ _ _ _ _ he hk hg (by simp))
      simp [but_none this]
  refine ⟨ok_drop h.ok g, fun i l' hi => ?_, fun x hx => ?_, fun x => ?_, fun i => ?_, fun i => ?_⟩
  · rw [drop_at] at hi
    obtain ⟨l, hl, rfl⟩ := Option.map_eq_some_iff.1 hi
    by_cases e : i = k
    · subst e
      rw [hk] at hl
      injection hl with hl
      subst hl
      rw [but_mid hn]
      have hL := h.link _ _ hk
      have : Links (if a = [] then N else upd N (a.getLastD 0) (c.headD 0)) (a ++ c) := by
        by_cases e : a = []
        · subst e; rw [if_pos rfl]; exact (links_after (a := []) hL).2
        · rw [if_neg e]; exact links_out hL hn e
      refine this.congr fun x hx => ?_
      apply upd_ne
      intro ex
      subst ex
      simp [na, nc] at hx
    · have hgl : g ∉ l := fun hg => e (h.ok.one _ _ _ _ _ hl hk hg (by simp))
      rw [but_none hgl]
      refine (h.link _ _ hl).congr fun x hx => ?_
      rw [upd_ne _ _ (fun ex => hgl (by rw [← ex]; exact hx))]
      by_cases ea : a = []
      · rw [if_pos ea]
      · rw [if_neg ea]
        apply upd_ne
        intro ex
        subst ex
        exact e (h.ok.one _ _ _ _ _ hl hk hx (List.mem_append_left _ (last_mem ea)))
  · rw [of_drop h.ok] at hx
    by_cases e : x = g
    · subst e; exact upd_same _ _ _
    · rw [if_neg e] at hx
      rw [upd_ne _ _ e]
      by_cases ea : a = []
      · rw [if_pos ea]; exact h.zero _ hx
      · rw [if_neg ea, upd_ne]
        · exact h.zero _ hx
        · intro ex
          subst ex
          exact of_none.1 hx _ _ hk (List.mem_append_left _ (last_mem ea))
  · rw [of_drop h.ok]
    unfold upd
    split
    · rfl
    · exact h.inn x
  · by_cases e : i = k
    · subst e
      rw [hdk]
      by_cases ea : a = []
      · subst ea; simp [updn]
      · rw [if_neg ea, h.fst, hgd]
        cases a with
        | nil => exact absurd rfl ea
        | cons x t => rfl
    · rw [hdo i e]
      by_cases ea : a = []
      · rw [if_pos ea]; unfold updn; rw [if_neg e]; exact h.fst i
      · rw [if_neg ea]; exact h.fst i
  · by_cases e : i = k
    · subst e
      rw [hdk]
      by_cases ec : c = []
      · subst ec; simp [updn]
      · rw [if_neg ec, h.lst, hgd]
        cases c with
        | nil => exact absurd rfl ec
        | cons x t => rw [show a ++ g :: x :: t = (a ++ [g]) ++ (x :: t) by simp, last_app _ _ _ (by simp), last_app _ _ _ (by simp)]
    · rw [hdo i e]
      by_cases ec : c = []
      · rw [if_pos ec]; unfold updn; rw [if_neg e]; exact h.lst i
      · rw [if_neg ec]; exact h.lst i
/-- Is the last one of its queue the one that is dropped? Just if nobody is behind it. -/
theorem last_is {m : Int} {q : List (List Int)} {N I : Int → Int} {F L : Nat → Int} (h : Lay m q N I F L) {k : Nat} {a c : List Int} {g : Int} (hk : q[k]? = some (a ++ g :: c)) : (L k = g ↔ c = []) := by
  have hn := h.ok.nodup _ _ hk
  obtain ⟨na, nc⟩ := not_mid hn
  have hgd : q.getD k [] = a ++ g :: c := by rw [List.getD_eq_getElem?_getD, hk]; rfl
  rw [h.lst, hgd]
  cases c with
  | nil => simp
  | cons x t =>
    have e : (a ++ g :: x :: t).getLastD 0 = (x :: t).getLastD 0 := by rw [show a ++ g :: x :: t = (a ++ [g]) ++ (x :: t) by simp]; exact last_app _ _ _ (by simp)
    rw [e]
    constructor
    · intro he
      have := last_mem (l := x :: t) (by simp)
      rw [he] at this
      exact absurd this nc
    · intro he; cases he
theorem zero_iff {m : Int} {l : List Int} (hm : ∀ g ∈ l, 1 ≤ g ∧ g ≤ m) : l.getLastD 0 = 0 ↔ l = [] := by
  constructor
  · intro h
    by_cases e : l = []
    · exact e
    · have := hm _ (last_mem e); omega
  · rintro rfl; rfl
theorem lay_new (m : Int) (n : Nat) : Lay m (List.replicate n []) (fun _ => 0) (fun _ => 0) (fun _ => 0) (fun _ => 0) := by
  have hr : ∀ (i : Nat) l, (List.replicate n ([] : List Int))[i]? = some l → l = [] := by
    intro i l hi
    rw [List.getElem?_replicate] at hi
    split at hi
    · injection hi with hi; exact hi.symm
    · cases hi
  have hd : ∀ k : Nat, (List.replicate n ([] : List Int)).getD k [] = [] := by
    intro k
    rw [List.getD_eq_getElem?_getD]
    cases he : (List.replicate n ([] : List Int))[k]? with
    | none => rfl
    | some l => simp [hr _ _ he]
  refine ⟨⟨fun i j l l' g hi hj hg _ => ?_, fun i l hi => ?_, fun i l g hi hg => ?_⟩, fun i l hi => ?_, fun _ _ => rfl, fun g => ?_, fun k => ?_, fun k => ?_⟩
  · rw [hr _ _ hi] at hg; cases hg
  · rw [hr _ _ hi]; simp
  · rw [hr _ _ hi] at hg; cases hg
  · rw [hr _ _ hi]; trivial
  · rw [of_eq_none]
    · rfl
    · rw [of_none]; intro i l hi hg; rw [hr _ _ hi] at hg; cases hg
  · rw [hd]; rfl
  · rw [hd]; rfl
end Qp
end Go.Proofs.Ythljecllmdbbbaa

