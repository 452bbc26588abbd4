/-
  Plain facts on ways: of one step or more in a relation of n; and on the search that finds them from one, step by step.
-/
import Derived.Test.YtcfegclnkheebaaDoorL
namespace Go.Proofs.YtcfegclnkheebaaDoor

/-- Is there a way of at most m steps and one? -/
def wayN (R : Nat → Nat → Bool) (n : Nat) : Nat → Nat → Nat → Bool
  | 0, a, b => R a b
  | m + 1, a, b => wayN R n m a b || viaB (wayN R n m) R n a b
def Way (R : Nat → Nat → Bool) (n a b : Nat) : Prop := ∃ m, wayN R n m a b = true
theorem viaB_iff {A B : Nat → Nat → Bool} {J a b : Nat} : viaB A B J a b = true ↔ ∃ j, j < J ∧ A a j = true ∧ B j b = true := by
  unfold viaB; rw [List.any_eq_true]
  constructor
  · rintro ⟨j, h1, h2⟩
    rw [Bool.and_eq_true] at h2
    exact ⟨j, List.mem_range.1 h1, h2.1, h2.2⟩
  · rintro ⟨j, h1, h2, h3⟩
    exact ⟨j, List.mem_range.2 h1, by rw [h2, h3]; rfl⟩
theorem Way.one {R : Nat → Nat → Bool} {n a b : Nat} (h : R a b = true) : Way R n a b := ⟨0, h⟩
theorem Way.more {R : Nat → Nat → Bool} {n a b c : Nat} (h : Way R n a b) (hb : b < n) (hr : R b c = true) : Way R n a c := by
  obtain ⟨m, hm⟩ := h
  refine ⟨m + 1, ?_⟩
  unfold wayN
  rw [Bool.or_eq_true]
  exact Or.inr (viaB_iff.2 ⟨b, hb, hm, hr⟩)
theorem Way.ind {R : Nat → Nat → Bool} {n a b : Nat} (P : Nat → Prop) (h : Way R n a b) (h1 : ∀ x, R a x = true → P x) (h2 : ∀ x y, x < n → P x → R x y = true → P y) : P b := by
  obtain ⟨m, hm⟩ := h
  have key : ∀ m b, wayN R n m a b = true → P b := by
    intro m
    induction m with
    | zero => intro b hb; exact h1 b hb
    | succ m ih =>
      intro b hb
      unfold wayN at hb
      rw [Bool.or_eq_true] at hb
      rcases hb with hb | hb
      · exact ih b hb
      · obtain ⟨j, hj, ha, hr⟩ := viaB_iff.1 hb
        exact h2 j b hj (ih j ha) hr
  exact key m b hm
theorem Way.trans {R : Nat → Nat → Bool} {n a b c : Nat} (h : Way R n a b) (hb : b < n) (h' : Way R n b c) : Way R n a c :=
  h'.ind (fun x => Way R n a x) (fun _ hr => h.more hb hr) (fun _ _ hx hw hr => hw.more hx hr)

/-- How many of n are not in G. -/
def cnt (n : Nat) (G : Nat → Bool) : Nat := ((List.range n).filter fun b => !G b).length
theorem cnt_le (n : Nat) (G : Nat → Bool) : cnt n G ≤ n := by
  unfold cnt
  have := List.length_filter_le (fun b => !G b) (List.range n)
  simpa using this
theorem cnt_congr {n : Nat} {G G' : Nat → Bool} (h : ∀ b, b < n → G b = G' b) : cnt n G = cnt n G' := by
  unfold cnt
  congr 1
  apply List.filter_congr
  intro x hx
  rw [h x (List.mem_range.1 hx)]
theorem cnt_put {n k : Nat} {G : Nat → Bool} (hk : k < n) (h : G k = false) : cnt n (fun b => G b || decide (b = k)) + 1 = cnt n G := by
  induction n with
  | zero => omega
  | succ n ih =>
    unfold cnt at *
    rw [List.range_succ, List.filter_append, List.filter_append, List.length_append, List.length_append]
    by_cases e : k = n
    · subst e
      have h1 : ((List.range k).filter fun b => !(G b || decide (b = k))) = (List.range k).filter fun b => !G b := by
        apply List.filter_congr
        intro x hx
        have : x ≠ k := by have := List.mem_range.1 hx; omega
        simp [this]
      rw [h1]
      simp [h]
    · have ih' := ih (by omega)
      have h2 : ([n].filter fun b => !(G b || decide (b = k))) = [n].filter fun b => !G b := by
        have h3 : decide (n = k) = false := decide_eq_false (fun e' => e e'.symm)
        rw [List.filter_cons, List.filter_cons, h3, Bool.or_false]; rfl
      rw [h2]; omega

/-- What holds between two rounds of the search from i: found so far are G, still to be looked at ns. -/
structure Seek (R : Nat → Nat → Bool) (n i : Nat) (G : Nat → Bool) (ns : List Nat) : Prop where
  sound : ∀ b, b < n → G b = true → Way R n i b
  que : ∀ x, x ∈ ns → x < n ∧ G x = true
  init : ∀ b, b < n → R i b = true → G b = true
  closed : ∀ b, b < n → G b = true → b ∈ ns ∨ ∀ c, c < n → R b c = true → G c = true
  size : ns.length + cnt n G ≤ n
/-- The same while j is looked at, up to k. -/
structure Look (R : Nat → Nat → Bool) (n i : Nat) (G : Nat → Bool) (ns : List Nat) (j k : Nat) : Prop where
  sound : ∀ b, b < n → G b = true → Way R n i b
  que : ∀ x, x ∈ ns → x < n ∧ G x = true
  init : ∀ b, b < n → R i b = true → G b = true
  closed : ∀ b, b < n → G b = true → b ∈ ns ∨ (b = j ∧ ∀ c, c < k → c < n → R j c = true → G c = true) ∨ ∀ c, c < n → R b c = true → G c = true
  size : ns.length + 1 + cnt n G ≤ n
  lt : j < n
  way : Way R n i j
theorem Seek.pop {R : Nat → Nat → Bool} {n i : Nat} {G : Nat → Bool} {ns : List Nat} {j : Nat} (h : Seek R n i G (j :: ns)) : Look R n i G ns j 0 := by
  have hj := h.que j (by simp)
  refine ⟨h.sound, fun x hx => h.que x (by simp [hx]), h.init, fun b hb hg => ?_, ?_, hj.1, h.sound j hj.1 hj.2⟩
  · rcases h.closed b hb hg with h1 | h1
    · rcases List.mem_cons.1 h1 with h1 | h1
      · exact Or.inr (Or.inl ⟨h1, fun c hc => by omega⟩)
      · exact Or.inl h1
    · exact Or.inr (Or.inr h1)
  · have := h.size; simp at this; omega
theorem Look.skip {R : Nat → Nat → Bool} {n i : Nat} {G : Nat → Bool} {ns : List Nat} {j k : Nat} (h : Look R n i G ns j k) (hk : R j k = true → G k = true) : Look R n i G ns j (k + 1) := by
  refine ⟨h.sound, h.que, h.init, fun b hb hg => ?_, h.size, h.lt, h.way⟩
  rcases h.closed b hb hg with h1 | ⟨h1, h2⟩ | h1
  · exact Or.inl h1
  · refine Or.inr (Or.inl ⟨h1, fun c hc hcn hr => ?_⟩)
    by_cases e : c = k
    · subst e; exact hk hr
    · exact h2 c (by omega) hcn hr
  · exact Or.inr (Or.inr h1)
theorem Look.put {R : Nat → Nat → Bool} {n i : Nat} {G : Nat → Bool} {ns : List Nat} {j k : Nat} (h : Look R n i G ns j k) (hk : k < n) (hr : R j k = true) (hg : G k = false) : Look R n i (fun b => G b || decide (b = k)) (ns ++ [k]) j (k + 1) := by
  have hc := cnt_put hk hg
  have sub : ∀ b, G b = true → (G b || decide (b = k)) = true := fun b hb => by simp [hb]
  refine ⟨fun b hb hb' => ?_, fun x hx => ?_, fun b hb hr' => sub b (h.init b hb hr'), fun b hb hb' => ?_, ?_, h.lt, h.way⟩
  · simp only [Bool.or_eq_true, decide_eq_true_eq] at hb'
    rcases hb' with h1 | rfl
    · exact h.sound b hb h1
    · exact h.way.more h.lt hr
  · rcases List.mem_append.1 hx with h1 | h1
    · exact ⟨(h.que x h1).1, sub x (h.que x h1).2⟩
    · simp only [List.mem_singleton] at h1
      subst h1
      exact ⟨hk, by simp⟩
  · simp only [Bool.or_eq_true, decide_eq_true_eq] at hb'
    rcases hb' with h1 | rfl
    · rcases h.closed b hb h1 with h2 | ⟨h2, h3⟩ | h2
      · exact Or.inl (by simp [h2])
      · refine Or.inr (Or.inl ⟨h2, fun c hc' hcn hr' => ?_⟩)
        by_cases e : c = k
        · subst e; simp
        · exact sub c (h3 c (by omega) hcn hr')
      · exact Or.inr (Or.inr fun c hcn hr' => sub c (h2 c hcn hr'))
    · exact Or.inl (by simp)
  · have := h.size
    rw [List.length_append, List.length_singleton]; omega
theorem Look.done {R : Nat → Nat → Bool} {n i : Nat} {G : Nat → Bool} {ns : List Nat} {j : Nat} (h : Look R n i G ns j n) : Seek R n i G ns := by
  refine ⟨h.sound, h.que, h.init, fun b hb hg => ?_, by have := h.size; omega⟩
  rcases h.closed b hb hg with h1 | ⟨rfl, h2⟩ | h1
  · exact Or.inl h1
  · exact Or.inr fun c hc hr => h2 c hc hc hr
  · exact Or.inr h1
theorem Seek.fin {R : Nat → Nat → Bool} {n i : Nat} {G : Nat → Bool} (hR : ∀ a b, R a b = true → b < n) (h : Seek R n i G []) (b : Nat) (hb : b < n) : G b = true ↔ Way R n i b := by
  refine ⟨h.sound b hb, fun hw => ?_⟩
  exact (hw.ind (fun x => x < n ∧ G x = true) (fun x hr => ⟨hR _ _ hr, h.init x (hR _ _ hr) hr⟩) (fun x y _ hx hr => by
    rcases h.closed x hx.1 hx.2 with h1 | h1
    · simp at h1
    · exact ⟨hR _ _ hr, h1 y (hR _ _ hr) hr⟩)).2
/-- The beginning: all that i stands to ahead of k. -/
structure Start (R : Nat → Nat → Bool) (n i : Nat) (G : Nat → Bool) (ns : List Nat) (k : Nat) : Prop where
  has : ∀ b, b < n → (G b = true ↔ b < k ∧ R i b = true)
  que : ∀ x, x ∈ ns → x < n ∧ G x = true
  all : ∀ b, b < n → G b = true → b ∈ ns
  size : ns.length + cnt n G ≤ n
theorem Start.first {R : Nat → Nat → Bool} {n i : Nat} {G : Nat → Bool} (h : ∀ b, b < n → G b = false) : Start R n i G [] 0 := by
  refine ⟨fun b hb => ⟨fun hg => by rw [h b hb] at hg; simp at hg, fun h' => by omega⟩, fun x hx => by simp at hx, fun b hb hg => by rw [h b hb] at hg; simp at hg, ?_⟩
  have := cnt_le n G; simpa using this
theorem Start.put {R : Nat → Nat → Bool} {n i : Nat} {G : Nat → Bool} {ns : List Nat} {k : Nat} (h : Start R n i G ns k) (hk : k < n) (hr : R i k = true) : Start R n i (fun b => G b || decide (b = k)) (ns ++ [k]) (k + 1) := by
  have hg : G k = false := by
    cases e : G k
    · rfl
    · have := ((h.has k hk).1 e).1; omega
  have hc := cnt_put hk hg
  refine ⟨fun b hb => ?_, fun x hx => ?_, fun b hb hb' => ?_, ?_⟩
  · simp only [Bool.or_eq_true, decide_eq_true_eq]
    rw [h.has b hb]
    constructor
    · rintro (⟨h1, h2⟩ | rfl)
      · exact ⟨by omega, h2⟩
      · exact ⟨by omega, hr⟩
    · rintro ⟨h1, h2⟩
      by_cases e : b = k
      · exact Or.inr e
      · exact Or.inl ⟨by omega, h2⟩
  · rcases List.mem_append.1 hx with h1 | h1
    · exact ⟨(h.que x h1).1, by simp [(h.que x h1).2]⟩
    · simp only [List.mem_singleton] at h1
      subst h1
      exact ⟨hk, by simp⟩
  · simp only [Bool.or_eq_true, decide_eq_true_eq] at hb'
    rcases hb' with h1 | rfl
    · exact List.mem_append.2 (Or.inl (h.all b hb h1))
    · exact List.mem_append.2 (Or.inr (by simp))
  · have := h.size
    rw [List.length_append, List.length_singleton]; omega
theorem Start.skip {R : Nat → Nat → Bool} {n i : Nat} {G : Nat → Bool} {ns : List Nat} {k : Nat} (h : Start R n i G ns k) (hr : R i k = false) : Start R n i G ns (k + 1) := by
  refine ⟨fun b hb => ?_, h.que, h.all, h.size⟩
  rw [h.has b hb]
  constructor
  · rintro ⟨h1, h2⟩; exact ⟨by omega, h2⟩
  · rintro ⟨h1, h2⟩
    by_cases e : b = k
    · subst e; rw [hr] at h2; simp at h2
    · exact ⟨by omega, h2⟩
theorem Start.seek {R : Nat → Nat → Bool} {n i : Nat} {G : Nat → Bool} {ns : List Nat} (h : Start R n i G ns n) : Seek R n i G ns :=
  ⟨fun b hb hg => Way.one ((h.has b hb).1 hg).2, h.que, fun b hb hr => (h.has b hb).2 ⟨hb, hr⟩, fun b hb hg => Or.inl (h.all b hb hg), h.size⟩

/-- All rows but row i: those ahead of it are done, those behind it empty. -/
def Rest (R : Nat → Nat → Bool) (n i : Nat) (G : Nat → Nat → Bool) : Prop := (∀ a, a < i → ∀ b, b < n → (G a b = true ↔ Way R n a b)) ∧ ∀ a, i < a → ∀ b, b < n → G a b = false
theorem Rest.put {R : Nat → Nat → Bool} {n i k : Nat} {G : Nat → Nat → Bool} (h : Rest R n i G) : Rest R n i (fun a b => G a b || decide (a = i ∧ b = k)) := by
  refine ⟨fun a ha b hb => ?_, fun a ha b hb => ?_⟩
  · have : ¬ (a = i ∧ b = k) := by omega
    rw [← h.1 a ha b hb]; simp [this]
  · have : ¬ (a = i ∧ b = k) := by omega
    have h0 := h.2 a ha b hb
    show (G a b || decide (a = i ∧ b = k)) = false
    rw [h0, decide_eq_false this]; rfl
theorem row_put (G : Nat → Nat → Bool) (i k : Nat) : (fun b => G i b || decide (i = i ∧ b = k)) = fun b => G i b || decide (b = k) := by
  funext b; simp
end Go.Proofs.YtcfegclnkheebaaDoor
