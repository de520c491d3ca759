/- Tuples and their sets, plainly: the order, rising lists, what is in one and not in another, two as one. -/
import Derived.Test.YtmldiojlglpoiaaMem
namespace Go.Proofs.Ytmldiojlglpoiaa

/-- A tuple's numbers. -/
abbrev Tu := List Int
/-- The order of tuples. -/
def cmpI : Tu → Tu → Int
  | [], [] => 0
  | [], _ :: _ => -1
  | _ :: _, [] => 1
  | x :: a, y :: b => if x < y then -1 else if y < x then 1 else cmpI a b
theorem cmpI_cons (x y : Int) (a b : Tu) : cmpI (x :: a) (y :: b) = if x < y then -1 else if y < x then 1 else cmpI a b := by rw [cmpI]
theorem cmpI_refl : ∀ a : Tu, cmpI a a = 0
  | [] => by rw [cmpI]
  | x :: a => by rw [cmpI_cons, if_neg (by omega), if_neg (by omega)]; exact cmpI_refl a
theorem cmpI_eq : ∀ {a b : Tu}, cmpI a b = 0 → a = b
  | [], [], _ => rfl
  | [], _ :: _, h => by rw [cmpI] at h; omega
  | _ :: _, [], h => by rw [cmpI] at h; omega
  | x :: a, y :: b, h => by
    rw [cmpI_cons] at h
    split at h
    · omega
    · split at h
      · omega
      · have : x = y := by omega
        rw [this, cmpI_eq h]
theorem cmpI_zero {a b : Tu} : cmpI a b = 0 ↔ a = b := ⟨cmpI_eq, fun h => h ▸ cmpI_refl a⟩
theorem cmpI_swap : ∀ a b : Tu, cmpI b a = - cmpI a b
  | [], [] => by rw [cmpI]; rfl
  | [], _ :: _ => by rw [cmpI, cmpI]; rfl
  | _ :: _, [] => by rw [cmpI, cmpI]
  | x :: a, y :: b => by
    rw [cmpI_cons, cmpI_cons]
    by_cases h1 : x < y
    · rw [if_neg (by omega), if_pos h1, if_pos h1]; rfl
    · by_cases h2 : y < x
      · rw [if_pos h2, if_neg h1, if_pos h2]
      · rw [if_neg h2, if_neg h1, if_neg h1, if_neg h2]
        exact cmpI_swap a b
theorem cmpI_rng : ∀ a b : Tu, cmpI a b = -1 ∨ cmpI a b = 0 ∨ cmpI a b = 1
  | [], [] => by rw [cmpI]; omega
  | [], _ :: _ => by rw [cmpI]; omega
  | _ :: _, [] => by rw [cmpI]; omega
  | x :: a, y :: b => by
    rw [cmpI_cons]
    split
    · omega
    · split
      · omega
      · exact cmpI_rng a b
theorem cmpI_trans : ∀ {a b c : Tu}, cmpI a b < 0 → cmpI b c < 0 → cmpI a c < 0
  | [], [], _, h, _ => by rw [cmpI] at h; omega
  | [], _ :: _, [], _, h => by rw [cmpI] at h; omega
  | [], _ :: _, _ :: _, _, _ => by rw [cmpI]; omega
  | _ :: _, [], _, h, _ => by rw [cmpI] at h; omega
  | _ :: _, _ :: _, [], _, h => by rw [cmpI] at h; omega
  | x :: a, y :: b, z :: c, h, k => by
    rw [cmpI_cons] at h k ⊢
    by_cases h1 : x < y
    · by_cases k1 : y < z
      · rw [if_pos (by omega)]; omega
      · rw [if_neg k1] at k
        by_cases k2 : z < y
        · rw [if_pos k2] at k; omega
        · rw [if_pos (by omega)]; omega
    · rw [if_neg h1] at h
      by_cases h2 : y < x
      · rw [if_pos h2] at h; omega
      · rw [if_neg h2] at h
        have e : x = y := by omega
        subst e
        by_cases k1 : x < z
        · rw [if_pos k1]; omega
        · rw [if_neg k1] at k ⊢
          by_cases k2 : z < x
          · rw [if_pos k2] at k; omega
          · rw [if_neg k2] at k ⊢
            exact cmpI_trans h k
theorem cmpI_pos {a b : Tu} : 0 < cmpI a b ↔ cmpI b a < 0 := by rw [cmpI_swap a b]; omega
theorem cmpI_ne {a b : Tu} (h : cmpI a b < 0) : a ≠ b := by rintro rfl; rw [cmpI_refl] at h; omega
theorem cmpI_le {a b c : Tu} (h : cmpI a b ≤ 0) (k : cmpI b c ≤ 0) : cmpI a c ≤ 0 := by
  by_cases h0 : cmpI a b = 0
  · rw [cmpI_eq h0]; exact k
  · by_cases k0 : cmpI b c = 0
    · rw [← cmpI_eq k0]; exact h
    · have := cmpI_trans (a := a) (b := b) (c := c) (by omega) (by omega)
      omega

/-- A list that rises. -/
def Ris (l : List Tu) : Prop := l.Pairwise fun a b => cmpI a b < 0
/-- Neighbour by neighbour. -/
def risB : List Tu → Bool
  | [] => true
  | [_] => true
  | x :: y :: r => decide (cmpI x y < 0) && risB (y :: r)
theorem ris_iff : ∀ {l : List Tu}, risB l = true ↔ Ris l
  | [] => ⟨fun _ => .nil, fun _ => by rw [risB]⟩
  | [x] => ⟨fun _ => List.pairwise_singleton _ _, fun _ => by rw [risB]⟩
  | x :: y :: r => by
    rw [risB, Bool.and_eq_true, decide_eq_true_eq, ris_iff (l := y :: r)]
    constructor
    · rintro ⟨h, k⟩
      refine List.pairwise_cons.2 ⟨fun z hz => ?_, k⟩
      rcases List.mem_cons.1 hz with rfl | hz
      · exact h
      · exact cmpI_trans h ((List.pairwise_cons.1 k).1 z hz)
    · intro h
      have := List.pairwise_cons.1 h
      exact ⟨this.1 y (List.mem_cons_self ..), this.2⟩
/-- Where neighbours stand: the index form. -/
theorem risB_at : ∀ {l : List Tu}, (∀ i, (h : i + 1 < l.length) → cmpI l[i] l[i + 1] < 0) → risB l = true
  | [], _ => by rw [risB]
  | [x], _ => by rw [risB]
  | x :: y :: r, h => by
    rw [risB, Bool.and_eq_true, decide_eq_true_eq]
    exact ⟨h 0 (by simp), risB_at fun i hi => h (i + 1) (by simpa using hi)⟩
theorem risB_no {l : List Tu} {i : Nat} (h : i + 1 < l.length) (hc : ¬ cmpI l[i] l[i + 1] < 0) : risB l = false := by
  cases hb : risB l with
  | false => rfl
  | true =>
    have := List.pairwise_iff_getElem.1 (ris_iff.1 hb) i (i + 1) (by omega) h (by omega)
    exact absurd this hc
theorem ris_ext : ∀ {A B : List Tu}, Ris A → Ris B → (∀ q, q ∈ A ↔ q ∈ B) → A = B
  | [], [], _, _, _ => rfl
  | [], b :: B, _, _, h => by have := (h b).2 (List.mem_cons_self ..); cases this
  | a :: A, [], _, _, h => by have := (h a).1 (List.mem_cons_self ..); cases this
  | a :: A, b :: B, ha, hb, h => by
    have hpa := List.pairwise_cons.1 ha
    have hpb := List.pairwise_cons.1 hb
    have e1 : a = b := by
      have h1 := (h a).1 (List.mem_cons_self ..)
      have h2 := (h b).2 (List.mem_cons_self ..)
      rcases List.mem_cons.1 h1 with e | h1
      · exact e
      · rcases List.mem_cons.1 h2 with e | h2
        · exact e.symm
        · have := cmpI_trans (hpa.1 b h2) (hpb.1 a h1)
          rw [cmpI_refl] at this
          omega
    subst e1
    congr 1
    refine ris_ext hpa.2 hpb.2 fun q => ⟨fun hq => ?_, fun hq => ?_⟩
    · rcases List.mem_cons.1 ((h q).1 (List.mem_cons_of_mem _ hq)) with rfl | h1
      · exact absurd (hpa.1 q hq) (by rw [cmpI_refl]; omega)
      · exact h1
    · rcases List.mem_cons.1 ((h q).2 (List.mem_cons_of_mem _ hq)) with rfl | h1
      · exact absurd (hpb.1 q hq) (by rw [cmpI_refl]; omega)
      · exact h1
/-- Is it in the list? -/
def hasL (l : List Tu) (t : Tu) : Bool := l.any fun u => decide (cmpI u t = 0)
theorem hasL_iff {l : List Tu} {t : Tu} : hasL l t = true ↔ t ∈ l := by
  unfold hasL
  rw [List.any_eq_true]
  constructor
  · rintro ⟨u, hu, h⟩
    rw [decide_eq_true_eq, cmpI_zero] at h
    exact h ▸ hu
  · intro h
    exact ⟨t, h, by simp [cmpI_refl]⟩
theorem hasL_no {l : List Tu} {t : Tu} : hasL l t = false ↔ t ∉ l := by
  rw [← hasL_iff]
  cases hasL l t <;> simp
theorem hasL_at {l : List Tu} {t : Tu} {i : Nat} (h : i < l.length) (hc : cmpI l[i] t = 0) : hasL l t = true := hasL_iff.2 (by rw [← cmpI_eq hc]; exact List.getElem_mem h)
/-- What is in one and not in another one. -/
def woL (a b : List Tu) : List Tu := a.filter fun t => !hasL b t
theorem mem_wo {a b : List Tu} {t : Tu} : t ∈ woL a b ↔ t ∈ a ∧ t ∉ b := by
  unfold woL
  rw [List.mem_filter]
  constructor
  · rintro ⟨h, k⟩
    refine ⟨h, fun hb => ?_⟩
    rw [hasL_iff.2 hb] at k
    cases k
  · rintro ⟨h, k⟩
    exact ⟨h, by rw [hasL_no.2 k]; rfl⟩
theorem ris_wo {a : List Tu} (b : List Tu) (h : Ris a) : Ris (woL a b) := h.sublist List.filter_sublist
theorem wo_len (a b : List Tu) : (woL a b).length ≤ a.length := List.length_filter_le _ _
theorem wo_snoc (a b : List Tu) (t : Tu) : woL (a ++ [t]) b = woL a b ++ if hasL b t = true then [] else [t] := by
  unfold woL
  rw [List.filter_append]
  congr 1
  cases h : hasL b t <;> simp [h]
theorem wo_take {a b : List Tu} {k : Nat} (h : k < a.length) : woL (a.take (k + 1)) b = woL (a.take k) b ++ if hasL b a[k] = true then [] else [a[k]] := by
  rw [List.take_succ_eq_append_getElem h, wo_snoc]
/-- What has been passed by is less, so just the next one may be it. -/
theorem has_next {p s : List Tu} {t : Tu} (hr : Ris (p ++ s)) (hp : ∀ q ∈ p, cmpI q t < 0) (hs : ∀ x r, s = x :: r → ¬ cmpI x t < 0) : hasL (p ++ s) t = true ↔ ∃ x r, s = x :: r ∧ cmpI x t = 0 := by
  rw [hasL_iff, List.mem_append]
  constructor
  · rintro (h | h)
    · exact absurd rfl (cmpI_ne (hp t h))
    · rcases s with _ | ⟨x, r⟩
      · cases h
      · refine ⟨x, r, rfl, ?_⟩
        rcases List.mem_cons.1 h with rfl | h
        · exact cmpI_refl _
        · have h1 := (List.pairwise_cons.1 (List.pairwise_append.1 hr).2.1).1 t h
          exact absurd h1 (hs x r rfl)
  · rintro ⟨x, r, rfl, hx⟩
    exact .inr (by rw [cmpI_eq hx]; exact List.mem_cons_self ..)
/-- Is a tuple in both? -/
def meetL (a b : List Tu) : Bool := decide ((woL a b).length < a.length)
theorem meet_iff {a b : List Tu} : meetL a b = true ↔ ∃ t, t ∈ a ∧ t ∈ b := by
  unfold meetL woL
  rw [decide_eq_true_eq]
  constructor
  · intro h
    refine Classical.byContradiction fun hn => ?_
    have : a.filter (fun t => !hasL b t) = a := List.filter_eq_self.2 fun t ht => by
      rw [hasL_no.2 fun hb => hn ⟨t, ht, hb⟩]; rfl
    rw [this] at h
    omega
  · rintro ⟨t, ha, hb⟩
    refine List.length_filter_lt_length_iff_exists.2 ⟨t, ha, ?_⟩
    rw [hasL_iff.2 hb]
    simp
theorem meet_no {a b : List Tu} : meetL a b = false ↔ ∀ t, t ∈ a → t ∉ b := by
  rw [← Bool.not_eq_true, meet_iff]
  exact ⟨fun h t ha hb => h ⟨t, ha, hb⟩, fun h ⟨t, ha, hb⟩ => h t ha hb⟩
/-- Two as one, the lesser ahead. -/
def mrg : List Tu → List Tu → List Tu
  | [], b => b
  | a, [] => a
  | x :: a, y :: b => if cmpI x y < 0 then x :: mrg a (y :: b) else y :: mrg (x :: a) b
termination_by a b => a.length + b.length
theorem mrg_nil_left (b : List Tu) : mrg [] b = b := by rw [mrg]
theorem mrg_nil_right (a : List Tu) : mrg a [] = a := by
  cases a <;> rw [mrg]
  intro h; cases h
theorem mrg_cons (x y : Tu) (a b : List Tu) : mrg (x :: a) (y :: b) = if cmpI x y < 0 then x :: mrg a (y :: b) else y :: mrg (x :: a) b := by rw [mrg]
theorem mem_mrg {t : Tu} : ∀ {a b : List Tu}, t ∈ mrg a b ↔ t ∈ a ∨ t ∈ b
  | [], b => by rw [mrg_nil_left]; simp
  | x :: a, [] => by rw [mrg_nil_right]; simp
  | x :: a, y :: b => by
    rw [mrg_cons]
    split
    · rw [List.mem_cons, mem_mrg (a := a) (b := y :: b)]
      simp only [List.mem_cons]
      grind
    · rw [List.mem_cons, mem_mrg (a := x :: a) (b := b)]
      simp only [List.mem_cons]
      grind
termination_by a b => a.length + b.length
theorem mrg_len : ∀ a b : List Tu, (mrg a b).length = a.length + b.length
  | [], b => by rw [mrg_nil_left]; simp
  | x :: a, [] => by rw [mrg_nil_right]; simp
  | x :: a, y :: b => by
    rw [mrg_cons]
    split
    · rw [List.length_cons, mrg_len a (y :: b)]; simp; omega
    · rw [List.length_cons, mrg_len (x :: a) b]; simp; omega
termination_by a b => a.length + b.length
theorem ris_mrg : ∀ {a b : List Tu}, Ris a → Ris b → (∀ t, t ∈ a → t ∉ b) → Ris (mrg a b)
  | [], b, _, hb, _ => by rw [mrg_nil_left]; exact hb
  | x :: a, [], ha, _, _ => by rw [mrg_nil_right]; exact ha
  | x :: a, y :: b, ha, hb, h => by
    have hpa := List.pairwise_cons.1 ha
    have hpb := List.pairwise_cons.1 hb
    rw [mrg_cons]
    split
    · rename_i hxy
      refine List.pairwise_cons.2 ⟨fun z hz => ?_, ris_mrg hpa.2 hb fun t ht => h t (List.mem_cons_of_mem _ ht)⟩
      rcases mem_mrg.1 hz with hz | hz
      · exact hpa.1 z hz
      · rcases List.mem_cons.1 hz with rfl | hz
        · exact hxy
        · exact cmpI_trans hxy (hpb.1 z hz)
    · rename_i hxy
      have hne : x ≠ y := by rintro rfl; exact h x (List.mem_cons_self ..) (List.mem_cons_self ..)
      have hyx : cmpI y x < 0 := by
        have := cmpI_swap x y
        have h0 : cmpI x y ≠ 0 := fun e => hne (cmpI_eq e)
        omega
      refine List.pairwise_cons.2 ⟨fun z hz => ?_, ris_mrg ha hpb.2 fun t ht hb' => h t ht (List.mem_cons_of_mem _ hb')⟩
      rcases mem_mrg.1 hz with hz | hz
      · rcases List.mem_cons.1 hz with rfl | hz
        · exact hyx
        · exact cmpI_trans hyx (hpa.1 z hz)
      · exact hpb.1 z hz
termination_by a b => a.length + b.length
/-- A tuple put ahead of the first greater one. -/
def insS (t : Tu) : List Tu → List Tu
  | [] => [t]
  | x :: r => if cmpI t x < 0 then t :: x :: r else x :: insS t r
theorem mem_insS {t q : Tu} : ∀ {l : List Tu}, q ∈ insS t l ↔ q = t ∨ q ∈ l
  | [] => by rw [insS]; simp
  | x :: r => by
    rw [insS]
    split
    · simp only [List.mem_cons]
    · rw [List.mem_cons, mem_insS (l := r), List.mem_cons]
      grind
theorem insS_len (t : Tu) : ∀ l : List Tu, (insS t l).length = l.length + 1
  | [] => by rw [insS]; rfl
  | x :: r => by
    rw [insS]
    split
    · simp
    · rw [List.length_cons, insS_len t r]; rfl
theorem ris_insS {t : Tu} : ∀ {l : List Tu}, Ris l → t ∉ l → Ris (insS t l)
  | [], _, _ => by rw [insS]; exact List.pairwise_singleton _ _
  | x :: r, h, hn => by
    have hp := List.pairwise_cons.1 h
    rw [insS]
    split
    · rename_i h1
      refine List.pairwise_cons.2 ⟨fun q hq => ?_, h⟩
      rcases List.mem_cons.1 hq with rfl | hq
      · exact h1
      · exact cmpI_trans h1 (hp.1 q hq)
    · rename_i h1
      refine List.pairwise_cons.2 ⟨fun q hq => ?_, ris_insS hp.2 fun hr => hn (List.mem_cons_of_mem _ hr)⟩
      rcases mem_insS.1 hq with rfl | hq
      · have h0 : cmpI q x ≠ 0 := fun e => hn (by rw [cmpI_eq e]; exact List.mem_cons_self ..)
        have := cmpI_swap q x
        omega
      · exact hp.1 q hq
/-- The first greater one stands here. -/
theorem insS_here {t x : Tu} {r : List Tu} (h : cmpI t x < 0) : ∀ p : List Tu, (∀ q ∈ p, ¬ cmpI t q < 0) → insS t (p ++ x :: r) = p ++ t :: x :: r
  | [], _ => by simp only [List.nil_append, insS, if_pos h]
  | y :: p, hp => by
    simp only [List.cons_append, insS, if_neg (hp y (List.mem_cons_self ..))]
    rw [insS_here h p fun q hq => hp q (List.mem_cons_of_mem _ hq)]
theorem insS_end {t : Tu} : ∀ p : List Tu, (∀ q ∈ p, ¬ cmpI t q < 0) → insS t p = p ++ [t]
  | [], _ => by rw [insS]; rfl
  | y :: p, hp => by
    rw [insS, if_neg (hp y (List.mem_cons_self ..)), insS_end p fun q hq => hp q (List.mem_cons_of_mem _ hq)]
    rfl
/-- The tuples of a list as a set, one by one. -/
def setS (s : List Tu) (t : Tu) : List Tu := if hasL s t = true then s else insS t s
def setL (l : List Tu) : List Tu := l.foldl setS []
theorem setL_snoc (l : List Tu) (t : Tu) : setL (l ++ [t]) = setS (setL l) t := by unfold setL; rw [List.foldl_append]; rfl
theorem setL_take {l : List Tu} {k : Nat} (h : k < l.length) : setL (l.take (k + 1)) = setS (setL (l.take k)) l[k] := by
  rw [List.take_succ_eq_append_getElem h, setL_snoc]
theorem ris_setS {s : List Tu} (t : Tu) (h : Ris s) : Ris (setS s t) := by
  unfold setS
  split
  · exact h
  · rename_i hn
    exact ris_insS h fun hm => hn (hasL_iff.2 hm)
theorem mem_setS {s : List Tu} {t q : Tu} : q ∈ setS s t ↔ q = t ∨ q ∈ s := by
  unfold setS
  split
  · rename_i h
    have := hasL_iff.1 h
    exact ⟨.inr, fun h => h.elim (fun e => e ▸ this) id⟩
  · exact mem_insS
theorem setS_len (s : List Tu) (t : Tu) : (setS s t).length ≤ s.length + 1 := by
  unfold setS
  split
  · omega
  · rw [insS_len]; omega
theorem ris_foldl : ∀ (l s : List Tu), Ris s → Ris (l.foldl setS s)
  | [], _, h => h
  | t :: l, _, h => ris_foldl l _ (ris_setS t h)
theorem mem_foldl {q : Tu} : ∀ (l s : List Tu), q ∈ l.foldl setS s ↔ q ∈ l ∨ q ∈ s
  | [], s => by simp
  | t :: l, s => by
    rw [List.foldl_cons, mem_foldl l, mem_setS, List.mem_cons]
    grind
theorem foldl_len : ∀ (l s : List Tu), (l.foldl setS s).length ≤ s.length + l.length
  | [], _ => by simp
  | t :: l, s => by
    have h1 := foldl_len l (setS s t)
    have h2 := setS_len s t
    rw [List.foldl_cons, List.length_cons]
    omega
theorem ris_set (l : List Tu) : Ris (setL l) := ris_foldl l [] .nil
theorem mem_set {l : List Tu} {q : Tu} : q ∈ setL l ↔ q ∈ l := by
  unfold setL
  rw [mem_foldl]
  simp
theorem setL_len (l : List Tu) : (setL l).length ≤ l.length := by
  have h : (l.foldl setS []).length ≤ ([] : List Tu).length + l.length := foldl_len l []
  rw [List.length_nil, Nat.zero_add] at h
  exact h
/-- Two rising lists of no common tuple. -/
theorem set_mrg {a b : List Tu} (ha : Ris a) (hb : Ris b) (h : ∀ t, t ∈ a → t ∉ b) : setL (a ++ b) = mrg a b :=
  ris_ext (ris_set _) (ris_mrg ha hb h) fun q => by rw [mem_set, List.mem_append, mem_mrg]
/-- Of neighbours that are the same just one. -/
def cpt : List Tu → List Tu
  | [] => []
  | x :: r => x :: (cpt r).filter fun y => !decide (y = x)
end Go.Proofs.Ytmldiojlglpoiaa
