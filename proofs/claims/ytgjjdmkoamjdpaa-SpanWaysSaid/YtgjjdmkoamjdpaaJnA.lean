/- Joined: TupA JoA JoB JoC. -/
import Derived.Test.YtgjjdmkoamjdpaaMem
/- Tuples and their sets, plainly: the order, rising lists, what is in one and not in another, two as one. -/
namespace Go.Proofs.Ytgjjdmkoamjdpaa

/-- A tuple's numbers. -/
abbrev Tu := List Int
/-- The order of tuples. -/
def cmpI : Tu → Tu → Int
  | [], [] => 0
  | [], _ :: _ => -1
  | _ :: _, [] => 1
  | x :: a, y :: b => if x < y then -1 else if y < x then 1 else cmpI a b
theorem cmpI_cons (x y : Int) (a b : Tu) : cmpI (x :: a) (y :: b) = if x < y then -1 else if y < x then 1 else cmpI a b := by rw [cmpI]
theorem cmpI_refl : ∀ a : Tu, cmpI a a = 0
  | [] => by rw [cmpI]
  | x :: a => by rw [cmpI_cons, if_neg (by omega), if_neg (by omega)]; exact cmpI_refl a
theorem cmpI_eq : ∀ {a b : Tu}, cmpI a b = 0 → a = b
  | [], [], _ => rfl
  | [], _ :: _, h => by rw [cmpI] at h; omega
  | _ :: _, [], h => by rw [cmpI] at h; omega
  | x :: a, y :: b, h => by
    rw [cmpI_cons] at h
    split at h
    · omega
    · split at h
      · omega
      · have : x = y := by omega
        rw [this, cmpI_eq h]
theorem cmpI_zero {a b : Tu} : cmpI a b = 0 ↔ a = b := ⟨cmpI_eq, fun h => h ▸ cmpI_refl a⟩
theorem cmpI_swap : ∀ a b : Tu, cmpI b a = - cmpI a b
  | [], [] => by rw [cmpI]; rfl
  | [], _ :: _ => by rw [cmpI, cmpI]; rfl
  | _ :: _, [] => by rw [cmpI, cmpI]
  | x :: a, y :: b => by
    rw [cmpI_cons, cmpI_cons]
    by_cases h1 : x < y
    · rw [if_neg (by omega), if_pos h1, if_pos h1]; rfl
    · by_cases h2 : y < x
      · rw [if_pos h2, if_neg h1, if_pos h2]
      · rw [if_neg h2, if_neg h1, if_neg h1, if_neg h2]
        exact cmpI_swap a b
theorem cmpI_rng : ∀ a b : Tu, cmpI a b = -1 ∨ cmpI a b = 0 ∨ cmpI a b = 1
  | [], [] => by rw [cmpI]; omega
  | [], _ :: _ => by rw [cmpI]; omega
  | _ :: _, [] => by rw [cmpI]; omega
  | x :: a, y :: b => by
    rw [cmpI_cons]
    split
    · omega
    · split
      · omega
      · exact cmpI_rng a b
theorem cmpI_trans : ∀ {a b c : Tu}, cmpI a b < 0 → cmpI b c < 0 → cmpI a c < 0
  | [], [], _, h, _ => by rw [cmpI] at h; omega
  | [], _ :: _, [], _, h => by rw [cmpI] at h; omega
  | [], _ :: _, _ :: _, _, _ => by rw [cmpI]; omega
  | _ :: _, [], _, h, _ => by rw [cmpI] at h; omega
  | _ :: _, _ :: _, [], _, h => by rw [cmpI] at h; omega
  | x :: a, y :: b, z :: c, h, k => by
    rw [cmpI_cons] at h k ⊢
    by_cases h1 : x < y
    · by_cases k1 : y < z
      · rw [if_pos (by omega)]; omega
      · rw [if_neg k1] at k
        by_cases k2 : z < y
        · rw [if_pos k2] at k; omega
        · rw [if_pos (by omega)]; omega
    · rw [if_neg h1] at h
      by_cases h2 : y < x
      · rw [if_pos h2] at h; omega
      · rw [if_neg h2] at h
        have e : x = y := by omega
        subst e
        by_cases k1 : x < z
        · rw [if_pos k1]; omega
        · rw [if_neg k1] at k ⊢
          by_cases k2 : z < x
          · rw [if_pos k2] at k; omega
          · rw [if_neg k2] at k ⊢
            exact cmpI_trans h k
theorem cmpI_pos {a b : Tu} : 0 < cmpI a b ↔ cmpI b a < 0 := by rw [cmpI_swap a b]; omega
theorem cmpI_ne {a b : Tu} (h : cmpI a b < 0) : a ≠ b := by rintro rfl; rw [cmpI_refl] at h; omega
theorem cmpI_le {a b c : Tu} (h : cmpI a b ≤ 0) (k : cmpI b c ≤ 0) : cmpI a c ≤ 0 := by
  by_cases h0 : cmpI a b = 0
  · rw [cmpI_eq h0]; exact k
  · by_cases k0 : cmpI b c = 0
    · rw [← cmpI_eq k0]; exact h
    · have := cmpI_trans (a := a) (b := b) (c := c) (by omega) (by omega)
      omega

/-- A list that rises. -/
def Ris (l : List Tu) : Prop := l.Pairwise fun a b => cmpI a b < 0
/-- Neighbour by neighbour. -/
def risB : List Tu → Bool
  | [] => true
  | [_] => true
  | x :: y :: r => decide (cmpI x y < 0) && risB (y :: r)
theorem ris_iff : ∀ {l : List Tu}, risB l = true ↔ Ris l
  | [] => ⟨fun _ => .nil, fun _ => by rw [risB]⟩
  | [x] => ⟨fun _ => List.pairwise_singleton _ _, fun _ => by rw [risB]⟩
  | x :: y :: r => by
    rw [risB, Bool.and_eq_true, decide_eq_true_eq, ris_iff (l := y :: r)]
    constructor
    · rintro ⟨h, k⟩
      refine List.pairwise_cons.2 ⟨fun z hz => ?_, k⟩
      rcases List.mem_cons.1 hz with rfl | hz
      · exact h
      · exact cmpI_trans h ((List.pairwise_cons.1 k).1 z hz)
    · intro h
      have := List.pairwise_cons.1 h
      exact ⟨this.1 y (List.mem_cons_self ..), this.2⟩
/-- Where neighbours stand: the index form. -/
theorem risB_at : ∀ {l : List Tu}, (∀ i, (h : i + 1 < l.length) → cmpI l[i] l[i + 1] < 0) → risB l = true
  | [], _ => by rw [risB]
  | [x], _ => by rw [risB]
  | x :: y :: r, h => by
    rw [risB, Bool.and_eq_true, decide_eq_true_eq]
    exact ⟨h 0 (by simp), risB_at fun i hi => h (i + 1) (by simpa using hi)⟩
theorem risB_no {l : List Tu} {i : Nat} (h : i + 1 < l.length) (hc : ¬ cmpI l[i] l[i + 1] < 0) : risB l = false := by
  cases hb : risB l with
  | false => rfl
  | true =>
    have := List.pairwise_iff_getElem.1 (ris_iff.1 hb) i (i + 1) (by omega) h (by omega)
    exact absurd this hc
theorem ris_ext : ∀ {A B : List Tu}, Ris A → Ris B → (∀ q, q ∈ A ↔ q ∈ B) → A = B
  | [], [], _, _, _ => rfl
  | [], b :: B, _, _, h => by have := (h b).2 (List.mem_cons_self ..); cases this
  | a :: A, [], _, _, h => by have := (h a).1 (List.mem_cons_self ..); cases this
  | a :: A, b :: B, ha, hb, h => by
    have hpa := List.pairwise_cons.1 ha
    have hpb := List.pairwise_cons.1 hb
    have e1 : a = b := by
      have h1 := (h a).1 (List.mem_cons_self ..)
      have h2 := (h b).2 (List.mem_cons_self ..)
      rcases List.mem_cons.1 h1 with e | h1
      · exact e
      · rcases List.mem_cons.1 h2 with e | h2
        · exact e.symm
        · have := cmpI_trans (hpa.1 b h2) (hpb.1 a h1)
          rw [cmpI_refl] at this
          omega
    subst e1
    congr 1
    refine ris_ext hpa.2 hpb.2 fun q => ⟨fun hq => ?_, fun hq => ?_⟩
    · rcases List.mem_cons.1 ((h q).1 (List.mem_cons_of_mem _ hq)) with rfl | h1
      · exact absurd (hpa.1 q hq) (by rw [cmpI_refl]; omega)
      · exact h1
    · rcases List.mem_cons.1 ((h q).2 (List.mem_cons_of_mem _ hq)) with rfl | h1
      · exact absurd (hpb.1 q hq) (by rw [cmpI_refl]; omega)
      · exact h1
/-- Is it in the list? -/
def hasL (l : List Tu) (t : Tu) : Bool := l.any fun u => decide (cmpI u t = 0)
theorem hasL_iff {l : List Tu} {t : Tu} : hasL l t = true ↔ t ∈ l := by
  unfold hasL
  rw [List.any_eq_true]
  constructor
  · rintro ⟨u, hu, h⟩
    rw [decide_eq_true_eq, cmpI_zero] at h
    exact h ▸ hu
  · intro h
    exact ⟨t, h, by simp [cmpI_refl]⟩
theorem hasL_no {l : List Tu} {t : Tu} : hasL l t = false ↔ t ∉ l := by
  rw [← hasL_iff]
  cases hasL l t <;> simp
theorem hasL_at {l : List Tu} {t : Tu} {i : Nat} (h : i < l.length) (hc : cmpI l[i] t = 0) : hasL l t = true := hasL_iff.2 (by rw [← cmpI_eq hc]; exact List.getElem_mem h)
/-- What is in one and not in another one. -/
def woL (a b : List Tu) : List Tu := a.filter fun t => !hasL b t
theorem mem_wo {a b : List Tu} {t : Tu} : t ∈ woL a b ↔ t ∈ a ∧ t ∉ b := by
  unfold woL
  rw [List.mem_filter]
  constructor
  · rintro ⟨h, k⟩
    refine ⟨h, fun hb => ?_⟩
    rw [hasL_iff.2 hb] at k
    cases k
  · rintro ⟨h, k⟩
    exact ⟨h, by rw [hasL_no.2 k]; rfl⟩
theorem ris_wo {a : List Tu} (b : List Tu) (h : Ris a) : Ris (woL a b) := h.sublist List.filter_sublist
theorem wo_len (a b : List Tu) : (woL a b).length ≤ a.length := List.length_filter_le _ _
theorem wo_snoc (a b : List Tu) (t : Tu) : woL (a ++ [t]) b = woL a b ++ if hasL b t = true then [] else [t] := by
  unfold woL
  rw [List.filter_append]
  congr 1
  cases h : hasL b t <;> simp [h]
theorem wo_take {a b : List Tu} {k : Nat} (h : k < a.length) : woL (a.take (k + 1)) b = woL (a.take k) b ++ if hasL b a[k] = true then [] else [a[k]] := by
  rw [List.take_succ_eq_append_getElem h, wo_snoc]
/-- What has been passed by is less, so just the next one may be it. -/
theorem has_next {p s : List Tu} {t : Tu} (hr : Ris (p ++ s)) (hp : ∀ q ∈ p, cmpI q t < 0) (hs : ∀ x r, s = x :: r → ¬ cmpI x t < 0) : hasL (p ++ s) t = true ↔ ∃ x r, s = x :: r ∧ cmpI x t = 0 := by
  rw [hasL_iff, List.mem_append]
  constructor
  · rintro (h | h)
    · exact absurd rfl (cmpI_ne (hp t h))
    · rcases s with _ | ⟨x, r⟩
      · cases h
      · refine ⟨x, r, rfl, ?_⟩
        rcases List.mem_cons.1 h with rfl | h
        · exact cmpI_refl _
        · have h1 := (List.pairwise_cons.1 (List.pairwise_append.1 hr).2.1).1 t h
          exact absurd h1 (hs x r rfl)
  · rintro ⟨x, r, rfl, hx⟩
    exact .inr (by rw [cmpI_eq hx]; exact List.mem_cons_self ..)
/-- Is a tuple in both? -/
def meetL (a b : List Tu) : Bool := decide ((woL a b).length < a.length)
theorem meet_iff {a b : List Tu} : meetL a b = true ↔ ∃ t, t ∈ a ∧ t ∈ b := by
  unfold meetL woL
  rw [decide_eq_true_eq]
  constructor
  · intro h
    refine Classical.byContradiction fun hn => ?_
    have : a.filter (fun t => !hasL b t) = a := List.filter_eq_self.2 fun t ht => by
      rw [hasL_no.2 fun hb => hn ⟨t, ht, hb⟩]; rfl
    rw [this] at h
    omega
  · rintro ⟨t, ha, hb⟩
    refine List.length_filter_lt_length_iff_exists.2 ⟨t, ha, ?_⟩
    rw [hasL_iff.2 hb]
    simp
theorem meet_no {a b : List Tu} : meetL a b = false ↔ ∀ t, t ∈ a → t ∉ b := by
  rw [← Bool.not_eq_true, meet_iff]
  exact ⟨fun h t ha hb => h ⟨t, ha, hb⟩, fun h ⟨t, ha, hb⟩ => h t ha hb⟩
/-- Two as one, the lesser ahead. -/
def mrg : List Tu → List Tu → List Tu
  | [], b => b
  | a, [] => a
  | x :: a, y :: b => if cmpI x y < 0 then x :: mrg a (y :: b) else y :: mrg (x :: a) b
termination_by a b => a.length + b.length
theorem mrg_nil_left (b : List Tu) : mrg [] b = b := by rw [mrg]
theorem mrg_nil_right (a : List Tu) : mrg a [] = a := by
  cases a <;> rw [mrg]
  intro h; cases h
theorem mrg_cons (x y : Tu) (a b : List Tu) : mrg (x :: a) (y :: b) = if cmpI x y < 0 then x :: mrg a (y :: b) else y :: mrg (x :: a) b := by rw [mrg]
theorem mem_mrg {t : Tu} : ∀ {a b : List Tu}, t ∈ mrg a b ↔ t ∈ a ∨ t ∈ b
  | [], b => by rw [mrg_nil_left]; simp
  | x :: a, [] => by rw [mrg_nil_right]; simp
  | x :: a, y :: b => by
    rw [mrg_cons]
    split
    · rw [List.mem_cons, mem_mrg (a := a) (b := y :: b)]
      simp only [List.mem_cons]
      grind
    · rw [List.mem_cons, mem_mrg (a := x :: a) (b := b)]
      simp only [List.mem_cons]
      grind
termination_by a b => a.length + b.length
theorem mrg_len : ∀ a b : List Tu, (mrg a b).length = a.length + b.length
  | [], b => by rw [mrg_nil_left]; simp
  | x :: a, [] => by rw [mrg_nil_right]; simp
  | x :: a, y :: b => by
    rw [mrg_cons]
    split
    · rw [List.length_cons, mrg_len a (y :: b)]; simp; omega
    · rw [List.length_cons, mrg_len (x :: a) b]; simp; omega
termination_by a b => a.length + b.length
theorem ris_mrg : ∀ {a b : List Tu}, Ris a → Ris b → (∀ t, t ∈ a → t ∉ b) → Ris (mrg a b)
  | [], b, _, hb, _ => by rw [mrg_nil_left]; exact hb
  | x :: a, [], ha, _, _ => by rw [mrg_nil_right]; exact ha
  | x :: a, y :: b, ha, hb, h => by
    have hpa := List.pairwise_cons.1 ha
    have hpb := List.pairwise_cons.1 hb
    rw [mrg_cons]
    split
    · rename_i hxy
      refine List.pairwise_cons.2 ⟨fun z hz => ?_, ris_mrg hpa.2 hb fun t ht => h t (List.mem_cons_of_mem _ ht)⟩
      rcases mem_mrg.1 hz with hz | hz
      · exact hpa.1 z hz
      · rcases List.mem_cons.1 hz with rfl | hz
        · exact hxy
        · exact cmpI_trans hxy (hpb.1 z hz)
    · rename_i hxy
      have hne : x ≠ y := by rintro rfl; exact h x (List.mem_cons_self ..) (List.mem_cons_self ..)
      have hyx : cmpI y x < 0 := by
        have := cmpI_swap x y
        have h0 : cmpI x y ≠ 0 := fun e => hne (cmpI_eq e)
        omega
      refine List.pairwise_cons.2 ⟨fun z hz => ?_, ris_mrg ha hpb.2 fun t ht hb' => h t ht (List.mem_cons_of_mem _ hb')⟩
      rcases mem_mrg.1 hz with hz | hz
      · rcases List.mem_cons.1 hz with rfl | hz
        · exact hyx
        · exact cmpI_trans hyx (hpa.1 z hz)
      · exact hpb.1 z hz
termination_by a b => a.length + b.length
/-- A tuple put ahead of the first greater one. -/
def insS (t : Tu) : List Tu → List Tu
  | [] => [t]
  | x :: r => if cmpI t x < 0 then t :: x :: r else x :: insS t r
theorem mem_insS {t q : Tu} : ∀ {l : List Tu}, q ∈ insS t l ↔ q = t ∨ q ∈ l
  | [] => by rw [insS]; simp
  | x :: r => by
    rw [insS]
    split
    · simp only [List.mem_cons]
    · rw [List.mem_cons, mem_insS (l := r), List.mem_cons]
      grind
theorem insS_len (t : Tu) : ∀ l : List Tu, (insS t l).length = l.length + 1
  | [] => by rw [insS]; rfl
  | x :: r => by
    rw [insS]
    split
    · simp
    · rw [List.length_cons, insS_len t r]; rfl
theorem ris_insS {t : Tu} : ∀ {l : List Tu}, Ris l → t ∉ l → Ris (insS t l)
  | [], _, _ => by rw [insS]; exact List.pairwise_singleton _ _
  | x :: r, h, hn => by
    have hp := List.pairwise_cons.1 h
    rw [insS]
    split
    · rename_i h1
      refine List.pairwise_cons.2 ⟨fun q hq => ?_, h⟩
      rcases List.mem_cons.1 hq with rfl | hq
      · exact h1
      · exact cmpI_trans h1 (hp.1 q hq)
    · rename_i h1
      refine List.pairwise_cons.2 ⟨fun q hq => ?_, ris_insS hp.2 fun hr => hn (List.mem_cons_of_mem _ hr)⟩
      rcases mem_insS.1 hq with rfl | hq
      · have h0 : cmpI q x ≠ 0 := fun e => hn (by rw [cmpI_eq e]; exact List.mem_cons_self ..)
        have := cmpI_swap q x
        omega
      · exact hp.1 q hq
/-- The first greater one stands here. -/
theorem insS_here {t x : Tu} {r : List Tu} (h : cmpI t x < 0) : ∀ p : List Tu, (∀ q ∈ p, ¬ cmpI t q < 0) → insS t (p ++ x :: r) = p ++ t :: x :: r
  | [], _ => by simp only [List.nil_append, insS, if_pos h]
  | y :: p, hp => by
    simp only [List.cons_append, insS, if_neg (hp y (List.mem_cons_self ..))]
    rw [insS_here h p fun q hq => hp q (List.mem_cons_of_mem _ hq)]
theorem insS_end {t : Tu} : ∀ p : List Tu, (∀ q ∈ p, ¬ cmpI t q < 0) → insS t p = p ++ [t]
  | [], _ => by rw [insS]; rfl
  | y :: p, hp => by
    rw [insS, if_neg (hp y (List.mem_cons_self ..)), insS_end p fun q hq => hp q (List.mem_cons_of_mem _ hq)]
    rfl
/-- The tuples of a list as a set, one by one. -/
def setS (s : List Tu) (t : Tu) : List Tu := if hasL s t = true then s else insS t s
def setL (l : List Tu) : List Tu := l.foldl setS []
theorem setL_snoc (l : List Tu) (t : Tu) : setL (l ++ [t]) = setS (setL l) t := by unfold setL; rw [List.foldl_append]; rfl
theorem setL_take {l : List Tu} {k : Nat} (h : k < l.length) : setL (l.take (k + 1)) = setS (setL (l.take k)) l[k] := by
  rw [List.take_succ_eq_append_getElem h, setL_snoc]
theorem ris_setS {s : List Tu} (t : Tu) (h : Ris s) : Ris (setS s t) := by
  unfold setS
  split
  · exact h
  · rename_i hn
    exact ris_insS h fun hm => hn (hasL_iff.2 hm)
theorem mem_setS {s : List Tu} {t q : Tu} : q ∈ setS s t ↔ q = t ∨ q ∈ s := by
  unfold setS
  split
  · rename_i h
    have := hasL_iff.1 h
    exact ⟨.inr, fun h => h.elim (fun e => e ▸ this) id⟩
  · exact mem_insS
theorem setS_len (s : List Tu) (t : Tu) : (setS s t).length ≤ s.length + 1 := by
  unfold setS
  split
  · omega
  · rw [insS_len]; omega
theorem ris_foldl : ∀ (l s : List Tu), Ris s → Ris (l.foldl setS s)
  | [], _, h => h
  | t :: l, _, h => ris_foldl l _ (ris_setS t h)
theorem mem_foldl {q : Tu} : ∀ (l s : List Tu), q ∈ l.foldl setS s ↔ q ∈ l ∨ q ∈ s
  | [], s => by simp
  | t :: l, s => by
    rw [List.foldl_cons, mem_foldl l, mem_setS, List.mem_cons]
    grind
theorem foldl_len : ∀ (l s : List Tu), (l.foldl setS s).length ≤ s.length + l.length
  | [], _ => by simp
  | t :: l, s => by
    have h1 := foldl_len l (setS s t)
    have h2 := setS_len s t
    rw [List.foldl_cons, List.length_cons]
    omega
theorem ris_set (l : List Tu) : Ris (setL l) := ris_foldl l [] .nil
theorem mem_set {l : List Tu} {q : Tu} : q ∈ setL l ↔ q ∈ l := by
  unfold setL
  rw [mem_foldl]
  simp
theorem setL_len (l : List Tu) : (setL l).length ≤ l.length := by
  have h : (l.foldl setS []).length ≤ ([] : List Tu).length + l.length := foldl_len l []
  rw [List.length_nil, Nat.zero_add] at h
  exact h
/-- Two rising lists of no common tuple. -/
theorem set_mrg {a b : List Tu} (ha : Ris a) (hb : Ris b) (h : ∀ t, t ∈ a → t ∉ b) : setL (a ++ b) = mrg a b :=
  ris_ext (ris_set _) (ris_mrg ha hb h) fun q => by rw [mem_set, List.mem_append, mem_mrg]
/-- Of neighbours that are the same just one. -/
def cpt : List Tu → List Tu
  | [] => []
  | x :: r => x :: (cpt r).filter fun y => !decide (y = x)
end Go.Proofs.Ytgjjdmkoamjdpaa
/- Patterns and edges, plainly: the variables, the steps, the rows of the first atoms. Nothing of the program is stated here. -/
namespace Go.Proofs.Ytgjjdmkoamjdpaa

abbrev Nm := List UInt8
structure Ed where
  f : Int
  lab : Nm
  t : Int
deriving DecidableEq, Inhabited
structure Atm where
  fr : Nm
  lab : Nm
  to : Nm
deriving DecidableEq, Inhabited
structure Vw where
  name : Nm
  kind : Int
  out : List Nm
  atoms : List Atm
  label : Nm
deriving Inhabited
/-- The variables, each once. -/
def addV (vs : List Nm) (s : Nm) : List Nm := if s ∈ vs then vs else vs ++ [s]
def vars1 (vs : List Nm) (a : Atm) : List Nm := addV (addV vs a.fr) a.to
def varsFrom (vs : List Nm) (as : List Atm) : List Nm := as.foldl vars1 vs
def varsL (as : List Atm) : List Nm := varsFrom [] as
theorem addV_mem {vs : List Nm} {s q : Nm} : q ∈ addV vs s ↔ q ∈ vs ∨ q = s := by
  unfold addV
  split
  · constructor
    · exact .inl
    · rintro (h | rfl)
      · exact h
      · assumption
  · simp
theorem addV_pre (vs : List Nm) (s : Nm) : ∃ r, addV vs s = vs ++ r := by
  unfold addV
  split
  · exact ⟨[], by simp⟩
  · exact ⟨[s], rfl⟩
theorem addV_nodup {vs : List Nm} (s : Nm) (h : vs.Nodup) : (addV vs s).Nodup := by
  unfold addV
  split
  · exact h
  · rename_i hs
    rw [List.nodup_append]
    exact ⟨h, by simp, by rintro a ha b hb rfl; simp at hb; exact hs (hb ▸ ha)⟩
theorem addV_len (vs : List Nm) (s : Nm) : (addV vs s).length ≤ vs.length + 1 := by
  unfold addV
  split <;> simp
theorem vars1_pre (vs : List Nm) (a : Atm) : ∃ r, vars1 vs a = vs ++ r := by
  obtain ⟨r, h⟩ := addV_pre vs a.fr
  obtain ⟨q, k⟩ := addV_pre (addV vs a.fr) a.to
  exact ⟨r ++ q, by unfold vars1; rw [k, h, List.append_assoc]⟩
theorem varsFrom_pre (as : List Atm) : ∀ vs : List Nm, ∃ r, varsFrom vs as = vs ++ r := by
  induction as with
  | nil => exact fun vs => ⟨[], by simp [varsFrom]⟩
  | cons a as ih =>
    intro vs
    obtain ⟨r, h⟩ := vars1_pre vs a
    obtain ⟨q, k⟩ := ih (vars1 vs a)
    refine ⟨r ++ q, ?_⟩
    rw [← List.append_assoc, ← h, ← k]
    rfl
theorem vars1_nodup {vs : List Nm} (a : Atm) (h : vs.Nodup) : (vars1 vs a).Nodup := addV_nodup _ (addV_nodup _ h)
theorem varsFrom_nodup (as : List Atm) : ∀ {vs : List Nm}, vs.Nodup → (varsFrom vs as).Nodup := by
  induction as with
  | nil => exact fun h => h
  | cons a as ih => exact fun h => ih (vars1_nodup a h)
theorem varsL_nodup (as : List Atm) : (varsL as).Nodup := varsFrom_nodup as .nil
theorem varsFrom_len (as : List Atm) : ∀ vs : List Nm, (varsFrom vs as).length ≤ vs.length + 2 * as.length := by
  induction as with
  | nil => exact fun vs => by simp [varsFrom]
  | cons a as ih =>
    intro vs
    have h1 := ih (vars1 vs a)
    have h2 := addV_len vs a.fr
    have h3 := addV_len (addV vs a.fr) a.to
    show (varsFrom (vars1 vs a) as).length ≤ _
    unfold vars1 at h1 ⊢
    simp only [List.length_cons]
    omega
theorem varsL_len (as : List Atm) : (varsL as).length ≤ 2 * as.length := by
  have := varsFrom_len as []
  simpa [varsL] using this
theorem varsFrom_mem {q : Nm} (as : List Atm) : ∀ {vs : List Nm}, q ∈ varsFrom vs as ↔ q ∈ vs ∨ ∃ a ∈ as, q = a.fr ∨ q = a.to := by
  induction as with
  | nil => intro vs; simp [varsFrom]
  | cons a as ih =>
    intro vs
    show q ∈ varsFrom (vars1 vs a) as ↔ _
    rw [ih]
    unfold vars1
    rw [addV_mem, addV_mem]
    simp only [List.mem_cons, exists_eq_or_imp]
    constructor
    · rintro (((h | h) | h) | h)
      · exact .inl h
      · exact .inr (.inl (.inl h))
      · exact .inr (.inl (.inr h))
      · exact .inr (.inr h)
    · rintro (h | (h | h) | h)
      · exact .inl (.inl (.inl h))
      · exact .inl (.inl (.inr h))
      · exact .inl (.inr h)
      · exact .inr h
theorem varsL_mem {q : Nm} {as : List Atm} : q ∈ varsL as ↔ ∃ a ∈ as, q = a.fr ∨ q = a.to := by
  unfold varsL
  rw [varsFrom_mem]
  simp

/-- An atom's step. -/
structure Stp where
  lab : Nm
  fr : Nat
  to : Nat
  kn : Nat
deriving DecidableEq, Inhabited
def Stp.next (s : Stp) : Nat := max s.kn (max (s.fr + 1) (s.to + 1))
def stepOf (vs : List Nm) (kn : Nat) (a : Atm) : Stp := ⟨a.lab, vs.idxOf a.fr, vs.idxOf a.to, kn⟩
def stepsK (vs : List Nm) : Nat → List Atm → List Stp
  | _, [] => []
  | kn, a :: r => stepOf vs kn a :: stepsK vs (stepOf vs kn a).next r
def stepsL (as : List Atm) : List Stp := stepsK (varsL as) 0 as
theorem stepsK_len (vs : List Nm) : ∀ (as : List Atm) (kn : Nat), (stepsK vs kn as).length = as.length
  | [], _ => rfl
  | a :: r, kn => by simp [stepsK, stepsK_len vs r]
/-- Steps that fit, one behind the other. -/
def ChainOk : Nat → List Stp → Prop
  | _, [] => True
  | kn, s :: r => s.kn = kn ∧ s.fr ≤ s.kn ∧ s.to ≤ max s.kn (s.fr + 1) ∧ ChainOk s.next r
theorem idx_addV {vs r : List Nm} {s : Nm} : (addV vs s ++ r).idxOf s = if s ∈ vs then vs.idxOf s else vs.length := by
  unfold addV
  by_cases h : s ∈ vs
  · rw [if_pos h, if_pos h, List.idxOf_append, if_pos h]
  · rw [if_neg h, if_neg h, List.idxOf_append, if_pos (by simp), List.idxOf_append, if_neg h]
    simp
theorem idx_lt {vs : List Nm} {s : Nm} (h : s ∈ vs) : vs.idxOf s < vs.length := List.idxOf_lt_length_iff.2 h
theorem addV_len_eq (vs : List Nm) (s : Nm) : (addV vs s).length = if s ∈ vs then vs.length else vs.length + 1 := by
  unfold addV
  split <;> simp
theorem step_at (vs : List Nm) (a : Atm) (as : List Atm) : (varsFrom (vars1 vs a) as).idxOf a.fr ≤ vs.length ∧ (varsFrom (vars1 vs a) as).idxOf a.to ≤ max vs.length ((varsFrom (vars1 vs a) as).idxOf a.fr + 1) ∧ max vs.length (max ((varsFrom (vars1 vs a) as).idxOf a.fr + 1) ((varsFrom (vars1 vs a) as).idxOf a.to + 1)) = (vars1 vs a).length := by
  obtain ⟨r, hr⟩ := varsFrom_pre as (vars1 vs a)
  obtain ⟨q, hq⟩ := addV_pre (addV vs a.fr) a.to
  have e1 : (varsFrom (vars1 vs a) as).idxOf a.fr = if a.fr ∈ vs then vs.idxOf a.fr else vs.length := by
    rw [hr]
    unfold vars1
    rw [hq, List.append_assoc]
    exact idx_addV
  have e2 : (varsFrom (vars1 vs a) as).idxOf a.to = if a.to ∈ addV vs a.fr then (addV vs a.fr).idxOf a.to else (addV vs a.fr).length := by
    rw [hr]
    exact idx_addV
  have l1 := addV_len_eq vs a.fr
  have l2 : (vars1 vs a).length = _ := addV_len_eq (addV vs a.fr) a.to
  have m1 : a.fr ∈ vs → vs.idxOf a.fr < vs.length := idx_lt
  have m2 : a.to ∈ addV vs a.fr → (addV vs a.fr).idxOf a.to < (addV vs a.fr).length := idx_lt
  rw [e1, e2, l2]
  clear e1 e2 l2 hr hq
  by_cases h1 : a.fr ∈ vs <;> by_cases h2 : a.to ∈ addV vs a.fr <;> simp only [h1, h2, if_true, if_false, forall_const] at * <;> omega
theorem chain_from : ∀ (as : List Atm) (vs : List Nm), ChainOk vs.length (stepsK (varsFrom vs as) vs.length as) := by
  intro as
  induction as with
  | nil => exact fun _ => trivial
  | cons a as ih =>
    intro vs
    obtain ⟨h1, h2, h3⟩ := step_at vs a as
    have hv : varsFrom vs (a :: as) = varsFrom (vars1 vs a) as := rfl
    have hn : (stepOf (varsFrom (vars1 vs a) as) vs.length a).next = (vars1 vs a).length := h3
    rw [hv]
    refine ⟨rfl, h1, h2, ?_⟩
    rw [hn]
    exact ih (vars1 vs a)
theorem chain_ok (as : List Atm) : ChainOk 0 (stepsL as) := chain_from as []
/-- How many variables the first atoms have. -/
def knEnd : Nat → List Stp → Nat
  | kn, [] => kn
  | _, s :: r => knEnd s.next r
theorem knEnd_from : ∀ (as : List Atm) (vs : List Nm), knEnd vs.length (stepsK (varsFrom vs as) vs.length as) = (varsFrom vs as).length := by
  intro as
  induction as with
  | nil => exact fun _ => rfl
  | cons a as ih =>
    intro vs
    obtain ⟨_, _, h3⟩ := step_at vs a as
    have hv : varsFrom vs (a :: as) = varsFrom (vars1 vs a) as := rfl
    have hn : (stepOf (varsFrom (vars1 vs a) as) vs.length a).next = (vars1 vs a).length := h3
    rw [hv]
    show knEnd (stepOf (varsFrom (vars1 vs a) as) vs.length a).next (stepsK (varsFrom (vars1 vs a) as) (stepOf (varsFrom (vars1 vs a) as) vs.length a).next as) = _
    rw [hn]
    exact ih (vars1 vs a)
theorem knEnd_ok (as : List Atm) : knEnd 0 (stepsL as) = (varsL as).length := knEnd_from as []

/-- Edges, each once. -/
def addE (out : List Ed) (e : Ed) : List Ed := if e ∈ out then out else out ++ [e]
def onceL (es : List Ed) : List Ed := es.foldl addE []
theorem onceL_snoc (es : List Ed) (e : Ed) : onceL (es ++ [e]) = addE (onceL es) e := by unfold onceL; rw [List.foldl_append]; rfl
theorem onceL_take {es : List Ed} {k : Nat} (h : k < es.length) : onceL (es.take (k + 1)) = addE (onceL (es.take k)) es[k] := by
  rw [List.take_succ_eq_append_getElem h, onceL_snoc]
theorem addE_mem {out : List Ed} {e q : Ed} : q ∈ addE out e ↔ q ∈ out ∨ q = e := by
  unfold addE
  split
  · constructor
    · exact .inl
    · rintro (h | rfl)
      · exact h
      · assumption
  · simp
theorem foldE_mem {q : Ed} : ∀ (es out : List Ed), q ∈ es.foldl addE out ↔ q ∈ out ∨ q ∈ es
  | [], out => by simp
  | e :: es, out => by
    rw [List.foldl_cons, foldE_mem es, addE_mem, List.mem_cons]
    constructor
    · rintro ((h | h) | h)
      · exact .inl h
      · exact .inr (.inl h)
      · exact .inr (.inr h)
    · rintro (h | h | h)
      · exact .inl (.inl h)
      · exact .inl (.inr h)
      · exact .inr h
theorem onceL_mem {q : Ed} {es : List Ed} : q ∈ onceL es ↔ q ∈ es := by unfold onceL; rw [foldE_mem]; simp
theorem addE_nodup {out : List Ed} (e : Ed) (h : out.Nodup) : (addE out e).Nodup := by
  unfold addE
  split
  · exact h
  · rename_i hs
    rw [List.nodup_append]
    exact ⟨h, by simp, by rintro a ha b hb rfl; simp at hb; exact hs (hb ▸ ha)⟩
theorem foldE_nodup : ∀ (es : List Ed) {out : List Ed}, out.Nodup → (es.foldl addE out).Nodup
  | [], _, h => h
  | e :: es, _, h => foldE_nodup es (addE_nodup e h)
theorem onceL_nodup (es : List Ed) : (onceL es).Nodup := foldE_nodup es .nil
theorem foldE_len : ∀ (es out : List Ed), (es.foldl addE out).length ≤ out.length + es.length
  | [], out => by simp
  | e :: es, out => by
    have h1 := foldE_len es (addE out e)
    have h2 : (addE out e).length ≤ out.length + 1 := by unfold addE; split <;> simp
    rw [List.foldl_cons, List.length_cons]
    omega
theorem onceL_len (es : List Ed) : (onceL es).length ≤ es.length := by
  have := foldE_len es []
  simpa [onceL] using this

/-- The ends of those edges that the atom may be. -/
def fitB (s : Stp) (e : Ed) : Bool := decide (e.lab = s.lab) && (!decide (s.fr = s.to) || decide (e.f = e.t))
def fitL (s : Stp) (es : List Ed) : List (Int × Int) := (es.filter (fitB s)).map fun e => (e.f, e.t)
theorem fitL_take {s : Stp} {es : List Ed} {k : Nat} (h : k < es.length) : fitL s (es.take (k + 1)) = fitL s (es.take k) ++ if fitB s es[k] = true then [(es[k].f, es[k].t)] else [] := by
  unfold fitL
  rw [List.take_succ_eq_append_getElem h, List.filter_append, List.map_append, List.filter_cons]
  split <;> simp
theorem fitL_len (s : Stp) (es : List Ed) : (fitL s es).length ≤ es.length := by
  unfold fitL
  rw [List.length_map]
  exact List.length_filter_le _ _
def toldS (s : Stp) (e : Int × Int) : Int × Int := (if s.kn ≤ s.fr then 0 else e.1, if s.kn ≤ s.to then 0 else e.2)
def tellsS (s : Stp) (row : Tu) : Int × Int := (if s.fr < s.kn then row.getD s.fr 0 else 0, if s.to < s.kn then row.getD s.to 0 else 0)
def push1 (row : Tu) (p : Nat) (x : Int) : Tu := if p = row.length then row ++ [x] else row
def withS (s : Stp) (row : Tu) (e : Int × Int) : Tu := push1 (push1 row s.fr e.1) s.to e.2
/-- The edges that go on with a row. -/
def foundL (s : Stp) (es : List Ed) (k : Int × Int) : List (Int × Int) := (fitL s es).filter fun e => decide (toldS s e = k)
def withL (s : Stp) (ahead : List Tu) (es : List Ed) : List Tu := ahead.flatMap fun row => (foundL s es (tellsS s row)).map (withS s row)
theorem push1_len (row : Tu) (p : Nat) (x : Int) : (push1 row p x).length = if p = row.length then row.length + 1 else row.length := by
  unfold push1
  split <;> simp
theorem withS_len {s : Stp} {row : Tu} (e : Int × Int) (h : row.length = s.kn) (h1 : s.fr ≤ s.kn) (h2 : s.to ≤ max s.kn (s.fr + 1)) : (withS s row e).length = s.next := by
  unfold withS Stp.next
  rw [push1_len, push1_len, h]
  by_cases a : s.fr = s.kn
  · rw [if_pos a]
    by_cases b : s.to = s.kn + 1
    · rw [if_pos b]; omega
    · rw [if_neg b]; omega
  · rw [if_neg a]
    by_cases b : s.to = s.kn
    · rw [if_pos b]; omega
    · rw [if_neg b]; omega
/-- The rows of the steps, and not many more than there may be. -/
def rowsN (es : List Ed) : List Stp → List Tu → List Tu
  | [], rows => rows
  | s :: r, rows => if 3000 < (withL s rows es).length then (withL s rows es).take 3001 else rowsN es r (withL s rows es)
def rowsOfL (as : List Atm) (es : List Ed) : List Tu := rowsN (onceL es) (stepsL as) [[]]
theorem rowsN_len (es : List Ed) : ∀ (ss : List Stp) (rows : List Tu), rows.length ≤ 3000 → (rowsN es ss rows).length ≤ 3001
  | [], rows, h => by unfold rowsN; omega
  | s :: r, rows, h => by
    unfold rowsN
    split
    · rw [List.length_take]; omega
    · exact rowsN_len es r _ (by omega)
theorem with_lens {s : Stp} {ahead : List Tu} {es : List Ed} (h : ∀ row ∈ ahead, row.length = s.kn) (h1 : s.fr ≤ s.kn) (h2 : s.to ≤ max s.kn (s.fr + 1)) : ∀ row ∈ withL s ahead es, row.length = s.next := by
  intro row hr
  unfold withL at hr
  rw [List.mem_flatMap] at hr
  obtain ⟨q, hq, hr⟩ := hr
  obtain ⟨e, _, rfl⟩ := List.mem_map.1 hr
  exact withS_len e (h q hq) h1 h2
end Go.Proofs.Ytgjjdmkoamjdpaa
/- Rows, plainly: what is a row; that no row comes twice; the limit. Nothing of the program is stated here. -/
namespace Go.Proofs.Ytgjjdmkoamjdpaa

/-- The edge that a row has at a step. -/
def edgeAt (s : Stp) (row : Tu) : Ed := ⟨row.getD s.fr 0, s.lab, row.getD s.to 0⟩
theorem push1_take {row : Tu} {p : Nat} {x : Int} {k : Nat} (h : k ≤ row.length) : (push1 row p x).take k = row.take k := by
  unfold push1
  split
  · rw [List.take_append_of_le_length h]
  · rfl
theorem push1_get {row : Tu} {p : Nat} {x : Int} {i : Nat} (h : i < row.length) : (push1 row p x).getD i 0 = row.getD i 0 := by
  unfold push1
  split
  · rw [List.getD_eq_getElem?_getD, List.getD_eq_getElem?_getD, List.getElem?_append_left h]
  · rfl
theorem push1_new {row : Tu} {p : Nat} {x : Int} (h : p = row.length) : (push1 row p x).getD p 0 = x := by
  subst h
  unfold push1
  rw [if_pos rfl, List.getD_eq_getElem?_getD, List.getElem?_append_right (Nat.le_refl _)]
  simp
theorem withS_take {s : Stp} {row : Tu} (e : Int × Int) (h : row.length = s.kn) : (withS s row e).take s.kn = row := by
  unfold withS
  rw [push1_take (by rw [push1_len]; split <;> omega), push1_take (by omega), ← h, List.take_length]
theorem found_mem {s : Stp} {es : List Ed} {k e : Int × Int} : e ∈ foundL s es k ↔ (⟨e.1, s.lab, e.2⟩ : Ed) ∈ es ∧ (s.fr = s.to → e.1 = e.2) ∧ toldS s e = k := by
  unfold foundL fitL
  rw [List.mem_filter, List.mem_map]
  constructor
  · rintro ⟨⟨ed, h, rfl⟩, ht⟩
    rw [List.mem_filter] at h
    obtain ⟨h1, h2⟩ := h
    unfold fitB at h2
    rw [Bool.and_eq_true, Bool.or_eq_true, decide_eq_true_eq, Bool.not_eq_true', decide_eq_false_iff_not, decide_eq_true_eq] at h2
    refine ⟨?_, fun e => h2.2.resolve_left (fun h => h e), of_decide_eq_true ht⟩
    rw [← h2.1]
    exact h1
  · rintro ⟨h1, h2, h3⟩
    refine ⟨⟨⟨e.1, s.lab, e.2⟩, List.mem_filter.2 ⟨h1, ?_⟩, rfl⟩, decide_eq_true h3⟩
    unfold fitB
    rw [Bool.and_eq_true, Bool.or_eq_true, decide_eq_true_eq, Bool.not_eq_true', decide_eq_false_iff_not, decide_eq_true_eq]
    refine ⟨rfl, ?_⟩
    by_cases h : s.fr = s.to
    · exact .inr (h2 h)
    · exact .inl h
/-- What a row that goes on has at the step's places. -/
theorem withS_edge {s : Stp} {row : Tu} {e : Int × Int} (h : row.length = s.kn) (h1 : s.fr ≤ s.kn) (h2 : s.to ≤ max s.kn (s.fr + 1)) (hq : s.fr = s.to → e.1 = e.2) (ht : toldS s e = tellsS s row) : edgeAt s (withS s row e) = ⟨e.1, s.lab, e.2⟩ := by
  unfold toldS tellsS at ht
  injection ht with t1 t2
  have hf : (withS s row e).getD s.fr 0 = e.1 := by
    unfold withS
    by_cases a : s.fr = row.length
    · have hl := push1_len row s.fr e.1
      rw [if_pos a] at hl
      rw [push1_get (by omega), push1_new a]
    · have hl := push1_len row s.fr e.1
      rw [if_neg a] at hl
      rw [push1_get (by omega), push1_get (by omega)]
      rw [if_neg (by omega), if_pos (by omega)] at t1
      exact t1.symm
  have hg : (withS s row e).getD s.to 0 = e.2 := by
    unfold withS
    by_cases a : s.fr = row.length
    · have hl := push1_len row s.fr e.1
      rw [if_pos a] at hl
      by_cases b : s.to = row.length + 1
      · exact push1_new (by omega)
      · rw [push1_get (by omega)]
        by_cases c : s.to = row.length
        · have hft : s.fr = s.to := by omega
          rw [← hq hft, ← hft, push1_new a]
        · rw [push1_get (by omega)]
          rw [if_neg (by omega), if_pos (by omega)] at t2
          exact t2.symm
    · have hl := push1_len row s.fr e.1
      rw [if_neg a] at hl
      by_cases b : s.to = row.length
      · exact push1_new (by omega)
      · rw [push1_get (by omega), push1_get (by omega)]
        rw [if_neg (by omega), if_pos (by omega)] at t2
        exact t2.symm
  unfold edgeAt
  rw [hf, hg]
theorem take_snoc {row : Tu} {k : Nat} (h : k < row.length) : row.take (k + 1) = row.take k ++ [row.getD k 0] := by
  rw [List.take_succ_eq_append_getElem h, List.getD_eq_getElem?_getD, List.getElem?_eq_getElem h]
  rfl
/-- A row is its beginning gone on with the edge that it has. -/
theorem withS_back {s : Stp} {row : Tu} (h : row.length = s.next) (h1 : s.fr ≤ s.kn) (h2 : s.to ≤ max s.kn (s.fr + 1)) : withS s (row.take s.kn) (row.getD s.fr 0, row.getD s.to 0) = row := by
  unfold Stp.next at h
  have hl : (row.take s.kn).length = s.kn := by rw [List.length_take]; omega
  unfold withS push1
  simp only [hl]
  by_cases a : s.fr = s.kn
  · rw [if_pos a, ← a]
    rw [← take_snoc (by omega)]
    have hl2 : (row.take (s.fr + 1)).length = s.fr + 1 := by rw [List.length_take]; omega
    rw [hl2]
    by_cases b : s.to = s.fr + 1
    · rw [if_pos b, b, ← take_snoc (by omega), List.take_of_length_le (by omega)]
    · rw [if_neg b, List.take_of_length_le (by omega)]
  · rw [if_neg a, hl]
    by_cases b : s.to = s.kn
    · rw [if_pos b, b, ← take_snoc (by omega), List.take_of_length_le (by omega)]
    · rw [if_neg b, List.take_of_length_le (by omega)]
theorem take_get {row : Tu} {k i : Nat} (h : i < k) : (row.take k).getD i 0 = row.getD i 0 := by
  rw [List.getD_eq_getElem?_getD, List.getD_eq_getElem?_getD, List.getElem?_take, if_pos h]
theorem told_tells {s : Stp} {row : Tu} : toldS s (row.getD s.fr 0, row.getD s.to 0) = tellsS s (row.take s.kn) := by
  unfold toldS tellsS
  congr 1
  · by_cases a : s.fr < s.kn
    · rw [if_neg (by omega), if_pos a, take_get a]
    · rw [if_pos (by omega), if_neg a]
  · by_cases a : s.to < s.kn
    · rw [if_neg (by omega), if_pos a, take_get a]
    · rw [if_pos (by omega), if_neg a]
theorem mem_with {s : Stp} {ahead : List Tu} {es : List Ed} (hl : ∀ r ∈ ahead, r.length = s.kn) (h1 : s.fr ≤ s.kn) (h2 : s.to ≤ max s.kn (s.fr + 1)) {row : Tu} : row ∈ withL s ahead es ↔ row.length = s.next ∧ row.take s.kn ∈ ahead ∧ edgeAt s row ∈ es := by
  unfold withL
  rw [List.mem_flatMap]
  constructor
  · rintro ⟨q, hq, hr⟩
    obtain ⟨e, he, rfl⟩ := List.mem_map.1 hr
    obtain ⟨f1, f2, f3⟩ := found_mem.1 he
    refine ⟨withS_len e (hl q hq) h1 h2, ?_, ?_⟩
    · rw [withS_take e (hl q hq)]
      exact hq
    · rw [withS_edge (hl q hq) h1 h2 f2 f3]
      exact f1
  · rintro ⟨g1, g2, g3⟩
    refine ⟨_, g2, List.mem_map.2 ⟨(row.getD s.fr 0, row.getD s.to 0), found_mem.2 ⟨g3, fun h => by rw [h], told_tells⟩, withS_back g1 h1 h2⟩⟩
theorem nodup_fit {s : Stp} {es : List Ed} (h : es.Nodup) : (fitL s es).Nodup := by
  unfold fitL
  have h2 : ∀ a ∈ es.filter (fitB s), a.lab = s.lab := fun a ha => by
    have h3 := (List.mem_filter.1 ha).2
    unfold fitB at h3
    rw [Bool.and_eq_true, decide_eq_true_eq] at h3
    exact h3.1
  unfold List.Nodup
  rw [List.pairwise_map]
  refine (List.Pairwise.and_mem.1 (h.filter (fitB s))).imp ?_
  rintro ⟨af, al, at'⟩ ⟨bf, bl, bt⟩ ⟨ha, hb, hne⟩ e
  injection e with e1 e2
  have ea := h2 _ ha
  have eb := h2 _ hb
  simp only at ea eb e1 e2
  subst ea e1 e2
  rw [eb] at hne
  exact hne rfl
theorem nodup_with {s : Stp} {ahead : List Tu} {es : List Ed} (hl : ∀ r ∈ ahead, r.length = s.kn) (h1 : s.fr ≤ s.kn) (h2 : s.to ≤ max s.kn (s.fr + 1)) (ha : ahead.Nodup) (he : es.Nodup) : (withL s ahead es).Nodup := by
  unfold withL List.Nodup
  rw [List.pairwise_flatMap]
  constructor
  · intro q hq
    rw [List.pairwise_map]
    refine (List.Pairwise.and_mem.1 ((nodup_fit (s := s) he).filter _)).imp ?_
    rintro a b ⟨hma, hmb, hne⟩ e
    obtain ⟨_, a2, a3⟩ := found_mem.1 hma
    obtain ⟨_, b2, b3⟩ := found_mem.1 hmb
    have ea := withS_edge (hl q hq) h1 h2 a2 a3
    have eb := withS_edge (hl q hq) h1 h2 b2 b3
    rw [e, eb] at ea
    injection ea with x1 _ x2
    exact hne (Prod.ext x1.symm x2.symm)
  · refine (List.Pairwise.and_mem.1 ha).imp ?_
    rintro a b ⟨hma, hmb, hne⟩ x hxa y hxb hxy
    subst hxy
    obtain ⟨e, _, rfl⟩ := List.mem_map.1 hxa
    obtain ⟨f, _, hf⟩ := List.mem_map.1 hxb
    have h3 := withS_take e (hl a hma)
    rw [← hf, withS_take f (hl b hmb)] at h3
    exact hne h3.symm
/-- The rows of the steps, all of them. -/
def rowsU (es : List Ed) : List Stp → List Tu → List Tu
  | [], rows => rows
  | s :: r, rows => rowsU es r (withL s rows es)
/-- At no step are there too many. -/
def LowL (es : List Ed) : List Stp → List Tu → Prop
  | [], _ => True
  | s :: r, rows => (withL s rows es).length ≤ 3000 ∧ LowL es r (withL s rows es)
theorem rowsN_low {es : List Ed} : ∀ (ss : List Stp) (rows : List Tu), LowL es ss rows → rowsN es ss rows = rowsU es ss rows
  | [], _, _ => rfl
  | s :: r, rows, h => by
    unfold rowsN rowsU
    rw [if_neg (by have := h.1; omega)]
    exact rowsN_low r _ h.2
theorem rowsN_big {es : List Ed} : ∀ (ss : List Stp) (rows : List Tu), ¬ LowL es ss rows → 3000 < (rowsN es ss rows).length
  | [], _, h => absurd trivial h
  | s :: r, rows, h => by
    unfold rowsN
    by_cases hb : 3000 < (withL s rows es).length
    · rw [if_pos hb, List.length_take]; omega
    · rw [if_neg hb]
      exact rowsN_big r _ fun hl => h ⟨by omega, hl⟩
theorem rowsU_len {es : List Ed} : ∀ (ss : List Stp) (rows : List Tu), rows.length ≤ 3000 → LowL es ss rows → (rowsU es ss rows).length ≤ 3000
  | [], _, h, _ => h
  | _ :: r, _, _, h => rowsU_len r _ h.1 h.2
theorem low_iff {es : List Ed} (ss : List Stp) (rows : List Tu) (h : rows.length ≤ 3000) : LowL es ss rows ↔ (rowsN es ss rows).length ≤ 3000 := by
  constructor
  · intro hl
    rw [rowsN_low ss rows hl]
    exact rowsU_len ss rows h hl
  · intro hn
    exact Classical.byContradiction fun hc => by have := rowsN_big ss rows hc; omega
theorem knEnd_le : ∀ (ss : List Stp) (kn : Nat), ChainOk kn ss → kn ≤ knEnd kn ss
  | [], _, _ => Nat.le_refl _
  | s :: r, kn, h => by
    have := knEnd_le r _ h.2.2.2
    have h0 := h.1
    show kn ≤ knEnd s.next r
    have : kn ≤ s.next := by unfold Stp.next; omega
    omega
theorem mem_rowsU {es : List Ed} : ∀ (ss : List Stp) (kn : Nat) (rows : List Tu), ChainOk kn ss → (∀ r ∈ rows, r.length = kn) → ∀ row : Tu, row ∈ rowsU es ss rows ↔ row.length = knEnd kn ss ∧ row.take kn ∈ rows ∧ ∀ s ∈ ss, edgeAt s row ∈ es := by
  intro ss
  induction ss with
  | nil =>
    intro kn rows _ hl row
    show row ∈ rows ↔ row.length = kn ∧ _
    constructor
    · intro h
      refine ⟨hl row h, ?_, fun _ h => nomatch h⟩
      rw [← hl row h, List.take_length]
      exact h
    · rintro ⟨h1, h2, _⟩
      rw [← h1, List.take_length] at h2
      exact h2
  | cons s r ih =>
    intro kn rows hc hl row
    obtain ⟨c0, c1, c2, c3⟩ := hc
    have hl' : ∀ q ∈ rows, q.length = s.kn := fun q hq => by rw [c0]; exact hl q hq
    show row ∈ rowsU es r (withL s rows es) ↔ row.length = knEnd s.next r ∧ _
    rw [ih s.next (withL s rows es) c3 (with_lens hl' c1 c2) row, mem_with hl' c1 c2]
    have hle := knEnd_le r s.next c3
    have hn : s.kn ≤ s.next ∧ s.fr < s.next ∧ s.to < s.next := by unfold Stp.next; omega
    have he : edgeAt s (row.take s.next) = edgeAt s row := by
      unfold edgeAt
      rw [take_get hn.2.1, take_get hn.2.2]
    rw [he, List.take_take, Nat.min_eq_left hn.1, ← c0]
    simp only [List.mem_cons, forall_eq_or_imp, List.length_take]
    constructor
    · rintro ⟨h1, ⟨_, h3, h4⟩, h5⟩
      exact ⟨h1, h3, h4, h5⟩
    · rintro ⟨h1, h3, h4, h5⟩
      exact ⟨h1, ⟨by omega, h3, h4⟩, h5⟩
theorem nodup_rowsU {es : List Ed} (he : es.Nodup) : ∀ (ss : List Stp) (kn : Nat) (rows : List Tu), ChainOk kn ss → (∀ r ∈ rows, r.length = kn) → rows.Nodup → (rowsU es ss rows).Nodup
  | [], _, _, _, _, h => h
  | s :: r, kn, rows, hc, hl, h => by
    obtain ⟨c0, c1, c2, c3⟩ := hc
    have hl' : ∀ q ∈ rows, q.length = s.kn := fun q hq => by rw [c0]; exact hl q hq
    exact nodup_rowsU he r s.next _ c3 (with_lens hl' c1 c2) (nodup_with hl' c1 c2 h he)
/-- Is it a row? -/
def IsRow (as : List Atm) (es : List Ed) (row : Tu) : Prop := row.length = (varsL as).length ∧ ∀ a ∈ as, (⟨row.getD ((varsL as).idxOf a.fr) 0, a.lab, row.getD ((varsL as).idxOf a.to) 0⟩ : Ed) ∈ es
theorem steps_all {vs : List Nm} {p : Stp → Prop} (q : Atm → Prop) (h : ∀ a kn, p (stepOf vs kn a) ↔ q a) : ∀ (as : List Atm) (kn : Nat), (∀ s ∈ stepsK vs kn as, p s) ↔ ∀ a ∈ as, q a
  | [], _ => by simp [stepsK]
  | a :: r, kn => by
    unfold stepsK
    rw [List.forall_mem_cons, List.forall_mem_cons, steps_all q h r, h]
theorem mem_rows {as : List Atm} {es : List Ed} {row : Tu} : row ∈ rowsU (onceL es) (stepsL as) [[]] ↔ IsRow as es row := by
  rw [mem_rowsU (stepsL as) 0 [[]] (chain_ok as) (by simp) row, knEnd_ok]
  unfold IsRow stepsL
  rw [steps_all (fun a => (⟨row.getD ((varsL as).idxOf a.fr) 0, a.lab, row.getD ((varsL as).idxOf a.to) 0⟩ : Ed) ∈ es) (fun a kn => by unfold edgeAt stepOf; rw [onceL_mem])]
  simp
theorem rows_nodup (as : List Atm) (es : List Ed) : (rowsU (onceL es) (stepsL as) [[]]).Nodup := nodup_rowsU (onceL_nodup es) _ 0 _ (chain_ok as) (by simp) (by simp)
theorem rowsN_lens {es : List Ed} : ∀ (ss : List Stp) (kn : Nat) (rows : List Tu) (m : Nat), ChainOk kn ss → (∀ r ∈ rows, r.length = kn) → knEnd kn ss ≤ m → ∀ row ∈ rowsN es ss rows, row.length ≤ m
  | [], kn, rows, m, _, hl, hm, row, hr => by
    have := hl row hr
    unfold knEnd at hm
    omega
  | s :: r, kn, rows, m, hc, hl, hm, row, hr => by
    obtain ⟨c0, c1, c2, c3⟩ := hc
    have hl' : ∀ q ∈ rows, q.length = s.kn := fun q hq => by rw [c0]; exact hl q hq
    have hm' : knEnd s.next r ≤ m := hm
    unfold rowsN at hr
    split at hr
    · have h1 := with_lens hl' c1 c2 row (List.mem_of_mem_take hr)
      have h2 := knEnd_le r s.next c3
      omega
    · exact rowsN_lens r s.next _ m c3 (with_lens hl' c1 c2) hm' row hr
theorem rowsOf_lens (as : List Atm) (es : List Ed) : ∀ row ∈ rowsOfL as es, row.length ≤ (varsL as).length := rowsN_lens _ 0 _ _ (chain_ok as) (by simp) (Nat.le_of_eq (knEnd_ok as))
/-- A pattern isn't too great. -/
def LowP (as : List Atm) (es : List Ed) : Prop := LowL (onceL es) (stepsL as) [[]]
theorem lowP_iff {as : List Atm} {es : List Ed} : LowP as es ↔ (rowsOfL as es).length ≤ 3000 := low_iff _ _ (by simp)
/-- The rows as a set. -/
theorem set_of_nodup {l : List Tu} (h : l.Nodup) : (setL l).length = l.length := by
  have hr := ris_set l
  have hn : (setL l).Nodup := hr.imp fun h => cmpI_ne h
  have h1 : (setL l).Perm l := (List.perm_ext_iff_of_nodup hn h).2 fun q => mem_set
  exact h1.length_eq
end Go.Proofs.Ytgjjdmkoamjdpaa
/- Rows, plainly: the document's way to them; outputs and counts. Nothing of the program is stated here. -/
namespace Go.Proofs.Ytgjjdmkoamjdpaa

/-- What the document makes of a row and an edge. -/
def refOne (s : Stp) (row : Tu) (e : Ed) : List Tu := if e.lab = s.lab then if edgeAt s (withS s row (e.f, e.t)) = e then [withS s row (e.f, e.t)] else [] else []
def refRow (s : Stp) (es : List Ed) (row : Tu) : List Tu := es.flatMap (refOne s row)
theorem refRow_eq {s : Stp} {row : Tu} (h : row.length = s.kn) (h1 : s.fr ≤ s.kn) (h2 : s.to ≤ max s.kn (s.fr + 1)) : ∀ es : List Ed, refRow s es row = (foundL s es (tellsS s row)).map (withS s row)
  | [] => rfl
  | e :: es => by
    have ih := refRow_eq h h1 h2 es
    unfold refRow foundL fitL at *
    rw [List.flatMap_cons, ih, List.filter_cons]
    have key : (edgeAt s (withS s row (e.f, e.t)) = e ∧ e.lab = s.lab) ↔ (fitB s e = true ∧ toldS s (e.f, e.t) = tellsS s row) := by
      unfold fitB
      rw [Bool.and_eq_true, Bool.or_eq_true, decide_eq_true_eq, Bool.not_eq_true', decide_eq_false_iff_not, decide_eq_true_eq]
      constructor
      · rintro ⟨k1, k2⟩
        have f1 : (withS s row (e.f, e.t)).getD s.fr 0 = e.f := congrArg Ed.f k1
        have f2 : (withS s row (e.f, e.t)).getD s.to 0 = e.t := congrArg Ed.t k1
        refine ⟨⟨k2, ?_⟩, ?_⟩
        · by_cases hq : s.fr = s.to
          · right
            rw [← f1, hq, f2]
          · exact .inl hq
        · unfold toldS tellsS
          have g1 : s.fr < s.kn → row.getD s.fr 0 = e.f := fun hl => by
            rw [← f1]
            unfold withS
            rw [push1_get (by rw [push1_len]; split <;> omega), push1_get (by omega)]
          have g2 : s.to < s.kn → row.getD s.to 0 = e.t := fun hl => by
            rw [← f2]
            unfold withS
            rw [push1_get (by rw [push1_len]; split <;> omega), push1_get (by omega)]
          congr 1
          · by_cases hl : s.fr < s.kn
            · rw [if_neg (by omega), if_pos hl, g1 hl]
            · rw [if_pos (by omega), if_neg hl]
          · by_cases hl : s.to < s.kn
            · rw [if_neg (by omega), if_pos hl, g2 hl]
            · rw [if_pos (by omega), if_neg hl]
      · rintro ⟨⟨k1, k2⟩, k3⟩
        refine ⟨?_, k1⟩
        rw [withS_edge h h1 h2 (fun hq => k2.resolve_left (fun hn => hn hq)) k3, ← k1]
    unfold refOne
    by_cases hf : fitB s e = true
    · rw [if_pos hf]
      have hlab : e.lab = s.lab := by
        unfold fitB at hf
        rw [Bool.and_eq_true, decide_eq_true_eq] at hf
        exact hf.1
      rw [if_pos hlab, List.map_cons, List.filter_cons]
      by_cases ht : toldS s (e.f, e.t) = tellsS s row
      · rw [if_pos (key.2 ⟨hf, ht⟩).1, if_pos (decide_eq_true ht)]
        rfl
      · rw [if_neg (fun hc => ht (key.1 ⟨hc, hlab⟩).2), if_neg (by rw [decide_eq_true_eq]; exact ht)]
        rfl
    · rw [if_neg hf]
      by_cases hlab : e.lab = s.lab
      · rw [if_pos hlab, if_neg (fun hc => hf (key.1 ⟨hc, hlab⟩).1)]
        rfl
      · rw [if_neg hlab]
        rfl
def refWith (s : Stp) (ahead : List Tu) (es : List Ed) : List Tu := ahead.flatMap (refRow s es)
theorem refWith_eq {s : Stp} {ahead : List Tu} {es : List Ed} (hl : ∀ r ∈ ahead, r.length = s.kn) (h1 : s.fr ≤ s.kn) (h2 : s.to ≤ max s.kn (s.fr + 1)) : refWith s ahead es = withL s ahead es := by
  unfold refWith withL
  rw [List.flatMap_def, List.flatMap_def]
  congr 1
  exact List.map_congr_left fun r hr => refRow_eq (hl r hr) h1 h2 es
/-- The document's rows: none, where there are too many. -/
def refRows (es : List Ed) : List Stp → List Tu → Option (List Tu)
  | [], rows => some rows
  | s :: r, rows => if 3000 < (refWith s rows es).length then none else refRows es r (refWith s rows es)
theorem refRows_eq {es : List Ed} : ∀ (ss : List Stp) (kn : Nat) (rows : List Tu), ChainOk kn ss → (∀ r ∈ rows, r.length = kn) → rows.length ≤ 3000 → refRows es ss rows = if (rowsN es ss rows).length ≤ 3000 then some (rowsN es ss rows) else none
  | [], _, rows, _, _, h => by
    unfold refRows rowsN
    rw [if_pos h]
  | s :: r, kn, rows, hc, hl, h => by
    obtain ⟨c0, c1, c2, c3⟩ := hc
    have hl' : ∀ q ∈ rows, q.length = s.kn := fun q hq => by rw [c0]; exact hl q hq
    unfold refRows rowsN
    rw [refWith_eq hl' c1 c2]
    by_cases hb : 3000 < (withL s rows es).length
    · rw [if_pos hb, if_pos hb, if_neg (by rw [List.length_take]; omega)]
    · rw [if_neg hb, if_neg hb]
      exact refRows_eq r s.next _ c3 (with_lens hl' c1 c2) (by omega)
/-- A merge of two rising lists, each tuple once. -/
def mrg2 : List Tu → List Tu → List Tu
  | [], b => b
  | x :: a, [] => x :: a
  | x :: a, y :: b => if cmpI x y < 0 then x :: mrg2 a (y :: b) else if cmpI x y = 0 then mrg2 a (y :: b) else y :: mrg2 (x :: a) b
termination_by a b => a.length + b.length
theorem mrg2_nil_left (b : List Tu) : mrg2 [] b = b := by rw [mrg2]
theorem mrg2_nil_right (a : List Tu) : mrg2 a [] = a := by
  cases a <;> rw [mrg2]
theorem mrg2_cons (x y : Tu) (a b : List Tu) : mrg2 (x :: a) (y :: b) = if cmpI x y < 0 then x :: mrg2 a (y :: b) else if cmpI x y = 0 then mrg2 a (y :: b) else y :: mrg2 (x :: a) b := by rw [mrg2]
theorem mem_mrg2 {t : Tu} : ∀ {a b : List Tu}, t ∈ mrg2 a b ↔ t ∈ a ∨ t ∈ b
  | [], b => by rw [mrg2_nil_left]; simp
  | x :: a, [] => by rw [mrg2_nil_right]; simp
  | x :: a, y :: b => by
    rw [mrg2_cons]
    split
    · rw [List.mem_cons, mem_mrg2, List.mem_cons, List.mem_cons, or_assoc]
    · split
      · rename_i h0
        have e := cmpI_eq h0
        subst e
        rw [mem_mrg2, List.mem_cons, List.mem_cons]
        constructor
        · rintro (h | h)
          · exact .inl (.inr h)
          · exact .inr h
        · rintro ((rfl | h) | h)
          · exact .inr (.inl rfl)
          · exact .inl h
          · exact .inr h
      · rw [List.mem_cons, mem_mrg2, List.mem_cons, List.mem_cons]
        constructor
        · rintro (h | h | h)
          · exact .inr (.inl h)
          · exact .inl h
          · exact .inr (.inr h)
        · rintro (h | h | h)
          · exact .inr (.inl h)
          · exact .inl h
          · exact .inr (.inr h)
termination_by a b => a.length + b.length
theorem ris_mrg2 : ∀ {a b : List Tu}, Ris a → Ris b → Ris (mrg2 a b)
  | [], b, _, hb => by rw [mrg2_nil_left]; exact hb
  | x :: a, [], ha, _ => by rw [mrg2_nil_right]; exact ha
  | x :: a, y :: b, ha, hb => by
    obtain ⟨ha1, ha2⟩ := List.pairwise_cons.1 ha
    obtain ⟨hb1, hb2⟩ := List.pairwise_cons.1 hb
    rw [mrg2_cons]
    split
    · rename_i hlt
      refine List.pairwise_cons.2 ⟨fun q hq => ?_, ris_mrg2 ha2 hb⟩
      rcases mem_mrg2.1 hq with h | h
      · exact ha1 q h
      · rcases List.mem_cons.1 h with rfl | h
        · exact hlt
        · exact cmpI_trans hlt (hb1 q h)
    · split
      · exact ris_mrg2 ha2 hb
      · rename_i h1 h2
        have hgt : cmpI y x < 0 := by rw [cmpI_swap]; omega
        refine List.pairwise_cons.2 ⟨fun q hq => ?_, ris_mrg2 ha hb2⟩
        rcases mem_mrg2.1 hq with h | h
        · rcases List.mem_cons.1 h with rfl | h
          · exact hgt
          · exact cmpI_trans hgt (ha1 q h)
        · exact hb1 q h
termination_by a b => a.length + b.length
theorem mrg2_len : ∀ (a b : List Tu), (mrg2 a b).length ≤ a.length + b.length
  | [], b => by rw [mrg2_nil_left]; simp
  | x :: a, [] => by rw [mrg2_nil_right]; simp
  | x :: a, y :: b => by
    rw [mrg2_cons]
    split
    · have := mrg2_len a (y :: b); simp at *; omega
    · split
      · have := mrg2_len a (y :: b); simp at *; omega
      · have := mrg2_len (x :: a) b; simp at *; omega
termination_by a b => a.length + b.length
theorem set_mrg2 (a b : List Tu) : mrg2 (setL a) (setL b) = setL (a ++ b) :=
  ris_ext (ris_mrg2 (ris_set a) (ris_set b)) (ris_set _) fun q => by rw [mem_mrg2, mem_set, mem_set, mem_set, List.mem_append]
theorem setL_one (t : Tu) : setL [t] = [t] := rfl
/-- What a row has at the outputs. -/
def outL (vs out : List Nm) (row : Tu) : Tu := out.map fun o => row.getD (vs.idxOf o) 0
def countsL (all : List Tu) : List Int := (setL all).map fun t => ((all.filter fun u => decide (u = t)).length : Int)
end Go.Proofs.Ytgjjdmkoamjdpaa
