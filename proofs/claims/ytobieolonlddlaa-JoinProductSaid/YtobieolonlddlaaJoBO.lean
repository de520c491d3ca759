/- What the law JoinProduct wants of rows, plainly. -/
import Derived.Test.YtobieolonlddlaaJnD
import Derived.Test.YtobieolonlddlaaJoBP
namespace Go.Proofs.Ytobieolonlddlaa

def trA (a : Atm) : Atm := ⟨trn a.fr, a.lab, trn a.to⟩
def prodV (v : Vw) : Vw := { v with atoms := v.atoms ++ v.atoms.map trA }
theorem idx_app_left {vs vt : List Nm} {s : Nm} (h : s ∈ vs) : (vs ++ vt).idxOf s = vs.idxOf s := by rw [List.idxOf_append, if_pos h]
theorem idx_app_right {vs vt : List Nm} {s : Nm} (h : s ∉ vs) : (vs ++ vt).idxOf s = vs.length + vt.idxOf s := by rw [List.idxOf_append, if_neg h]; omega
theorem getD_left {a b : Tu} {i : Nat} (h : i < a.length) : (a ++ b).getD i 0 = a.getD i 0 := by
  rw [List.getD_eq_getElem?_getD, List.getElem?_append_left h, List.getD_eq_getElem?_getD]
theorem getD_right {a b : Tu} {i : Nat} : (a ++ b).getD (a.length + i) 0 = b.getD i 0 := by
  rw [List.getD_eq_getElem?_getD, List.getElem?_append_right (by omega), List.getD_eq_getElem?_getD, Nat.add_sub_cancel_left]
section
variable {v : Vw} {es : List Ed}
theorem good_names (hg : goodP v = true) : ∀ s ∈ varsL v.atoms, isNm s = true := by
  intro s hs
  unfold goodP patOk atsOk at hg
  simp only [Bool.and_eq_true, List.all_eq_true] at hg
  obtain ⟨a, ha, h⟩ := varsL_mem.1 hs
  have := hg.2.1.2.2 a ha
  unfold atOk at this
  simp only [Bool.and_eq_true] at this
  rcases h with rfl | rfl
  · exact this.1.1
  · exact this.2
theorem prod_vars {s : Nm} : s ∈ varsL (prodV v).atoms ↔ s ∈ varsL v.atoms ++ (varsL v.atoms).map trn := by
  rw [List.mem_append, List.mem_map, varsL_mem, varsL_mem]
  unfold prodV
  constructor
  · rintro ⟨a, ha, h⟩
    rcases List.mem_append.1 ha with ha | ha
    · exact .inl ⟨a, ha, h⟩
    · obtain ⟨b, hb, rfl⟩ := List.mem_map.1 ha
      rcases h with rfl | rfl
      · exact .inr ⟨b.fr, varsL_mem.2 ⟨b, hb, .inl rfl⟩, rfl⟩
      · exact .inr ⟨b.to, varsL_mem.2 ⟨b, hb, .inr rfl⟩, rfl⟩
  · rintro (⟨a, ha, h⟩ | ⟨t, ht, rfl⟩)
    · exact ⟨a, List.mem_append_left _ ha, h⟩
    · obtain ⟨b, hb, h⟩ := varsL_mem.1 ht
      refine ⟨trA b, List.mem_append_right _ (List.mem_map.2 ⟨b, hb, rfl⟩), ?_⟩
      rcases h with rfl | rfl
      · exact .inl rfl
      · exact .inr rfl
theorem map_trn_nodup {vs : List Nm} (hn : vs.Nodup) (hm : ∀ s ∈ vs, isNm s = true) : (vs.map trn).Nodup := by
  rw [List.nodup_iff_pairwise_ne, List.pairwise_map]
  refine hn.imp_of_mem ?_
  intro a b ha hb hab h
  exact hab (trn_inj (hm a ha) (hm b hb) h)
theorem idx_trn {vs : List Nm} (hn : vs.Nodup) (hm : ∀ s ∈ vs, isNm s = true) {s : Nm} (h : s ∈ vs) : (vs.map trn).idxOf (trn s) = vs.idxOf s := by
  have h1 : trn s ∈ vs.map trn := List.mem_map.2 ⟨s, h, rfl⟩
  have e1 := List.getElem_idxOf (idx_lt h1)
  have hlt : vs.idxOf s < (vs.map trn).length := by rw [List.length_map]; exact idx_lt h
  have e2 : (vs.map trn)[vs.idxOf s] = trn s := by rw [List.getElem_map, List.getElem_idxOf (idx_lt h)]
  exact (List.getElem_inj (map_trn_nodup hn hm)).1 (e1.trans e2.symm)
theorem sum_const {α : Type} (m : Nat) : ∀ L : List α, (L.map fun _ => m).sum = L.length * m
  | [] => by simp
  | a :: L => by rw [List.map_cons, List.sum_cons, sum_const m L, List.length_cons, Nat.succ_mul]; omega
theorem prod_left {r1 r2 : Tu} (h1 : r1.length = (varsL v.atoms).length) {s : Nm} (h : s ∈ varsL v.atoms) : (r1 ++ r2).getD ((varsL v.atoms ++ (varsL v.atoms).map trn).idxOf s) 0 = r1.getD ((varsL v.atoms).idxOf s) 0 := by
  rw [idx_app_left h, getD_left (by rw [h1]; exact idx_lt h)]
variable (hg : goodP v = true) (hD : ∀ s ∈ varsL v.atoms, trn s ∉ varsL v.atoms)
include hg hD
theorem us_nodup : (varsL v.atoms ++ (varsL v.atoms).map trn).Nodup := by
  rw [List.nodup_append]
  refine ⟨varsL_nodup _, map_trn_nodup (varsL_nodup _) (good_names hg), ?_⟩
  rintro a ha b hb rfl
  obtain ⟨s, hs, rfl⟩ := List.mem_map.1 hb
  exact hD s hs ha
theorem prod_right {r1 r2 : Tu} (h1 : r1.length = (varsL v.atoms).length) {s : Nm} (h : s ∈ varsL v.atoms) : (r1 ++ r2).getD ((varsL v.atoms ++ (varsL v.atoms).map trn).idxOf (trn s)) 0 = r2.getD ((varsL v.atoms).idxOf s) 0 := by
  rw [idx_app_right (hD s h), idx_trn (varsL_nodup _) (good_names hg) h, ← h1, getD_right]
theorem prod_row {q : Tu} : IsRow (prodV v).atoms es q ↔ ∃ r1 r2, IsRow v.atoms es r1 ∧ IsRow v.atoms es r2 ∧ q = mv (varsL v.atoms ++ (varsL v.atoms).map trn) (varsL (prodV v).atoms) (r1 ++ r2) := by
  constructor
  · intro hq
    refine ⟨mv (varsL (prodV v).atoms) (varsL v.atoms) q, mv (varsL (prodV v).atoms) ((varsL v.atoms).map trn) q, row_mv (v := prodV v) (w := v) (fun a ha => List.mem_append_left _ ha) (fun _ h => h) hq, ⟨by rw [mv_len, List.length_map], fun a ha => ?_⟩, ?_⟩
    · have hf : a.fr ∈ varsL v.atoms := varsL_mem.2 ⟨a, ha, .inl rfl⟩
      have ht : a.to ∈ varsL v.atoms := varsL_mem.2 ⟨a, ha, .inr rfl⟩
      rw [← idx_trn (varsL_nodup _) (good_names hg) hf, ← idx_trn (varsL_nodup _) (good_names hg) ht, mv_at (List.mem_map.2 ⟨_, hf, rfl⟩), mv_at (List.mem_map.2 ⟨_, ht, rfl⟩)]
      exact hq.2 (trA a) (List.mem_append_right _ (List.mem_map.2 ⟨a, ha, rfl⟩))
    · have e : mv (varsL (prodV v).atoms) (varsL v.atoms) q ++ mv (varsL (prodV v).atoms) ((varsL v.atoms).map trn) q = mv (varsL (prodV v).atoms) (varsL v.atoms ++ (varsL v.atoms).map trn) q := (List.map_append).symm
      rw [e, mv_mv (fun s hs => prod_vars.1 hs), mv_self (varsL_nodup _) hq.1]
  · rintro ⟨r1, r2, h1, h2, rfl⟩
    refine ⟨mv_len _ _ _, fun a ha => ?_⟩
    rw [mv_at (varsL_mem.2 ⟨a, ha, .inl rfl⟩), mv_at (varsL_mem.2 ⟨a, ha, .inr rfl⟩)]
    rcases List.mem_append.1 ha with ha | ha
    · rw [prod_left h1.1 (varsL_mem.2 ⟨a, ha, .inl rfl⟩), prod_left h1.1 (varsL_mem.2 ⟨a, ha, .inr rfl⟩)]
      exact h1.2 a ha
    · obtain ⟨c, hc, rfl⟩ := List.mem_map.1 ha
      show (⟨(r1 ++ r2).getD ((varsL v.atoms ++ (varsL v.atoms).map trn).idxOf (trn c.fr)) 0, c.lab, (r1 ++ r2).getD ((varsL v.atoms ++ (varsL v.atoms).map trn).idxOf (trn c.to)) 0⟩ : Ed) ∈ es
      rw [prod_right hg hD h1.1 (varsL_mem.2 ⟨c, hc, .inl rfl⟩), prod_right hg hD h1.1 (varsL_mem.2 ⟨c, hc, .inr rfl⟩)]
      exact h2.2 c hc
theorem prod_perm (h0 : rowsC v es = 0) (h1 : rowsC (prodV v) es = 0) :
    (rowsR (prodV v) es).Perm (((rowsR v es).flatMap fun r1 => (rowsR v es).map fun r2 => r1 ++ r2).map (mv (varsL v.atoms ++ (varsL v.atoms).map trn) (varsL (prodV v).atoms))) := by
  have hln : ∀ p ∈ ((rowsR v es).flatMap fun r1 => (rowsR v es).map fun r2 => r1 ++ r2), p.length = (varsL v.atoms ++ (varsL v.atoms).map trn).length := by
    intro p hp
    obtain ⟨r1, k1, hp⟩ := List.mem_flatMap.1 hp
    obtain ⟨r2, k2, rfl⟩ := List.mem_map.1 hp
    rw [List.length_append, List.length_append, List.length_map, rowsR_lens r1 k1, rowsR_lens r2 k2]
  have hnd : ((rowsR v es).flatMap fun r1 => (rowsR v es).map fun r2 => r1 ++ r2).Nodup := by
    unfold List.Nodup
    rw [List.pairwise_flatMap]
    refine ⟨fun a _ => ?_, (rowsR_nodup v es).imp_of_mem ?_⟩
    · rw [List.pairwise_map]
      exact (rowsR_nodup v es).imp fun hab h => hab (List.append_cancel_left h)
    · intro a b ha hb hab p hp q hq h
      obtain ⟨c, _, rfl⟩ := List.mem_map.1 hp
      obtain ⟨d, _, rfl⟩ := List.mem_map.1 hq
      exact hab (List.append_inj_left h (by rw [rowsR_lens a ha, rowsR_lens b hb]))
  refine (List.perm_ext_iff_of_nodup (rowsR_nodup _ _) ?_).2 fun q => ?_
  · rw [List.nodup_iff_pairwise_ne, List.pairwise_map]
    refine hnd.imp_of_mem ?_
    intro a b ha hb hab h
    apply hab
    have e := congrArg (mv (varsL (prodV v).atoms) (varsL v.atoms ++ (varsL v.atoms).map trn)) h
    rw [mv_mv (fun s hs => prod_vars.2 hs), mv_mv (fun s hs => prod_vars.2 hs), mv_self (us_nodup hg hD) (hln a ha), mv_self (us_nodup hg hD) (hln b hb)] at e
    exact e
  · rw [mem_rowsR h1, prod_row hg hD, List.mem_map]
    constructor
    · rintro ⟨r1, r2, k1, k2, rfl⟩
      exact ⟨r1 ++ r2, List.mem_flatMap.2 ⟨r1, (mem_rowsR h0).2 k1, List.mem_map.2 ⟨r2, (mem_rowsR h0).2 k2, rfl⟩⟩, rfl⟩
    · rintro ⟨p, hp, rfl⟩
      obtain ⟨r1, k1, hp⟩ := List.mem_flatMap.1 hp
      obtain ⟨r2, k2, rfl⟩ := List.mem_map.1 hp
      exact ⟨r1, r2, (mem_rowsR h0).1 k1, (mem_rowsR h0).1 k2, rfl⟩
theorem prod_len (h0 : rowsC v es = 0) (h1 : rowsC (prodV v) es = 0) : (rowsR (prodV v) es).length = (rowsR v es).length * (rowsR v es).length := by
  have h := (prod_perm hg hD h0 h1).length_eq
  rw [List.length_map, List.length_flatMap] at h
  rw [h]
  simp only [List.length_map]
  exact sum_const _ _
end
theorem outsGo_mono {as1 as2 : List Atm} (ha : ∀ s, boundB as1 s = true → boundB as2 s = true) : ∀ (l pre : List Nm), outsGo as1 pre l = true → outsGo as2 pre l = true
  | [], _, _ => rfl
  | o :: l, pre, h => by
    unfold outsGo at h ⊢
    simp only [Bool.and_eq_true] at h ⊢
    exact ⟨⟨h.1.1, ha o h.1.2⟩, outsGo_mono ha l _ h.2⟩
theorem prod_good {v : Vw} (hg : goodP v = true) (h3 : v.atoms.length ≤ 3) : goodP (prodV v) = true := by
  unfold goodP patOk atsOk outsOk at hg ⊢
  unfold prodV
  simp only [Bool.and_eq_true, decide_eq_true_eq, List.all_eq_true, List.length_append, List.length_map] at hg ⊢
  obtain ⟨n1, ⟨⟨n2, n3⟩, ⟨n4, n5⟩, n6⟩, ⟨n7, n8⟩, n9⟩ := hg
  refine ⟨n1, ⟨⟨n2, n3⟩, ⟨by omega, by omega⟩, fun a ha => ?_⟩, ⟨n7, n8⟩, outsGo_mono (fun s hs => ?_) _ _ n9⟩
  · rcases List.mem_append.1 ha with ha | ha
    · exact n6 a ha
    · obtain ⟨c, hc, rfl⟩ := List.mem_map.1 ha
      have := n6 c hc
      unfold atOk at this ⊢
      simp only [Bool.and_eq_true] at this ⊢
      exact ⟨⟨trn_nm this.1.1, this.1.2⟩, trn_nm this.2⟩
  · unfold boundB at hs ⊢
    rw [List.any_append, hs, Bool.true_or]
theorem prod_code {v : Vw} {es : List Ed} (hg : goodP v = true) (h3 : v.atoms.length ≤ 3) : rowsC (prodV v) es = 0 ∨ rowsC (prodV v) es = 5 := by
  unfold rowsC
  rw [if_pos (prod_good hg h3)]
  split
  · exact .inl rfl
  · exact .inr rfl
end Go.Proofs.Ytobieolonlddlaa
