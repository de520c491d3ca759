/- Joined: JoBL JoBM JoBN. -/
import Derived.Test.YtobieolonlddlaaJnC
import Derived.Test.YtobieolonlddlaaJoBF
import Derived.Test.YtobieolonlddlaaJoAD
import Derived.Test.YtobieolonlddlaaJoBD
/- What the law JoinTurned wants of rows, plainly. -/
namespace Go.Proofs.Ytobieolonlddlaa

/-- A row over other names. -/
def mv (vs ws : List Nm) (r : Tu) : Tu := ws.map fun s => r.getD (vs.idxOf s) 0
theorem mv_len (vs ws : List Nm) (r : Tu) : (mv vs ws r).length = ws.length := List.length_map _
theorem mv_at {vs ws : List Nm} {r : Tu} {s : Nm} (h : s ∈ ws) : (mv vs ws r).getD (ws.idxOf s) 0 = r.getD (vs.idxOf s) 0 := by
  have hlt := idx_lt h
  unfold mv
  rw [List.getD_eq_getElem?_getD, List.getElem?_eq_getElem (by rw [List.length_map]; exact hlt), List.getElem_map, List.getElem_idxOf hlt]
  rfl
theorem mv_mv {vs ws us : List Nm} {r : Tu} (h : ∀ s ∈ us, s ∈ ws) : mv ws us (mv vs ws r) = mv vs us r := by
  unfold mv
  exact List.map_congr_left fun s hs => mv_at (vs := vs) (r := r) (h s hs)
theorem mv_self {vs : List Nm} {r : Tu} (hn : vs.Nodup) (hl : r.length = vs.length) : mv vs vs r = r := by
  unfold mv
  apply List.ext_getElem
  · rw [List.length_map, hl]
  · intro i h1 h2
    have h3 : i < vs.length := by rw [← hl]; exact h2
    have e : vs.idxOf vs[i] = i := (List.getElem_inj hn).1 (List.getElem_idxOf (idx_lt (List.getElem_mem h3)))
    rw [List.getElem_map, e, List.getD_eq_getElem?_getD, List.getElem?_eq_getElem h2]
    rfl
theorem outL_mv (vs out : List Nm) (r : Tu) : outL vs out r = mv vs out r := rfl
section
variable {v w : Vw} {es es' : List Ed}
theorem row_mv (ha : ∀ a, a ∈ w.atoms → a ∈ v.atoms) (he : ∀ e ∈ es, e ∈ es') {r : Tu} (h : IsRow v.atoms es r) : IsRow w.atoms es' (mv (varsL v.atoms) (varsL w.atoms) r) := by
  refine ⟨mv_len _ _ _, fun a haw => ?_⟩
  rw [mv_at (varsL_mem.2 ⟨a, haw, .inl rfl⟩), mv_at (varsL_mem.2 ⟨a, haw, .inr rfl⟩)]
  exact he _ (h.2 a (ha a haw))
theorem vars_same (ha : ∀ a, a ∈ v.atoms ↔ a ∈ w.atoms) {s : Nm} : s ∈ varsL v.atoms ↔ s ∈ varsL w.atoms := by
  rw [varsL_mem, varsL_mem]
  exact ⟨fun ⟨a, h, k⟩ => ⟨a, (ha a).1 h, k⟩, fun ⟨a, h, k⟩ => ⟨a, (ha a).2 h, k⟩⟩
theorem rowsR_nodup (v : Vw) (es : List Ed) : (rowsR v es).Nodup := by
  unfold rowsR
  split
  · split
    · exact nodup_set _
    · exact .nil
  · exact .nil
theorem rows_perm (ha : ∀ a, a ∈ v.atoms ↔ a ∈ w.atoms) (he : ∀ e, e ∈ es ↔ e ∈ es') (h0 : rowsC v es = 0) (h1 : rowsC w es' = 0) :
    (rowsR w es').Perm ((rowsR v es).map (mv (varsL v.atoms) (varsL w.atoms))) := by
  refine (List.perm_ext_iff_of_nodup (rowsR_nodup _ _) ?_).2 fun q => ?_
  · rw [List.nodup_iff_pairwise_ne, List.pairwise_map]
    refine (rowsR_nodup v es).imp_of_mem ?_
    intro a b hma hmb hab hc
    apply hab
    have la := rowsR_lens a hma
    have lb := rowsR_lens b hmb
    have e := congrArg (mv (varsL w.atoms) (varsL v.atoms)) hc
    rw [mv_mv (fun s hs => (vars_same ha).1 hs), mv_mv (fun s hs => (vars_same ha).1 hs), mv_self (varsL_nodup _) la, mv_self (varsL_nodup _) lb] at e
    exact e
  · rw [mem_rowsR h1, List.mem_map]
    constructor
    · intro hq
      refine ⟨mv (varsL w.atoms) (varsL v.atoms) q, (mem_rowsR h0).2 (row_mv (fun a h => (ha a).1 h) (fun e h => (he e).2 h) hq), ?_⟩
      rw [mv_mv (fun s hs => (vars_same ha).2 hs), mv_self (varsL_nodup _) hq.1]
    · rintro ⟨r, hr, rfl⟩
      exact row_mv (fun a h => (ha a).2 h) (fun e h => (he e).1 h) ((mem_rowsR h0).1 hr)
theorem outs_perm (ho : v.out = w.out) (ha : ∀ a, a ∈ v.atoms ↔ a ∈ w.atoms) (he : ∀ e, e ∈ es ↔ e ∈ es') (h0 : rowsC v es = 0) (h1 : rowsC w es' = 0) : (outsOf w es').Perm (outsOf v es) := by
  have hp := (rows_perm ha he h0 h1).map (outL (varsL w.atoms) w.out)
  have hb := (goodP_names (rows_good h1)).2.2.2.2.1
  have e : ((rowsR v es).map (mv (varsL v.atoms) (varsL w.atoms))).map (outL (varsL w.atoms) w.out) = outsOf v es := by
    unfold outsOf
    rw [List.map_map, ho]
    refine List.map_congr_left fun r _ => ?_
    show outL _ _ (mv _ _ r) = _
    rw [outL_mv, outL_mv, mv_mv hb]
  rw [e] at hp
  exact hp
theorem set_perm {a b : List Tu} (h : a.Perm b) : setL a = setL b :=
  ris_ext (ris_set a) (ris_set b) fun q => by rw [mem_set, mem_set]; exact h.mem_iff
theorem res_same (ho : v.out = w.out) (ha : ∀ a, a ∈ v.atoms ↔ a ∈ w.atoms) (he : ∀ e, e ∈ es ↔ e ∈ es') (h0 : rowsC v es = 0) (h1 : rowsC w es' = 0) : resR v es = resR w es' ∧ resN v es = resN w es' := by
  have hp := (outs_perm ho ha he h0 h1).symm
  have hs := set_perm hp
  unfold resR resN
  rw [if_pos h0, if_pos h1, if_pos h0, if_pos h1]
  refine ⟨hs, ?_⟩
  rw [countsL_eq, countsL_eq, ← hs]
  unfold cnt
  exact List.map_congr_left fun t _ => congrArg (fun n : Nat => (n : Int)) (hp.filter _).length_eq
theorem outsGo_same {as1 as2 : List Atm} (ha : ∀ a, a ∈ as1 ↔ a ∈ as2) : ∀ (l pre : List Nm), outsGo as1 pre l = outsGo as2 pre l
  | [], _ => rfl
  | o :: l, pre => by
    have hb : boundB as1 o = boundB as2 o := by
      rw [Bool.eq_iff_iff, boundB_iff, boundB_iff, varsL_mem, varsL_mem]
      exact ⟨fun ⟨a, h, k⟩ => ⟨a, (ha a).1 h, k⟩, fun ⟨a, h, k⟩ => ⟨a, (ha a).2 h, k⟩⟩
    unfold outsGo
    rw [hb, outsGo_same ha l (pre ++ [o])]
theorem good_same (hn : v.name = w.name) (hk : v.kind = w.kind) (hl : v.label = w.label) (ho : v.out = w.out) (ha : ∀ a, a ∈ v.atoms ↔ a ∈ w.atoms)
    (h8 : (1 ≤ v.atoms.length ∧ v.atoms.length ≤ 8) ↔ (1 ≤ w.atoms.length ∧ w.atoms.length ≤ 8)) : goodP v = goodP w := by
  have h1 : atsOk v.atoms = atsOk w.atoms := by
    rw [Bool.eq_iff_iff]
    unfold atsOk
    simp only [Bool.and_eq_true, decide_eq_true_eq, List.all_eq_true]
    constructor
    · rintro ⟨h, k⟩
      exact ⟨h8.1 h, fun a haw => k a ((ha a).2 haw)⟩
    · rintro ⟨h, k⟩
      exact ⟨h8.2 h, fun a haw => k a ((ha a).1 haw)⟩
  have h2 : outsOk v.out v.atoms = outsOk w.out w.atoms := by
    unfold outsOk
    rw [ho, outsGo_same ha]
  unfold goodP patOk
  rw [hn, hk, hl, h1, h2]
theorem turned_same (hn : v.name = w.name) (hk : v.kind = w.kind) (hl : v.label = w.label) (ho : v.out = w.out) (ha : ∀ a, a ∈ v.atoms ↔ a ∈ w.atoms)
    (h8 : (1 ≤ v.atoms.length ∧ v.atoms.length ≤ 8) ↔ (1 ≤ w.atoms.length ∧ w.atoms.length ≤ 8)) (he : ∀ e, e ∈ es ↔ e ∈ es') (h5 : rowsC v es ≠ 5) (h6 : rowsC w es' ≠ 5) :
    rowsC v es = rowsC w es' ∧ resR v es = resR w es' ∧ resN v es = resN w es' := by
  have hg := good_same hn hk hl ho ha h8
  by_cases hgv : goodP v = true
  · have hgw : goodP w = true := by rw [← hg]; exact hgv
    have h0 : rowsC v es = 0 := by
      rcases rowsC_rng v es with h | h | h
      · exact h
      · unfold rowsC at h; rw [if_pos hgv] at h; split at h <;> cases h
      · exact absurd h h5
    have h1 : rowsC w es' = 0 := by
      rcases rowsC_rng w es' with h | h | h
      · exact h
      · unfold rowsC at h; rw [if_pos hgw] at h; split at h <;> cases h
      · exact absurd h h6
    obtain ⟨r1, r2⟩ := res_same ho ha he h0 h1
    exact ⟨by rw [h0, h1], r1, r2⟩
  · have hgw : ¬ goodP w = true := by rw [← hg]; exact hgv
    have h0 : rowsC v es = 1 := if_neg hgv
    have h1 : rowsC w es' = 1 := if_neg hgw
    unfold resR resN
    rw [h0, h1]
    exact ⟨rfl, rfl, rfl⟩
end
end Go.Proofs.Ytobieolonlddlaa
/- A view with memory of its own, whose atoms are turned: what the law JoinTurned does to it. -/
namespace Go.Proofs.Ytobieolonlddlaa
open Go.RowKit Go.Maps

def turnL (L : List Atm) (s k : Nat) : List Atm := (List.range L.length).map fun i => if i < k then L.getD ((i + s) % L.length) default else L.getD i default
theorem turn_len (L : List Atm) (s k : Nat) : (turnL L s k).length = L.length := by unfold turnL; rw [List.length_map, List.length_range]
theorem turn_zero (L : List Atm) (s : Nat) : turnL L s 0 = L := by
  unfold turnL
  apply List.ext_getElem
  · rw [List.length_map, List.length_range]
  · intro i h1 h2
    rw [List.getElem_map, List.getElem_range, if_neg (Nat.not_lt_zero _), List.getD_eq_getElem?_getD, List.getElem?_eq_getElem h2]
    rfl
theorem turn_next {L : List Atm} {s k : Nat} : (turnL L s k).set k (L.getD ((k + s) % L.length) default) = turnL L s (k + 1) := by
  unfold turnL
  apply List.ext_getElem
  · rw [List.length_set, List.length_map, List.length_map]
  · intro i h1 h2
    rw [List.getElem_set, List.getElem_map, List.getElem_map, List.getElem_range]
    by_cases e : k = i
    · subst e
      rw [if_pos rfl, if_pos (Nat.lt_succ_self k)]
    · rw [if_neg e]
      by_cases h3 : i < k
      · rw [if_pos h3, if_pos (by omega)]
      · rw [if_neg h3, if_neg (by omega)]
theorem turn_mem {L : List Atm} {s : Nat} {a : Atm} : a ∈ turnL L s L.length ↔ a ∈ L := by
  unfold turnL
  rw [List.mem_map]
  constructor
  · rintro ⟨i, hi, rfl⟩
    have hi := List.mem_range.1 hi
    have hlt : (i + s) % L.length < L.length := Nat.mod_lt _ (by omega)
    rw [if_pos hi, List.getD_eq_getElem?_getD, List.getElem?_eq_getElem hlt]
    exact List.getElem_mem hlt
  · intro h
    obtain ⟨j, hj, rfl⟩ := List.getElem_of_mem h
    have hn : 0 < L.length := by omega
    have hm := Nat.mod_lt s hn
    have e : ((j + (L.length - s % L.length)) % L.length + s) % L.length = j := by
      rw [Nat.mod_add_mod]
      have e2 : j + (L.length - s % L.length) + s = j + L.length * (s / L.length + 1) := by
        have := Nat.div_add_mod s L.length
        rw [Nat.mul_add, Nat.mul_one]
        omega
      rw [e2, Nat.add_mul_mod_self_left, Nat.mod_eq_of_lt hj]
    refine ⟨(j + (L.length - s % L.length)) % L.length, List.mem_range.2 (Nat.mod_lt _ hn), ?_⟩
    rw [if_pos (Nat.mod_lt _ hn), e, List.getD_eq_getElem?_getD, List.getElem?_eq_getElem hj]
    rfl
theorem atsC_set : ∀ (l : List Atm) (i : Nat) (_ : i < l.length) (a : Atm), (((atsC l).set (i * 3) (.string ⟨a.fr.toArray⟩)).set (i * 3 + 1) (.string ⟨a.lab.toArray⟩)).set (i * 3 + 2) (.string ⟨a.to.toArray⟩) = atsC (l.set i a)
  | [], i, h, _ => absurd h (by simp)
  | b :: l, 0, _, a => rfl
  | b :: l, i + 1, h, a => by
    have ih := atsC_set l i (by simpa using h) a
    have e : (i + 1) * 3 = i * 3 + 1 + 1 + 1 := by omega
    rw [e]
    show _ :: _ :: _ :: ((((atsC l).set (i * 3) _).set (i * 3 + 1) _).set (i * 3 + 2) _) = _ :: _ :: _ :: atsC (l.set i a)
    rw [ih]
theorem row_ne {w : World} {base size n b : Nat} {e t : TypeId} {v : Value} {xs : List Value} {cs : Array Value} {fr : Nat × Nat} (h : w.ownsRow base e size v n xs) (hb : w.heap[b]? = some (.cells cs t fr)) (hne : e ≠ t) : ∀ s ∈ v.ownBlock.toList, s ∉ [b] := by
  intro s hs hm
  rcases h.2 with ⟨hv, _⟩ | ⟨g, cap, cur, hv, _, hg, _⟩
  · rw [hv] at hs; simp [Value.ownBlock] at hs
  · rw [hv] at hs
    simp [Value.ownBlock] at hs hm
    subst hs hm
    rw [hg] at hb
    injection hb with hb
    injection hb with _ h2
    exact hne h2
/-- The view with memory of its own, in a box. -/
structure TuAt (lo N g : Nat) (x : VW) (oA : Option Addr) (oc : Nat) (wr : World) (aA : Option Addr) (ac : Nat) (L : List Atm) : Prop where
  row : AtRow lo wr (.slice aA L.length ac) L
  st : StrRow lo wr (.slice oA x.v.out.length oc) x.v.out
  bx : wr.heap[N]? = some (.cells #[.string ⟨x.v.name.toArray⟩, .int .i64 x.v.kind, .slice x.oA x.v.out.length x.oc, .slice x.aA x.v.atoms.length x.ac, .string ⟨x.v.label.toArray⟩] 25 (0, 0))
  bw : wr.heap[g]? = some (.cells #[.string ⟨x.v.name.toArray⟩, .int .i64 x.v.kind, .slice oA x.v.out.length oc, .slice aA L.length ac, .string ⟨x.v.label.toArray⟩] 25 (0, 0))
theorem TuAt.kept {lo N g : Nat} {x : VW} {oA : Option Addr} {oc : Nat} {wr w' : World} {aA : Option Addr} {ac : Nat} {L : List Atm} (h : TuAt lo N g x oA oc wr aA ac L) (hb : Below wr.heap.size wr w') : TuAt lo N g x oA oc w' aA ac L :=
  ⟨own_below h.row hb (Nat.le_refl _), own_below h.st hb (Nat.le_refl _), (hb.block _ (heap_lt h.bx)).trans h.bx, (hb.block _ (heap_lt h.bw)).trans h.bw⟩
/-- An atom is put. -/
theorem TuAt.put {lo N g b : Nat} {x : VW} {oA : Option Addr} {oc : Nat} {wr : World} {ac : Nat} {L : List Atm} (h : TuAt lo N g x oA oc wr (some ⟨b, 0, none⟩) ac L) {i : Nat} (hi : i < L.length) (a : Atm) :
    (wr.cell? ⟨b, i * 3, none⟩ = some (.string ⟨L[i].fr.toArray⟩) ∧ wr.cell? ⟨b, i * 3 + 1, none⟩ = some (.string ⟨L[i].lab.toArray⟩) ∧ wr.cell? ⟨b, i * 3 + 2, none⟩ = some (.string ⟨L[i].to.toArray⟩)) ∧ (wr.frozen? ⟨b, i * 3, none⟩ = false ∧ wr.frozen? ⟨b, i * 3 + 1, none⟩ = false ∧ wr.frozen? ⟨b, i * 3 + 2, none⟩ = false) ∧
      TuAt lo N g x oA oc (((wr.setCell ⟨b, i * 3, none⟩ (.string ⟨a.fr.toArray⟩)).setCell ⟨b, i * 3 + 1, none⟩ (.string ⟨a.lab.toArray⟩)).setCell ⟨b, i * 3 + 2, none⟩ (.string ⟨a.to.toArray⟩)) (some ⟨b, 0, none⟩) ac (L.set i a) ∧
      Below lo wr (((wr.setCell ⟨b, i * 3, none⟩ (.string ⟨a.fr.toArray⟩)).setCell ⟨b, i * 3 + 1, none⟩ (.string ⟨a.lab.toArray⟩)).setCell ⟨b, i * 3 + 2, none⟩ (.string ⟨a.to.toArray⟩)) := by
  have hr := h.row
  unfold AtRow at hr
  have hlo := (World.ownsRow.lt hr b rfl).1
  have hat := fun j (hj : j < 3) => (World.ownsRow.cellAt hr (i * 3 + j) (by omega)).trans (flat3_at atC (fun _ => rfl) L i j hi hj)
  have fz := fun j => World.ownsRow.frozenAt hr j
  obtain ⟨s1, -⟩ := World.ownsRow.stored hr (i * 3) (.string ⟨a.fr.toArray⟩)
  obtain ⟨s2, -⟩ := World.ownsRow.stored s1 (i * 3 + 1) (.string ⟨a.lab.toArray⟩)
  obtain ⟨s3, -⟩ := World.ownsRow.stored s2 (i * 3 + 2) (.string ⟨a.to.toArray⟩)
  rw [atsC_set L i hi a] at s3
  have f3 : Fr wr (((wr.setCell ⟨b, i * 3, none⟩ (.string ⟨a.fr.toArray⟩)).setCell ⟨b, i * 3 + 1, none⟩ (.string ⟨a.lab.toArray⟩)).setCell ⟨b, i * 3 + 2, none⟩ (.string ⟨a.to.toArray⟩)) [b] :=
    (((Fr.refl wr [b]).setCell (p := ⟨b, i * 3, none⟩) (by simp) _).setCell (p := ⟨b, i * 3 + 1, none⟩) (by simp) _).setCell (p := ⟨b, i * 3 + 2, none⟩) (by simp) _
  have hNb : N ∉ [b] := fun hm => row_ne hr h.bx (by decide) b (by simp [Value.ownBlock]) (by simpa using (List.mem_singleton.1 hm).symm)
  have hgb : g ∉ [b] := fun hm => row_ne hr h.bw (by decide) b (by simp [Value.ownBlock]) (by simpa using (List.mem_singleton.1 hm).symm)
  have hap := own_apart h.st hr (by decide)
  refine ⟨⟨hat 0 (by omega), hat 1 (by omega), hat 2 (by omega)⟩, ⟨fz _, fz _, fz _⟩, ⟨?_, ?_, ?_, ?_⟩, f3.below (Nat.le_of_lt (Nat.lt_of_le_of_lt hlo (World.ownsRow.lt hr b rfl).2)) (by simpa using hlo)⟩
  · unfold AtRow
    rw [List.length_set]
    exact s3
  · exact rowFrS h.st f3 (fun s hs hm => hap s hs (by simp [Value.ownBlock] at hm ⊢; exact hm))
  · exact (f3.block _ (heap_lt h.bx) hNb).trans h.bx
  · rw [List.length_set]
    exact (f3.block _ (heap_lt h.bw) hgb).trans h.bw
end Go.Proofs.Ytobieolonlddlaa
/- One atom more, two edges more: what the law JoinTurned appends. -/
namespace Go.Proofs.Ytobieolonlddlaa
open Go.RowKit Go.Maps

theorem atsC_app (a b : List Atm) : atsC (a ++ b) = atsC a ++ atsC b := List.flatMap_append
theorem TuAt.ok {lo N g : Nat} {x : VW} {oA : Option Addr} {oc : Nat} {wr : World} {aA : Option Addr} {ac : Nat} {L : List Atm} (h : TuAt lo N g x oA oc wr aA ac L) (h1 : x.v.out.length ≤ 100) (h2 : L.length ≤ 100) : VW.Ok wr ⟨oA, oc, aA, ac, { x.v with atoms := L }⟩ :=
  ⟨StrRow.sts' h.st h1, AtRow.ats h.row h2⟩
theorem TuAt.push {lo N g B : Nat} {x : VW} {oA : Option Addr} {oc : Nat} {wr : World} {aA : Option Addr} {ac : Nat} {L : List Atm} (h : TuAt lo N g x oA oc wr aA ac L) (hlo : lo ≤ wr.heap.size) (hB : B ≤ lo) (hg : B ≤ g) (hNg : N ∉ [g]) (hl : L.length ≤ 50) (a : Atm) :
    ∃ aA' ac' w', (Builtin.append_ #[23, 23] 23 #[.slice aA L.length ac, .slice (some ⟨wr.heap.size, 0, none⟩) 1 1]).run Try.prog (wr.alloc (.cells #[.string ⟨a.fr.toArray⟩, .string ⟨a.lab.toArray⟩, .string ⟨a.to.toArray⟩] 49)) = .ok (.slice aA' (L.length + 1) ac') w' ∧
      w'.cell? ⟨g, 3, none⟩ = some (.slice aA L.length ac) ∧ w'.frozen? ⟨g, 3, none⟩ = false ∧ TuAt lo N g x oA oc (w'.setCell ⟨g, 3, none⟩ (.slice aA' (L.length + 1) ac')) aA' ac' (L ++ [a]) ∧ Below B wr (w'.setCell ⟨g, 3, none⟩ (.slice aA' (L.length + 1) ac')) := by
  obtain ⟨i, hi, hz0, hz1, hz2⟩ := info_parts infoAtom
  have hb4 : Below wr.heap.size wr (wr.alloc (.cells (atC a).toArray 49)) := (Below.refl _ _).alloc (Nat.le_refl _) _
  have h4 := h.kept hb4
  have hz : lo ≤ (wr.alloc (.cells (atC a).toArray 49)).heap.size := Nat.le_trans hlo hb4.size
  have hrd : Rd (wr.alloc (.cells (atC a).toArray 49)) (wr.heap.size + 1) (some ⟨wr.heap.size, 0, none⟩) (atsC [a]) := by
    have := Rd.new wr (atC a).toArray 49 (0, 0)
    exact this
  obtain ⟨v5, w5, hrun, g1, g2, g3⟩ := run_appR (P := Try.prog) _ lo 23 23 49 i _ 3 48 Try.underlying23 hi hz0 hz1 hz2 rfl (by omega) _ L.length (atsC L) h4.row (wr.heap.size + 1) (some ⟨wr.heap.size, 0, none⟩) 1 1 (atsC [a]) (by rw [atsC_len]; rfl) hrd (atsC_one _) (by omega) (by omega) hz
  obtain ⟨aA', ac', rfl, _, _, _⟩ := own_shape g1
  have hf := fr_grown g2
  have hNb := row_ne h4.row h4.bx (by decide)
  have hgb := row_ne h4.row h4.bw (by decide)
  have bx5 := (hf.block N (heap_lt h4.bx) (fun hm => hNb N hm (by simp))).trans h4.bx
  have bw5 := (hf.block g (heap_lt h4.bw) (fun hm => hgb g hm (by simp))).trans h4.bw
  have st5 := rowFrS h4.st hf (own_apart h4.st h4.row (by decide))
  have f6 : Fr w5 (w5.setCell ⟨g, 3, none⟩ (.slice aA' (L.length + 1) ac')) [g] := (Fr.refl w5 [g]).setCell (by simp) _
  have hb5 : Below lo (wr.alloc (.cells (atC a).toArray 49)) w5 := (Below.refl lo _).grown g2 hz (fun k hk => (World.ownsRow.lt h4.row k hk).1)
  refine ⟨aA', ac', w5, hrun, (box5 bw5).2.2.2.1, frozen_of_row w5 g 3 _ _ bw5, ⟨?_, ?_, (f6.block N (heap_lt bx5) hNg).trans bx5, ?_⟩, ?_⟩
  · unfold AtRow
    rw [List.length_append, atsC_app]
    exact rowFrS g1 f6 (row_ne g1 bw5 (by decide))
  · exact rowFrS st5 f6 (row_ne st5 bw5 (by decide))
  · rw [List.length_append]
    exact heap_setCell_same w5 g 3 _ _ (.slice aA' (L.length + 1) ac') bw5
  · exact ((lower' hb4 (Nat.le_trans hB hlo)).trans (lower' hb5 hB)).setCell hg _
theorem EdRow.push2 {lo : Nat} {w : World} {v : Value} {l : List Ed} (h : EdRow lo w v l) (e d : Ed) (hl : l.length ≤ 300) (hlo : lo ≤ w.heap.size) :
    ∃ v5 w5, (Builtin.append_ #[26, 26] 26 #[v, .slice (some ⟨w.heap.size, 0, none⟩) 2 2]).run Try.prog (w.alloc (.cells #[.int .i64 e.f, .string ⟨e.lab.toArray⟩, .int .i64 e.t, .int .i64 d.f, .string ⟨d.lab.toArray⟩, .int .i64 d.t] 52)) = .ok v5 w5 ∧ EdRow lo w5 v5 (l ++ [e, d]) ∧ Below lo w w5 := by
  obtain ⟨i, hi, hz0, hz1, hz2⟩ := info_parts infoEdge
  have hb4 : Below w.heap.size w (w.alloc (.cells (edsC [e, d]).toArray 52)) := (Below.refl _ _).alloc (Nat.le_refl _) _
  have hr4 := own_below h hb4 (Nat.le_refl _)
  have hz : lo ≤ (w.alloc (.cells (edsC [e, d]).toArray 52)).heap.size := Nat.le_trans hlo hb4.size
  have hrd : Rd (w.alloc (.cells (edsC [e, d]).toArray 52)) (w.heap.size + 1) (some ⟨w.heap.size, 0, none⟩) (edsC [e, d]) := by
    have := Rd.new w (edsC [e, d]).toArray 52 (0, 0)
    exact this
  obtain ⟨v5, w5, hrun, g1, g2, g3⟩ := run_appR (P := Try.prog) _ lo 26 26 52 i _ 3 32 Try.underlying26 hi hz0 hz1 hz2 rfl (by omega) v l.length (edsC l) hr4 (w.heap.size + 1) (some ⟨w.heap.size, 0, none⟩) 2 2 (edsC [e, d]) (by rw [edsC_len]; rfl) hrd (edsC_one _) (by omega) (by omega) hz
  have hb5 : Below lo (w.alloc (.cells (edsC [e, d]).toArray 52)) w5 := (Below.refl lo _).grown g2 hz (fun k hk => (World.ownsRow.lt hr4 k hk).1)
  refine ⟨v5, w5, hrun, ?_, (lower' hb4 hlo).trans hb5⟩
  unfold EdRow
  rw [edsC_app, List.length_append]
  exact g1
end Go.Proofs.Ytobieolonlddlaa
