/- Joined: SpLB SpLD SpGF0 JoBI. -/
import Derived.Test.YtmldiojlglpoiaaJnL
import Derived.Test.YtmldiojlglpoiaaSpWy
import Derived.Test.YtmldiojlglpoiaaSpGE
import Derived.Test.YtmldiojlglpoiaaSpR0
import Derived.Test.YtmldiojlglpoiaaJoOp
/- A row of truth values, a row of rows that is cut from the front; a row of numbers cut at its end; slices.Clone of rows. -/
namespace Go.Proofs.Ytmldiojlglpoiaa
open Go.RowKit Go.Maps Go.Sort

/-- A row of truth values of the call's own. -/
def OwnSeen (w : World) (lo g : Nat) (bs : List Bool) : Prop := w.ownsRow lo 4 1 (.slice (some ⟨g, 0, none⟩) bs.length bs.length) bs.length (bs.map Value.bool)
theorem makeB (n : Nat) (hn : n ≤ 20000) (w : World) : (Instr.makeSlice 152 (.int .i64 (n : Int)) (.int .i64 (n : Int))).run Try.prog w = .ok (.slice (some ⟨w.heap.size, 0, none⟩) n n) (w.alloc (.cells ((List.replicate n false).map Value.bool).toArray 4)) := by
  have h := run_make_row' (P := Try.prog) 152 4 (.bool false) 1 Try.underlying152 infoBool rfl .i64 .i64 n (by omega) (by omega) w
  have e : madeCells #[.bool false] n = ((List.replicate n false).map Value.bool).toArray := by
    apply Array.toList_inj.1
    rw [toList_madeCells_one, List.toList_toArray, List.map_replicate]
  rw [e] at h
  exact h
theorem ownSeen_heap {w : World} {g lo : Nat} {l : List Bool} (h : w.heap[g]? = some (.cells (l.map Value.bool).toArray 4 (0, 0))) (hlo : lo ≤ g) (hl : l.length ≤ 5000) : OwnSeen w lo g l := by
  unfold OwnSeen
  refine ⟨by rw [List.length_map, Nat.mul_one], .inr ⟨g, l.length, (l.map Value.bool).toArray, rfl, hlo, h, Nat.le_refl _, by simp [maxLen]; omega, by simp, by rw [Nat.mul_one]; exact List.take_of_length_le (by simp)⟩⟩
theorem OwnSeen.below {w w' : World} {lo g : Nat} {bs : List Bool} (h : OwnSeen w lo g bs) (hb : Below w.heap.size w w') : OwnSeen w' lo g bs := own_below h hb (Nat.le_refl _)
theorem OwnSeen.fr {w w' : World} {lo g : Nat} {bs : List Bool} {S : List Nat} (h : OwnSeen w lo g bs) (hf : Fr w w' S) (hS : g ∉ S) : OwnSeen w' lo g bs := rowFrS h hf fun s hs => by
  simp [Value.ownBlock] at hs
  rw [hs]
  exact hS
theorem OwnSeen.lt {w : World} {lo g : Nat} {bs : List Bool} (h : OwnSeen w lo g bs) : lo ≤ g ∧ g < w.heap.size := World.ownsRow.lt h g rfl
theorem OwnSeen.at {w : World} {lo g : Nat} {bs : List Bool} (h : OwnSeen w lo g bs) {p : Nat} (hp : p < bs.length) (v : Bool) :
    w.cell? ⟨g, p, none⟩ = some (.bool bs[p]) ∧ w.frozen? ⟨g, p, none⟩ = false ∧ OwnSeen (w.setCell ⟨g, p, none⟩ (.bool v)) lo g (bs.set p v) ∧ Fr w (w.setCell ⟨g, p, none⟩ (.bool v)) [g] := by
  obtain ⟨hst, hgr⟩ := World.ownsRow.stored h p (.bool v)
  refine ⟨?_, World.ownsRow.frozenAt h p, ?_, Fr.of_grown hgr⟩
  · rw [World.ownsRow.cellAt h p (by rw [Nat.mul_one]; exact hp)]
    simp
  · unfold OwnSeen
    rw [List.length_set, List.map_set]
    exact hst
/-- A row of numbers cut at its end. -/
theorem OwnI.pop {w : World} {lo : Nat} {A : Option Addr} {l : List Int} {a : Int} {c : Nat} (h : OwnI w lo ⟨A, l ++ [a], c⟩) : OwnI w lo ⟨A, l, c⟩ := by
  have hlo := h.lo
  obtain ⟨g, cur, e, h1, h2, h3, h4, h5, h6, h7⟩ := OwnI.blk h (by simp)
  dsimp only at e h1 h2 h3 h4 h5 h6 h7
  rw [List.length_append, List.length_singleton] at h3 h7
  subst e
  unfold OwnI TV.val
  dsimp only
  refine ⟨by rw [intsV_len, Nat.mul_one], .inr ⟨g, c, cur, rfl, h1, h5, by omega, h4, by omega, ?_⟩⟩
  rw [Nat.mul_one]
  have e2 : cur.toList.take l.length = (cur.toList.take (l.length + 1)).take l.length := by rw [List.take_take]; congr 1; omega
  rw [e2, h7]
  unfold intsV
  rw [List.map_append, List.take_left' (by simp)]
/-- A row of numbers cut at its front. -/
def tailA (A : Option Addr) (c : Nat) : Option Addr := if c = 1 then A else A.map fun p => p.add 1
theorem TV.Ok.tail {w : World} {A : Option Addr} {q : Int} {l : List Int} {c : Nat} (h : TV.Ok w ⟨A, q :: l, c⟩) : TV.Ok w ⟨tailA A c, l, c - 1⟩ := by
  have hc := h.cap
  have hs := h.sm
  simp only [List.length_cons] at hc hs
  refine ⟨?_, by dsimp only; omega, by dsimp only; omega⟩
  intro hne
  obtain ⟨b, o, e, hb, hat⟩ := h.rd (by simp [intsV])
  dsimp only at e hne hat ⊢
  have hl : l ≠ [] := fun e => by rw [e] at hne; exact hne rfl
  have hl1 : 0 < l.length := List.length_pos_iff.2 hl
  unfold tailA
  rw [if_neg (by omega), e]
  refine ⟨b, o + 1, by simp [Addr.add], hb, fun j u hj => ?_⟩
  rw [show o + 1 + j = o + (j + 1) by omega]
  exact hat (j + 1) u (by unfold intsV at hj ⊢; rw [List.map_cons, List.getElem?_cons_succ]; exact hj)
/-- A row of rows of numbers, of the call's own; the numbers stand elsewhere. -/
def OwnMore (w : World) (lo g c : Nat) (ms : List TV) : Prop := w.ownsRow lo 31 1 (.slice (some ⟨g, 0, none⟩) ms.length c) ms.length (vals ms)
theorem OwnMore.below {w w' : World} {lo g c : Nat} {ms : List TV} (h : OwnMore w lo g c ms) (hb : Below w.heap.size w w') : OwnMore w' lo g c ms := own_below h hb (Nat.le_refl _)
theorem OwnMore.fr {w w' : World} {lo g c : Nat} {ms : List TV} {S : List Nat} (h : OwnMore w lo g c ms) (hf : Fr w w' S) (hS : g ∉ S) : OwnMore w' lo g c ms := rowFrS h hf fun s hs => by
  simp [Value.ownBlock] at hs
  rw [hs]
  exact hS
theorem OwnMore.lt {w : World} {lo g c : Nat} {ms : List TV} (h : OwnMore w lo g c ms) : lo ≤ g ∧ g < w.heap.size := World.ownsRow.lt h g rfl
theorem OwnMore.at {w : World} {lo g c : Nat} {ms : List TV} (h : OwnMore w lo g c ms) {p : Nat} (hp : p < ms.length) (u : TV) :
    w.cell? ⟨g, p, none⟩ = some (.slice ms[p].A ms[p].l.length ms[p].c) ∧ w.frozen? ⟨g, p, none⟩ = false ∧ OwnMore (w.setCell ⟨g, p, none⟩ (.slice u.A u.l.length u.c)) lo g c (ms.set p u) ∧ Fr w (w.setCell ⟨g, p, none⟩ (.slice u.A u.l.length u.c)) [g] := by
  obtain ⟨hst, hgr⟩ := World.ownsRow.stored h p u.val
  refine ⟨?_, World.ownsRow.frozenAt h p, ?_, Fr.of_grown hgr⟩
  · rw [World.ownsRow.cellAt h p (by rw [Nat.mul_one]; exact hp)]
    simp [vals, TV.val, hp]
  · unfold OwnMore
    rw [List.length_set, vals_set]
    exact hst
end Go.Proofs.Ytmldiojlglpoiaa
/- Rings' rows in memory: a row that is appended to, alone among its like; a row of rows that are not its own. -/
namespace Go.Proofs.Ytmldiojlglpoiaa
open Go.RowKit Go.Maps Go.Sort

/-- A number more at the end of a row of a nest. -/
theorem Nest.app {w : World} {lo g : Nat} {us : List TV} {i : Nat} (h : Nest w lo g us) (hi : i < us.length) (hlo : lo ≤ w.heap.size) (x : Int) (hl : us[i].l.length ≤ 5000) :
    ∃ u : TV, ∃ w1, (Builtin.append_ #[31, 31] 31 #[.slice us[i].A us[i].l.length us[i].c, .slice (some ⟨w.heap.size, 0, none⟩) 1 1]).run Try.prog (w.alloc (.cells #[.int .i64 x] 3)) = .ok (.slice u.A u.l.length u.c) w1 ∧ u.l = us[i].l ++ [x] ∧
      (w1.cell? ⟨g, i, none⟩ = some (.slice us[i].A us[i].l.length us[i].c) ∧ w1.frozen? ⟨g, i, none⟩ = false) ∧ Nest (w1.setCell ⟨g, i, none⟩ (.slice u.A u.l.length u.c)) lo g (us.set i u) ∧ Below lo w (w1.setCell ⟨g, i, none⟩ (.slice u.A u.l.length u.c)) ∧ Fr w (w1.setCell ⟨g, i, none⟩ (.slice u.A u.l.length u.c)) (g :: us[i].val.ownBlock.toList) ∧ Below w.heap.size w (w.alloc (.cells #[.int .i64 x] 3)) ∧ Fr w w1 us[i].val.ownBlock.toList := by
  have hti := h.tup _ (List.getElem_mem hi)
  obtain ⟨u, w1, hrun, hul, hou, hfr, hat, _⟩ := run_appN w lo us[i] [x] hti hlo (by simp; omega)
  have hb1 : Below w.heap.size w (w.alloc (.cells #[.int .i64 x] 3)) := (Below.refl _ _).alloc (Nat.le_refl _) _
  have hf : Fr w w1 us[i].val.ownBlock.toList := (Fr.of_below hb1 _).trans hfr
  have hat' : ∀ b ∈ u.val.ownBlock.toList, b ∈ us[i].val.ownBlock.toList ∨ w.heap.size ≤ b := fun b hb => by
    rcases hat with e | e
    · rw [e] at hb; exact .inl hb
    · rw [e] at hb
      simp at hb
      exact .inr (by omega)
  obtain ⟨h1, h2, h3⟩ := h.put hi hou hf hat'
  exact ⟨u, w1, hrun, hul, h1, h2, h.low hi hlo h3, h3, hb1, hf⟩
/-- A row of rows that stand elsewhere. -/
def RowM (w : World) (lo : Nat) (v : Value) (ys : List TV) : Prop := w.ownsRow lo 31 1 v ys.length (vals ys)
theorem RowM.nil (w : World) (lo : Nat) : RowM w lo (.slice none 0 0) [] := World.ownsRow_nil _ _ _ _
theorem RowM.below {w w' : World} {lo : Nat} {v : Value} {ys : List TV} (h : RowM w lo v ys) (hb : Below w.heap.size w w') : RowM w' lo v ys := own_below h hb (Nat.le_refl _)
theorem RowM.push {w : World} {lo : Nat} {v : Value} {ys : List TV} (h : RowM w lo v ys) (u : TV) (hl : ys.length ≤ 5000) (hlo : lo ≤ w.heap.size) :
    ∃ A5 c5 w5, (Builtin.append_ #[42, 42] 42 #[v, .slice (some ⟨w.heap.size, 0, none⟩) 1 1]).run Try.prog (w.alloc (.cells #[.slice u.A u.l.length u.c] 31)) = .ok (.slice A5 (ys.length + 1) c5) w5 ∧ RowM w5 lo (.slice A5 (ys.length + 1) c5) (ys ++ [u]) ∧ Below lo w w5 ∧ Fr w w5 v.ownBlock.toList := by
  obtain ⟨i0, hi, hz0, hz1, hz2⟩ := info_parts infoRow
  have hb4 : Below w.heap.size w (w.alloc (.cells #[.slice u.A u.l.length u.c] 31)) := (Below.refl _ _).alloc (Nat.le_refl _) _
  have h4 := h.below hb4
  have hrd : Rd (w.alloc (.cells #[.slice u.A u.l.length u.c] 31)) (w.heap.size + 1) (some ⟨w.heap.size, 0, none⟩) (vals [u]) := Rd.new w #[.slice u.A u.l.length u.c] 31 (0, 0)
  obtain ⟨v5, w5, hrun, g1, g2, g3⟩ := run_appR (P := Try.prog) _ lo 42 42 31 i0 _ 1 24 Try.underlying42 hi hz0 hz1 hz2 rfl (by omega) v ys.length (vals ys) h4 (w.heap.size + 1) (some ⟨w.heap.size, 0, none⟩) 1 1 (vals [u]) rfl hrd (vals_one _) (by omega) (by omega) (Nat.le_trans hlo hb4.size)
  rw [← vals_app] at g1
  obtain ⟨A, c, rfl, _, _, _⟩ := own_shape g1
  have hfr := fr_grown g2
  exact ⟨A, c, w5, hrun, by unfold RowM; rw [List.length_append]; exact g1, (lower' hb4 hlo).trans (hfr.below (Nat.le_trans hlo hb4.size) (own_ge h4)), (Fr.of_below hb4 _).trans hfr⟩
/-- Rows by part, of the first k places. -/
def memP (N P : List Int) (k r : Nat) : List Int := ((List.range k).filter fun q => decide (P.getD q (-1) = (r : Int))).map fun q => N.getD q 0
theorem memP_succ (N P : List Int) (k r : Nat) : memP N P (k + 1) r = memP N P k r ++ if P.getD k (-1) = (r : Int) then [N.getD k 0] else [] := by
  unfold memP
  rw [List.range_succ, List.filter_append, List.map_append, List.filter_cons]
  by_cases h : P.getD k (-1) = (r : Int)
  · rw [if_pos h, if_pos (decide_eq_true h)]; rfl
  · rw [if_neg h, if_neg (by simpa using h)]; rfl
theorem memP_len (N P : List Int) (k r : Nat) : (memP N P k r).length ≤ k := by
  unfold memP
  rw [List.length_map]
  have := List.length_filter_le (fun q => decide (P.getD q (-1) = (r : Int))) (List.range k)
  rw [List.length_range] at this
  exact this
def memsP (N P : List Int) (k : Nat) : List Tu := (List.range N.length).map (memP N P k)
theorem memsP_zero (N P : List Int) : memsP N P 0 = List.replicate N.length [] := by
  unfold memsP
  rw [List.eq_replicate_iff]
  exact ⟨by simp, fun x hx => by obtain ⟨p, _, rfl⟩ := List.mem_map.1 hx; rfl⟩
theorem memsP_len (N P : List Int) (k : Nat) : (memsP N P k).length = N.length := by unfold memsP; simp
theorem memsP_at {N P : List Int} {k r : Nat} (h : r < N.length) : (memsP N P k)[r]'(by rw [memsP_len]; exact h) = memP N P k r := by simp [memsP]
theorem memsP_put {N P : List Int} {k r : Nat} (h : P.getD k (-1) = (r : Int)) (hr : r < N.length) : memsP N P (k + 1) = (memsP N P k).set r (memP N P k r ++ [N.getD k 0]) := by
  apply List.ext_getElem
  · rw [List.length_set, memsP_len, memsP_len]
  · intro j h1 h2
    rw [memsP_len] at h1
    rw [List.getElem_set, memsP_at h1, memP_succ]
    by_cases e : r = j
    · subst e; rw [if_pos rfl, if_pos h]
    · rw [if_neg e, if_neg (by omega), memsP_at h1, List.append_nil]
theorem memP_all (N P : List Int) (r : Nat) : memP N P N.length r = partOf N P (r : Int) := rfl
/-- Each place is in a part that is a place's. -/
theorem PartAt.range {O : Rows} {n : Nat} {L : List Nat} {P : List Int} (h : PartAt O n L 0 P) (hL : LeftOk O n L) {p : Nat} (hp : p < n) : ∃ r : Nat, P.getD p (-1) = (r : Int) ∧ r < n := by
  obtain ⟨j, hj, e⟩ := List.getElem_of_mem ((hL.mem p).2 hp)
  have := h.late j hj (Nat.zero_le _)
  rw [e] at this
  obtain ⟨r, h1, h2, _⟩ := h.root p this
  exact ⟨r, h1, h2⟩
theorem part_in {N P : List Int} {p r : Nat} (hp : p < N.length) (h : P.getD p (-1) = (r : Int)) : N.getD p 0 ∈ partOf N P (r : Int) := mem_partOf.2 ⟨p, hp, h, rfl⟩
end Go.Proofs.Ytmldiojlglpoiaa
/- The rings that are told already, a ring that grows, who is told: three rows of the call's own, apart. -/
namespace Go.Proofs.Ytmldiojlglpoiaa
open Go.RowKit Go.Maps Go.Sort

structure RgAt (lo lo3 : Nat) (w4 wz : World) (v : Value) (us : List TV) (D R : TV) : Prop where
  d : OwnI wz lo D
  r : OwnI wz lo3 R
  rd : ∀ a, R.A = some a → a.block ∉ D.val.ownBlock.toList
  o : RowM wz lo v us
  u : ∀ t ∈ us, OwnI wz lo t ∧ ∀ a, t.A = some a → a.block < lo3 ∧ a.block ∉ D.val.ownBlock.toList
  le : lo ≤ lo3
  b : Below lo w4 wz
structure RtAt13 (lo : Nat) (w4 wz : World) (v : Value) (us : List TV) (D : TV) : Prop where
  d : OwnI wz lo D
  o : RowM wz lo v us
  u : ∀ t ∈ us, OwnI wz lo t ∧ ∀ a, t.A = some a → a.block ∉ D.val.ownBlock.toList
  b : Below lo w4 wz
theorem RgAt.below {lo lo3 : Nat} {w4 wz w' : World} {v : Value} {us : List TV} {D R : TV} (h : RgAt lo lo3 w4 wz v us D R) (hb : Below wz.heap.size wz w') (hz : lo ≤ wz.heap.size) : RgAt lo lo3 w4 w' v us D R :=
  ⟨h.d.below hb, h.r.below hb, h.rd, h.o.below hb, fun t ht => ⟨(h.u t ht).1.below hb, (h.u t ht).2⟩, h.le, h.b.trans (lower' hb hz)⟩
theorem RtAt13.below {lo : Nat} {w4 wz w' : World} {v : Value} {us : List TV} {D : TV} (h : RtAt13 lo w4 wz v us D) (hb : Below wz.heap.size wz w') (hz : lo ≤ wz.heap.size) : RtAt13 lo w4 w' v us D :=
  ⟨h.d.below hb, h.o.below hb, fun t ht => ⟨(h.u t ht).1.below hb, (h.u t ht).2⟩, h.b.trans (lower' hb hz)⟩
theorem RtAt13.ring {lo : Nat} {w4 wz : World} {v : Value} {us : List TV} {D : TV} (h : RtAt13 lo w4 wz v us D) (hz : lo ≤ wz.heap.size) : RgAt lo wz.heap.size w4 wz v us D ⟨none, [], 0⟩ :=
  ⟨h.d, World.ownsRow_nil _ _ _ _, (fun _ e => nomatch e), h.o, fun t ht => ⟨(h.u t ht).1, fun a ha => ⟨((h.u t ht).1.lo a ha).2, (h.u t ht).2 a ha⟩⟩, hz, h.b⟩
theorem blk_none {t : TV} {n : Nat} (h : t.val.ownBlock = some n) {b : Nat} (hb : b ∈ t.val.ownBlock.toList) : b = n := by rw [h] at hb; simpa using hb
theorem RgAt.push {lo lo3 : Nat} {w4 wz : World} {v : Value} {us : List TV} {D R : TV} (h : RgAt lo lo3 w4 wz v us D R) (x : Int) (hr : R.l.length ≤ 5000) (hd : D.l.length ≤ 5000) (hz : lo3 ≤ wz.heap.size) :
    ∃ R' w1, (Builtin.append_ #[31, 31] 31 #[.slice R.A R.l.length R.c, .slice (some ⟨wz.heap.size, 0, none⟩) 1 1]).run Try.prog (wz.alloc (.cells #[.int .i64 x] 3)) = .ok (.slice R'.A R'.l.length R'.c) w1 ∧ R'.l = R.l ++ [x] ∧ Below lo wz w1 ∧
      ∃ D' w2, (Builtin.append_ #[31, 31] 31 #[.slice D.A D.l.length D.c, .slice (some ⟨w1.heap.size, 0, none⟩) 1 1]).run Try.prog (w1.alloc (.cells #[.int .i64 x] 3)) = .ok (.slice D'.A D'.l.length D'.c) w2 ∧ D'.l = D.l ++ [x] ∧ RgAt lo lo3 w4 w2 v us D' R' ∧ w1.heap.size ≤ w2.heap.size := by
  obtain ⟨R', w1, h1, h2, h3, h4, h5, h6⟩ := run_appN wz lo3 R [x] h.r hz (by simp; omega)
  have ha : Below wz.heap.size wz (wz.alloc (.cells (intsV [x]).toArray 3)) := (Below.refl _ _).alloc (Nat.le_refl _) _
  have f1 : Fr wz w1 R.val.ownBlock.toList := (Fr.of_below ha _).trans h4
  have d1 : OwnI w1 lo D := rowFrS h.d f1 fun s hs hm => by
    obtain ⟨a, ha, e⟩ := (blk_at R s).1 hm
    exact h.rd a ha (e ▸ hs)
  have o1 : RowM w1 lo v us := rowFrS h.o f1 fun s hs hm => own_apart h.r h.o (by decide) s hm hs
  have u1 : ∀ t ∈ us, OwnI w1 lo t := fun t ht => (h.u t ht).1.fr f1 fun a ha hm => by
    obtain ⟨a', ha', e⟩ := (blk_at R _).1 hm
    have g1 := (h.r.lo a' ha').1
    have g2 := ((h.u t ht).2 a ha).1
    omega
  have b1 : Below lo wz w1 := lower' h6 h.le
  have hdl : ∀ s ∈ D.val.ownBlock.toList, s < wz.heap.size := fun s hs => by
    obtain ⟨a, ha, e⟩ := (blk_at D s).1 hs
    have := (h.d.lo a ha).2
    omega
  obtain ⟨D', w2, g1, g2, g3, g4, g5, g6⟩ := run_appN w1 lo D [x] d1 (Nat.le_trans (Nat.le_trans h.le hz) b1.size) (by simp; omega)
  have ha2 : Below w1.heap.size w1 (w1.alloc (.cells (intsV [x]).toArray 3)) := (Below.refl _ _).alloc (Nat.le_refl _) _
  have f2 : Fr w1 w2 D.val.ownBlock.toList := (Fr.of_below ha2 _).trans g4
  have rd1 : ∀ a, R'.A = some a → a.block ∉ D.val.ownBlock.toList := fun a ha hm => by
    have hb := (blk_at R' _).2 ⟨a, ha, rfl⟩
    rcases h5 with e | e
    · rw [e] at hb
      obtain ⟨a', ha', e'⟩ := (blk_at R _).1 hb
      exact h.rd a' ha' (e' ▸ hm)
    · have := blk_none e hb
      have := hdl _ hm
      omega
  refine ⟨R', w1, h1, h2, b1, D', w2, g1, g2, ⟨g3, h3.fr f2 rd1, fun a ha hm => ?_, rowFrS o1 f2 fun s hs hm => own_apart d1 o1 (by decide) s hm hs, fun t ht => ⟨(u1 t ht).fr f2 fun a ha => ((h.u t ht).2 a ha).2, fun a ha => ⟨((h.u t ht).2 a ha).1, fun hm => ?_⟩⟩, h.le, h.b.trans (b1.trans g6)⟩, g6.size⟩
  · rcases g5 with e | e
    · rw [e] at hm; exact rd1 a ha hm
    · have := blk_none e hm
      have := (h3.lo a ha).2
      omega
  · rcases g5 with e | e
    · rw [e] at hm; exact ((h.u t ht).2 a ha).2 hm
    · have := blk_none e hm
      have := ((h.u t ht).1.lo a ha).2
      have := b1.size
      omega
/-- A ring is told. -/
theorem RgAt.told {lo lo3 : Nat} {w4 wz : World} {v : Value} {us : List TV} {D R : TV} (h : RgAt lo lo3 w4 wz v us D R) (hl : us.length ≤ 5000) (hz : lo ≤ wz.heap.size) :
    ∃ A5 c5 w5, (Builtin.append_ #[42, 42] 42 #[v, .slice (some ⟨wz.heap.size, 0, none⟩) 1 1]).run Try.prog (wz.alloc (.cells #[.slice R.A R.l.length R.c] 31)) = .ok (.slice A5 (us.length + 1) c5) w5 ∧ RtAt13 lo w4 w5 (.slice A5 (us.length + 1) c5) (us ++ [R]) D := by
  obtain ⟨A5, c5, w5, h1, h2, h3, h4⟩ := h.o.push R hl hz
  have hk : ∀ (b : Nat) (t : TV), OwnI wz b t → OwnI w5 b t := fun b t ht => rowFrS ht h4 fun s hs hm => own_apart ht h.o (by decide) s hs hm
  refine ⟨A5, c5, w5, h1, ⟨hk _ _ h.d, h2, fun t ht => ?_, h.b.trans h3⟩⟩
  rcases List.mem_append.1 ht with h5 | h5
  · exact ⟨hk _ _ (h.u t h5).1, fun a ha => ((h.u t h5).2 a ha).2⟩
  · rw [List.mem_singleton.1 h5]
    exact ⟨own_mono (hk _ _ h.r) h.le, h.rd⟩
end Go.Proofs.Ytmldiojlglpoiaa
/- The document's Name. -/
namespace Go.Proofs.Ytmldiojlglpoiaa
open Go.RowKit Go.Maps

set_option maxRecDepth 100000 in
set_option maxHeartbeats 1000000 in
theorem name_ba (s : ByteArray) (w : World) (hz : s.size ≤ maxLen) : Calls Try.prog 41 #[.string s] w fun e w' => e = .returned (.bool (isNm s.data.toList)) ∧ w = w' := by
  have hl : s.data.toList.length = s.size := Array.length_toList
  have hzI : (s.size : Int) ≤ 9223372036854775807 := by simp only [maxLen] at hz; omega
  obtain ⟨R, hR⟩ : ∃ R, R = isNm s.data.toList := ⟨_, rfl⟩
  rw [← hR]
  have HR := Lib.hid (And.intro hl hR)
  clear hR hl hz
  go_enter Try.func41, Try.ntmps41
  go_wp2_with (fail)
  go_loop [3] (fun i => ∃ k : Nat, k ≤ s.size ∧ i = .int .i64 (k : Int) ∧ Hid (s.data.toList.all nmB = (s.data.toList.drop k).all nmB)) (fun i => s.size - (intOf i).toNat)
  case atStart => exact ⟨0, by omega, rfl, Lib.hid rfl⟩
  case round =>
    obtain ⟨k, hk, rfl, hrel⟩ := hrel
    by_cases hlt : k < s.size
    · have hd := List.drop_eq_getElem_cons (l := s.data.toList) (i := k) (by rw [HR.out.1]; exact hlt)
      have hrk := hrel.out
      rw [hd, List.all_cons, ← ba_get s k hlt] at hrk
      have hlI : (k : Int) < (s.size : Int) := by omega
      clear hd hrel
      by_cases ha : (s[k]'hlt).toNat < 97
      · have hf : s.data.toList.all nmB = false := by rw [hrk]; unfold nmB; rw [decide_eq_false (by omega)]; rfl
        have HF := Lib.hid (show R = false from by rw [HR.out.2]; unfold isNm; rw [hf, Bool.and_false])
        clear hf hrk
        have haI : ((s[k]'hlt).toNat : Int) < 97 := by omega
        go_wp2_with (fail)
        go_ret
        exact ⟨by rw [HF.out]; rfl, rfl⟩
      · by_cases hzz : 122 < (s[k]'hlt).toNat
        · have hf : s.data.toList.all nmB = false := by rw [hrk]; unfold nmB; rw [decide_eq_false (show ¬ (s[k]'hlt).toNat ≤ 122 by omega), Bool.and_false]; rfl
          have HF := Lib.hid (show R = false from by rw [HR.out.2]; unfold isNm; rw [hf, Bool.and_false])
          clear hf hrk
          have haI : ¬ ((s[k]'hlt).toNat : Int) < 97 := by omega
          have hzI2 : (122 : Int) < ((s[k]'hlt).toNat : Int) := by omega
          go_wp2_with (fail)
          go_ret
          exact ⟨by rw [HF.out]; rfl, rfl⟩
        · have hf : Hid (s.data.toList.all nmB = (s.data.toList.drop (k + 1)).all nmB) := Lib.hid (by rw [hrk]; unfold nmB; rw [decide_eq_true (show 97 ≤ (s[k]'hlt).toNat by omega), decide_eq_true (show (s[k]'hlt).toNat ≤ 122 by omega)]; rfl)
          clear hrk
          have haI : ¬ ((s[k]'hlt).toNat : Int) < 97 := by omega
          have hzI2 : ¬ (122 : Int) < ((s[k]'hlt).toNat : Int) := by omega
          go_wp2_with (fail)
          go_round
          case rel => exact ⟨k + 1, by omega, by go_num, hf⟩
          case measure => simp [intOf]; omega
    · have g0 : ¬ (k : Int) < (s.size : Int) := by omega
      have hrk := hrel.out
      rw [List.drop_of_length_le (by rw [HR.out.1]; omega), List.all_nil] at hrk
      have hR := HR.out.2
      unfold isNm at hR
      rw [hrk, HR.out.1, Bool.and_true] at hR
      clear hrk hrel
      by_cases h0 : 1 ≤ s.size
      · by_cases h1 : s.size ≤ 16
        · have HF := Lib.hid (show R = true from by rw [hR, decide_eq_true h0, decide_eq_true h1]; rfl)
          have i0 : (0 : Int) < (s.size : Int) := by omega
          have i1 : (s.size : Int) ≤ 16 := by omega
          clear hR
          go_wp2_with (fail)
          go_ret
          exact ⟨by rw [HF.out]; rfl, rfl⟩
        · have HF := Lib.hid (show R = false from by rw [hR, decide_eq_false h1, Bool.and_false])
          have i0 : (0 : Int) < (s.size : Int) := by omega
          have i1 : ¬ (s.size : Int) ≤ 16 := by omega
          clear hR
          go_wp2_with (fail)
          go_ret
          exact ⟨by rw [HF.out]; rfl, rfl⟩
      · have HF := Lib.hid (show R = false from by rw [hR, decide_eq_false h0, Bool.false_and])
        have i0 : ¬ (0 : Int) < (s.size : Int) := by omega
        clear hR
        go_wp2_with (fail)
        go_ret
        exact ⟨by rw [HF.out]; rfl, rfl⟩
theorem name_any (l : Nm) (w : World) (hz : l.length ≤ maxLen) : Calls Try.prog 41 #[.string ⟨l.toArray⟩] w fun e w' => e = .returned (.bool (isNm l)) ∧ w = w' :=
  name_ba ⟨l.toArray⟩ w (by rw [ba_size]; exact hz)
end Go.Proofs.Ytmldiojlglpoiaa
