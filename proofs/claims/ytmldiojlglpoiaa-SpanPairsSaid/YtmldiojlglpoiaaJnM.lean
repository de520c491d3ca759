/- Joined: SpLB SpLD SpLE SpLF. -/
import Derived.Test.YtmldiojlglpoiaaSpLA
import Derived.Test.YtmldiojlglpoiaaSpWy
/- A row of truth values, a row of rows that is cut from the front; a row of numbers cut at its end; slices.Clone of rows. -/
namespace Go.Proofs.Ytmldiojlglpoiaa
open Go.RowKit Go.Maps Go.Sort

/-- A row of truth values of the call's own. -/
def OwnSeen (w : World) (lo g : Nat) (bs : List Bool) : Prop := w.ownsRow lo 4 1 (.slice (some ⟨g, 0, none⟩) bs.length bs.length) bs.length (bs.map Value.bool)
theorem makeB (n : Nat) (hn : n ≤ 20000) (w : World) : (Instr.makeSlice 152 (.int .i64 (n : Int)) (.int .i64 (n : Int))).run Try.prog w = .ok (.slice (some ⟨w.heap.size, 0, none⟩) n n) (w.alloc (.cells ((List.replicate n false).map Value.bool).toArray 4)) := by
  have h := run_make_row' (P := Try.prog) 152 4 (.bool false) 1 Try.underlying152 infoBool rfl .i64 .i64 n (by omega) (by omega) w
  have e : madeCells #[.bool false] n = ((List.replicate n false).map Value.bool).toArray := by
    apply Array.toList_inj.1
    rw [toList_madeCells_one, List.toList_toArray, List.map_replicate]
  rw [e] at h
  exact h
theorem ownSeen_heap {w : World} {g lo : Nat} {l : List Bool} (h : w.heap[g]? = some (.cells (l.map Value.bool).toArray 4 (0, 0))) (hlo : lo ≤ g) (hl : l.length ≤ 5000) : OwnSeen w lo g l := by
  unfold OwnSeen
  refine ⟨by rw [List.length_map, Nat.mul_one], .inr ⟨g, l.length, (l.map Value.bool).toArray, rfl, hlo, h, Nat.le_refl _, by simp [maxLen]; omega, by simp, by rw [Nat.mul_one]; exact List.take_of_length_le (by simp)⟩⟩
theorem OwnSeen.below {w w' : World} {lo g : Nat} {bs : List Bool} (h : OwnSeen w lo g bs) (hb : Below w.heap.size w w') : OwnSeen w' lo g bs := own_below h hb (Nat.le_refl _)
theorem OwnSeen.fr {w w' : World} {lo g : Nat} {bs : List Bool} {S : List Nat} (h : OwnSeen w lo g bs) (hf : Fr w w' S) (hS : g ∉ S) : OwnSeen w' lo g bs := rowFrS h hf fun s hs => by
  simp [Value.ownBlock] at hs
  rw [hs]
  exact hS
theorem OwnSeen.lt {w : World} {lo g : Nat} {bs : List Bool} (h : OwnSeen w lo g bs) : lo ≤ g ∧ g < w.heap.size := World.ownsRow.lt h g rfl
theorem OwnSeen.at {w : World} {lo g : Nat} {bs : List Bool} (h : OwnSeen w lo g bs) {p : Nat} (hp : p < bs.length) (v : Bool) :
    w.cell? ⟨g, p, none⟩ = some (.bool bs[p]) ∧ w.frozen? ⟨g, p, none⟩ = false ∧ OwnSeen (w.setCell ⟨g, p, none⟩ (.bool v)) lo g (bs.set p v) ∧ Fr w (w.setCell ⟨g, p, none⟩ (.bool v)) [g] := by
  obtain ⟨hst, hgr⟩ := World.ownsRow.stored h p (.bool v)
  refine ⟨?_, World.ownsRow.frozenAt h p, ?_, Fr.of_grown hgr⟩
  · rw [World.ownsRow.cellAt h p (by rw [Nat.mul_one]; exact hp)]
    simp
  · unfold OwnSeen
    rw [List.length_set, List.map_set]
    exact hst
/-- A row of numbers cut at its end. -/
theorem OwnI.pop {w : World} {lo : Nat} {A : Option Addr} {l : List Int} {a : Int} {c : Nat} (h : OwnI w lo ⟨A, l ++ [a], c⟩) : OwnI w lo ⟨A, l, c⟩ := by
  have hlo := h.lo
  obtain ⟨g, cur, e, h1, h2, h3, h4, h5, h6, h7⟩ := OwnI.blk h (by simp)
  dsimp only at e h1 h2 h3 h4 h5 h6 h7
  rw [List.length_append, List.length_singleton] at h3 h7
  subst e
  unfold OwnI TV.val
  dsimp only
  refine ⟨by rw [intsV_len, Nat.mul_one], .inr ⟨g, c, cur, rfl, h1, h5, by omega, h4, by omega, ?_⟩⟩
  rw [Nat.mul_one]
  have e2 : cur.toList.take l.length = (cur.toList.take (l.length + 1)).take l.length := by rw [List.take_take]; congr 1; omega
  rw [e2, h7]
  unfold intsV
  rw [List.map_append, List.take_left' (by simp)]
/-- A row of numbers cut at its front. -/
def tailA (A : Option Addr) (c : Nat) : Option Addr := if c = 1 then A else A.map fun p => p.add 1
theorem TV.Ok.tail {w : World} {A : Option Addr} {q : Int} {l : List Int} {c : Nat} (h : TV.Ok w ⟨A, q :: l, c⟩) : TV.Ok w ⟨tailA A c, l, c - 1⟩ := by
  have hc := h.cap
  have hs := h.sm
  simp only [List.length_cons] at hc hs
  refine ⟨?_, by dsimp only; omega, by dsimp only; omega⟩
  intro hne
  obtain ⟨b, o, e, hb, hat⟩ := h.rd (by simp [intsV])
  dsimp only at e hne hat ⊢
  have hl : l ≠ [] := fun e => by rw [e] at hne; exact hne rfl
  have hl1 : 0 < l.length := List.length_pos_iff.2 hl
  unfold tailA
  rw [if_neg (by omega), e]
  refine ⟨b, o + 1, by simp [Addr.add], hb, fun j u hj => ?_⟩
  rw [show o + 1 + j = o + (j + 1) by omega]
  exact hat (j + 1) u (by unfold intsV at hj ⊢; rw [List.map_cons, List.getElem?_cons_succ]; exact hj)
/-- A row of rows of numbers, of the call's own; the numbers stand elsewhere. -/
def OwnMore (w : World) (lo g c : Nat) (ms : List TV) : Prop := w.ownsRow lo 31 1 (.slice (some ⟨g, 0, none⟩) ms.length c) ms.length (vals ms)
theorem OwnMore.below {w w' : World} {lo g c : Nat} {ms : List TV} (h : OwnMore w lo g c ms) (hb : Below w.heap.size w w') : OwnMore w' lo g c ms := own_below h hb (Nat.le_refl _)
theorem OwnMore.fr {w w' : World} {lo g c : Nat} {ms : List TV} {S : List Nat} (h : OwnMore w lo g c ms) (hf : Fr w w' S) (hS : g ∉ S) : OwnMore w' lo g c ms := rowFrS h hf fun s hs => by
  simp [Value.ownBlock] at hs
  rw [hs]
  exact hS
theorem OwnMore.lt {w : World} {lo g c : Nat} {ms : List TV} (h : OwnMore w lo g c ms) : lo ≤ g ∧ g < w.heap.size := World.ownsRow.lt h g rfl
theorem OwnMore.at {w : World} {lo g c : Nat} {ms : List TV} (h : OwnMore w lo g c ms) {p : Nat} (hp : p < ms.length) (u : TV) :
    w.cell? ⟨g, p, none⟩ = some (.slice ms[p].A ms[p].l.length ms[p].c) ∧ w.frozen? ⟨g, p, none⟩ = false ∧ OwnMore (w.setCell ⟨g, p, none⟩ (.slice u.A u.l.length u.c)) lo g c (ms.set p u) ∧ Fr w (w.setCell ⟨g, p, none⟩ (.slice u.A u.l.length u.c)) [g] := by
  obtain ⟨hst, hgr⟩ := World.ownsRow.stored h p u.val
  refine ⟨?_, World.ownsRow.frozenAt h p, ?_, Fr.of_grown hgr⟩
  · rw [World.ownsRow.cellAt h p (by rw [Nat.mul_one]; exact hp)]
    simp [vals, TV.val, hp]
  · unfold OwnMore
    rw [List.length_set, vals_set]
    exact hst
end Go.Proofs.Ytmldiojlglpoiaa
/- Rings' rows in memory: a row that is appended to, alone among its like; a row of rows that are not its own. -/
namespace Go.Proofs.Ytmldiojlglpoiaa
open Go.RowKit Go.Maps Go.Sort

/-- A number more at the end of a row of a nest. -/
theorem Nest.app {w : World} {lo g : Nat} {us : List TV} {i : Nat} (h : Nest w lo g us) (hi : i < us.length) (hlo : lo ≤ w.heap.size) (x : Int) (hl : us[i].l.length ≤ 5000) :
    ∃ u : TV, ∃ w1, (Builtin.append_ #[31, 31] 31 #[.slice us[i].A us[i].l.length us[i].c, .slice (some ⟨w.heap.size, 0, none⟩) 1 1]).run Try.prog (w.alloc (.cells #[.int .i64 x] 3)) = .ok (.slice u.A u.l.length u.c) w1 ∧ u.l = us[i].l ++ [x] ∧
      (w1.cell? ⟨g, i, none⟩ = some (.slice us[i].A us[i].l.length us[i].c) ∧ w1.frozen? ⟨g, i, none⟩ = false) ∧ Nest (w1.setCell ⟨g, i, none⟩ (.slice u.A u.l.length u.c)) lo g (us.set i u) ∧ Below lo w (w1.setCell ⟨g, i, none⟩ (.slice u.A u.l.length u.c)) ∧ Fr w (w1.setCell ⟨g, i, none⟩ (.slice u.A u.l.length u.c)) (g :: us[i].val.ownBlock.toList) ∧ Below w.heap.size w (w.alloc (.cells #[.int .i64 x] 3)) ∧ Fr w w1 us[i].val.ownBlock.toList := by
  have hti := h.tup _ (List.getElem_mem hi)
  obtain ⟨u, w1, hrun, hul, hou, hfr, hat, _⟩ := run_appN w lo us[i] [x] hti hlo (by simp; omega)
  have hb1 : Below w.heap.size w (w.alloc (.cells #[.int .i64 x] 3)) := (Below.refl _ _).alloc (Nat.le_refl _) _
  have hf : Fr w w1 us[i].val.ownBlock.toList := (Fr.of_below hb1 _).trans hfr
  have hat' : ∀ b ∈ u.val.ownBlock.toList, b ∈ us[i].val.ownBlock.toList ∨ w.heap.size ≤ b := fun b hb => by
    rcases hat with e | e
    · rw [e] at hb; exact .inl hb
    · rw [e] at hb
      simp at hb
      exact .inr (by omega)
  obtain ⟨h1, h2, h3⟩ := h.put hi hou hf hat'
  exact ⟨u, w1, hrun, hul, h1, h2, h.low hi hlo h3, h3, hb1, hf⟩
/-- A row of rows that stand elsewhere. -/
def RowM (w : World) (lo : Nat) (v : Value) (ys : List TV) : Prop := w.ownsRow lo 31 1 v ys.length (vals ys)
theorem RowM.nil (w : World) (lo : Nat) : RowM w lo (.slice none 0 0) [] := World.ownsRow_nil _ _ _ _
theorem RowM.below {w w' : World} {lo : Nat} {v : Value} {ys : List TV} (h : RowM w lo v ys) (hb : Below w.heap.size w w') : RowM w' lo v ys := own_below h hb (Nat.le_refl _)
theorem RowM.push {w : World} {lo : Nat} {v : Value} {ys : List TV} (h : RowM w lo v ys) (u : TV) (hl : ys.length ≤ 5000) (hlo : lo ≤ w.heap.size) :
    ∃ A5 c5 w5, (Builtin.append_ #[42, 42] 42 #[v, .slice (some ⟨w.heap.size, 0, none⟩) 1 1]).run Try.prog (w.alloc (.cells #[.slice u.A u.l.length u.c] 31)) = .ok (.slice A5 (ys.length + 1) c5) w5 ∧ RowM w5 lo (.slice A5 (ys.length + 1) c5) (ys ++ [u]) ∧ Below lo w w5 ∧ Fr w w5 v.ownBlock.toList := by
  obtain ⟨i0, hi, hz0, hz1, hz2⟩ := info_parts infoRow
  have hb4 : Below w.heap.size w (w.alloc (.cells #[.slice u.A u.l.length u.c] 31)) := (Below.refl _ _).alloc (Nat.le_refl _) _
  have h4 := h.below hb4
  have hrd : Rd (w.alloc (.cells #[.slice u.A u.l.length u.c] 31)) (w.heap.size + 1) (some ⟨w.heap.size, 0, none⟩) (vals [u]) := Rd.new w #[.slice u.A u.l.length u.c] 31 (0, 0)
  obtain ⟨v5, w5, hrun, g1, g2, g3⟩ := run_appR (P := Try.prog) _ lo 42 42 31 i0 _ 1 24 Try.underlying42 hi hz0 hz1 hz2 rfl (by omega) v ys.length (vals ys) h4 (w.heap.size + 1) (some ⟨w.heap.size, 0, none⟩) 1 1 (vals [u]) rfl hrd (vals_one _) (by omega) (by omega) (Nat.le_trans hlo hb4.size)
  rw [← vals_app] at g1
  obtain ⟨A, c, rfl, _, _, _⟩ := own_shape g1
  have hfr := fr_grown g2
  exact ⟨A, c, w5, hrun, by unfold RowM; rw [List.length_append]; exact g1, (lower' hb4 hlo).trans (hfr.below (Nat.le_trans hlo hb4.size) (own_ge h4)), (Fr.of_below hb4 _).trans hfr⟩
/-- Rows by part, of the first k places. -/
def memP (N P : List Int) (k r : Nat) : List Int := ((List.range k).filter fun q => decide (P.getD q (-1) = (r : Int))).map fun q => N.getD q 0
theorem memP_succ (N P : List Int) (k r : Nat) : memP N P (k + 1) r = memP N P k r ++ if P.getD k (-1) = (r : Int) then [N.getD k 0] else [] := by
  unfold memP
  rw [List.range_succ, List.filter_append, List.map_append, List.filter_cons]
  by_cases h : P.getD k (-1) = (r : Int)
  · rw [if_pos h, if_pos (decide_eq_true h)]; rfl
  · rw [if_neg h, if_neg (by simpa using h)]; rfl
theorem memP_len (N P : List Int) (k r : Nat) : (memP N P k r).length ≤ k := by
  unfold memP
  rw [List.length_map]
  have := List.length_filter_le (fun q => decide (P.getD q (-1) = (r : Int))) (List.range k)
  rw [List.length_range] at this
  exact this
def memsP (N P : List Int) (k : Nat) : List Tu := (List.range N.length).map (memP N P k)
theorem memsP_zero (N P : List Int) : memsP N P 0 = List.replicate N.length [] := by
  unfold memsP
  rw [List.eq_replicate_iff]
  exact ⟨by simp, fun x hx => by obtain ⟨p, _, rfl⟩ := List.mem_map.1 hx; rfl⟩
theorem memsP_len (N P : List Int) (k : Nat) : (memsP N P k).length = N.length := by unfold memsP; simp
theorem memsP_at {N P : List Int} {k r : Nat} (h : r < N.length) : (memsP N P k)[r]'(by rw [memsP_len]; exact h) = memP N P k r := by simp [memsP]
theorem memsP_put {N P : List Int} {k r : Nat} (h : P.getD k (-1) = (r : Int)) (hr : r < N.length) : memsP N P (k + 1) = (memsP N P k).set r (memP N P k r ++ [N.getD k 0]) := by
  apply List.ext_getElem
  · rw [List.length_set, memsP_len, memsP_len]
  · intro j h1 h2
    rw [memsP_len] at h1
    rw [List.getElem_set, memsP_at h1, memP_succ]
    by_cases e : r = j
    · subst e; rw [if_pos rfl, if_pos h]
    · rw [if_neg e, if_neg (by omega), memsP_at h1, List.append_nil]
theorem memP_all (N P : List Int) (r : Nat) : memP N P N.length r = partOf N P (r : Int) := rfl
/-- Each place is in a part that is a place's. -/
theorem PartAt.range {O : Rows} {n : Nat} {L : List Nat} {P : List Int} (h : PartAt O n L 0 P) (hL : LeftOk O n L) {p : Nat} (hp : p < n) : ∃ r : Nat, P.getD p (-1) = (r : Int) ∧ r < n := by
  obtain ⟨j, hj, e⟩ := List.getElem_of_mem ((hL.mem p).2 hp)
  have := h.late j hj (Nat.zero_le _)
  rw [e] at this
  obtain ⟨r, h1, h2, _⟩ := h.root p this
  exact ⟨r, h1, h2⟩
theorem part_in {N P : List Int} {p r : Nat} (hp : p < N.length) (h : P.getD p (-1) = (r : Int)) : N.getD p 0 ∈ partOf N P (r : Int) := mem_partOf.2 ⟨p, hp, h, rfl⟩
end Go.Proofs.Ytmldiojlglpoiaa
/- slices.Clone of rows of numbers. -/
namespace Go.Proofs.Ytmldiojlglpoiaa
open Go.RowKit Go.Maps Go.Sort

/-- append of rows onto an empty row just made. -/
theorem run_appM0 (w : World) (x : LV) (hx : x.Ok w) :
    ∃ (v : Value) (w' : World), (Builtin.append_ #[42, 42] 42 #[.slice (some ⟨w.heap.size, 0, none⟩) 0 0, .slice x.A x.ts.length x.c]).run Try.prog (w.alloc (.cells #[] 31)) = .ok v w' ∧ RowM w' w.heap.size v x.ts ∧ Below w.heap.size w w' := by
  obtain ⟨i0, hi, hz0, hz1, hz2⟩ := info_parts infoRow
  have hb : Below w.heap.size w (w.alloc (.cells #[] 31)) := (Below.refl _ _).alloc (Nat.le_refl _) _
  have hrd : Rd (w.alloc (.cells #[] 31)) w.heap.size x.A (vals x.ts) := hx.rd.below hb (Nat.le_refl _)
  have hsm := hx.sm
  obtain ⟨v', w', h1, h2, h3, _⟩ := run_appR (P := Try.prog) (w.alloc (.cells #[] 31)) w.heap.size 42 42 31 i0 _ 1 24 Try.underlying42 hi hz0 hz1 hz2 rfl (by omega) (.slice (some ⟨w.heap.size, 0, none⟩) 0 0) 0 [] (own_lit0' w rfl) w.heap.size x.A x.ts.length x.c (vals x.ts) (by rw [vals_len]; omega) hrd (vals_one _) (by omega) (by omega) hb.size
  rw [Nat.zero_add, List.nil_append] at h2
  exact ⟨v', w', h1, h2, append0_below' rfl h3⟩
theorem isNilR (w : World) (n c : Nat) : (binOp BinOp.eql 42 (.slice none n c) (.slice none 0 0)).run Try.prog w = .ok (.bool true) w := Lib.run_eql_slice_nil w _ _ none n c 0 0 Try.underlying42
theorem notNilR (w : World) (p : Addr) (n c : Nat) : (binOp BinOp.eql 42 (.slice (some p) n c) (.slice none 0 0)).run Try.prog w = .ok (.bool false) w := Lib.run_eql_slice_nil w _ _ (some p) n c 0 0 Try.underlying42
/-- What a Clone of rows answers. -/
def ClPost (x : LV) (w : World) (e : Ending) (w' : World) : Prop := ∃ v, e = .returned v ∧ RowM w' w.heap.size v x.ts ∧ Below w.heap.size w w'
set_option maxRecDepth 100000 in
set_option maxHeartbeats 1000000 in
theorem cloneR_any (x : LV) (w : World) (hx : x.Ok w) : Calls Try.prog 120 #[.slice x.A x.ts.length x.c] w (ClPost x w) := by
  obtain ⟨v', w', hrun, ho, hb⟩ := run_appM0 w x hx
  have hlen : x.A = none → x.ts = [] := fun h => by
    rcases h0 : x.ts with _ | ⟨t, r⟩
    · rfl
    · obtain ⟨b, o, e, _⟩ := Lst.cell hx (k := 0) (by rw [h0]; simp)
      rw [h] at e
      cases e
  have HR := Lib.hid (And.intro ho hb)
  have HL := Lib.hid hlen
  clear hx ho hb hlen
  obtain ⟨xA, xt, xc⟩ := x
  dsimp only at hrun HR HL ⊢
  rcases xA with _ | ad
  · have hnil := isNilR w xt.length xc
    clear hrun
    go_enter Try.func120, Try.ntmps120
    go_wp2_with (fail)
    go_ret
    refine ⟨.slice none 0 0, rfl, ?_, Below.refl _ _⟩
    unfold RowM
    dsimp only
    rw [HL.out (by trivial)]
    exact World.ownsRow_nil _ _ _ _
  · have hnil := notNilR w ad xt.length xc
    go_enter Try.func120, Try.ntmps120
    go_wp2_with (at_builtin; refine wpL_appK _ rfl (.tmp 5) (.tmp 6) 42 rfl rfl _ _ _ _ rfl rfl hrun ?_)
    go_ret
    exact ⟨v', rfl, HR.out.1, HR.out.2⟩
end Go.Proofs.Ytmldiojlglpoiaa
/- left's memory: what it has left, its path, whom it has seen, where it may go yet. -/
namespace Go.Proofs.Ytmldiojlglpoiaa
open Go.RowKit Go.Maps Go.Sort

def rvBox (x : RV) : Obj := .cells #[.slice x.nA x.N.length x.nc, .slice x.o.A x.o.ts.length x.o.c, .slice x.i.A x.i.ts.length x.i.c] 76 (0, 0)
structure LfM (x : RV) (w wr : World) (gs gm cm : Nat) (t3 t4 : TV) (ms : List TV) (S : List Bool) : Prop where
  out : OwnI wr w.heap.size t3
  path : OwnI wr w.heap.size t4
  off : Off t3 t4
  seen : OwnSeen wr w.heap.size gs S
  more : OwnMore wr w.heap.size gm cm ms
  mok : ∀ t ∈ ms, t.Ok w
  bel : Below w.heap.size w wr
  box : wr.heap[w.heap.size]? = some (rvBox x)
theorem LfM.kept {x : RV} {w wr w' : World} {gs gm cm : Nat} {t3 t4 : TV} {ms : List TV} {S : List Bool} (h : LfM x w wr gs gm cm t3 t4 ms S) (hb : Below wr.heap.size wr w') : LfM x w w' gs gm cm t3 t4 ms S :=
  ⟨h.out.below hb, h.path.below hb, h.off, h.seen.below hb, h.more.below hb, h.mok, h.bel.trans (lower' hb h.bel.size), (hb.block _ (heap_lt h.box)).trans h.box⟩
theorem LfM.apB {x : RV} {w wr : World} {gs gm cm : Nat} {t3 t4 : TV} {ms : List TV} {S : List Bool} (h : LfM x w wr gs gm cm t3 t4 ms S) {t : TV} (ht : OwnI wr w.heap.size t) : gs ∉ t.val.ownBlock.toList := fun hm =>
  own_apart ht h.seen (by decide) gs hm (by simp [Value.ownBlock])
theorem LfM.apM {x : RV} {w wr : World} {gs gm cm : Nat} {t3 t4 : TV} {ms : List TV} {S : List Bool} (h : LfM x w wr gs gm cm t3 t4 ms S) {t : TV} (ht : OwnI wr w.heap.size t) : gm ∉ t.val.ownBlock.toList := fun hm =>
  own_apart ht h.more (by decide) gm hm (by simp [Value.ownBlock])
theorem LfM.apMB {x : RV} {w wr : World} {gs gm cm : Nat} {t3 t4 : TV} {ms : List TV} {S : List Bool} (h : LfM x w wr gs gm cm t3 t4 ms S) : gs ≠ gm := fun e =>
  own_apart h.seen h.more (by decide) gs (by simp [Value.ownBlock]) (by rw [e]; simp [Value.ownBlock])
theorem OwnI.frB {w w' : World} {lo g : Nat} {t : TV} (h : OwnI w lo t) (hf : Fr w w' [g]) (hg : g ∉ t.val.ownBlock.toList) : OwnI w' lo t := h.fr hf fun a ha hm => hg ((blk_at t g).2 ⟨a, ha, List.mem_singleton.1 hm⟩)
/-- A place is seen. -/
theorem LfM.mark {x : RV} {w wr : World} {gs gm cm : Nat} {t3 t4 : TV} {ms : List TV} {S : List Bool} (h : LfM x w wr gs gm cm t3 t4 ms S) {q : Nat} (hq : q < S.length) :
    wr.cell? ⟨gs, q, none⟩ = some (.bool S[q]) ∧ wr.frozen? ⟨gs, q, none⟩ = false ∧ LfM x w (wr.setCell ⟨gs, q, none⟩ (.bool true)) gs gm cm t3 t4 ms (S.set q true) := by
  obtain ⟨h1, h2, h3, h4⟩ := h.seen.at hq true
  refine ⟨h1, h2, h.out.frB h4 (h.apB h.out), h.path.frB h4 (h.apB h.path), h.off, h3, h.more.fr h4 (fun hm => h.apMB (List.mem_singleton.1 hm).symm), h.mok, h.bel.trans (h4.below h.bel.size fun z hz => by rw [List.mem_singleton.1 hz]; exact h.seen.lt.1), (h4.block _ (heap_lt h.box) fun hm => row_neq h.seen h.box (by decide) (by rw [List.mem_singleton.1 hm]; simp [Value.ownBlock])).trans h.box⟩
/-- A row of where it may go is cut. -/
theorem LfM.cut {x : RV} {w wr : World} {gs gm cm : Nat} {t3 t4 : TV} {ms : List TV} {S : List Bool} (h : LfM x w wr gs gm cm t3 t4 ms S) {p : Nat} (hp : p < ms.length) {u : TV} (hu : u.Ok w) :
    wr.cell? ⟨gm, p, none⟩ = some (.slice ms[p].A ms[p].l.length ms[p].c) ∧ wr.frozen? ⟨gm, p, none⟩ = false ∧ LfM x w (wr.setCell ⟨gm, p, none⟩ (.slice u.A u.l.length u.c)) gs gm cm t3 t4 (ms.set p u) S := by
  obtain ⟨h1, h2, h3, h4⟩ := h.more.at hp u
  refine ⟨h1, h2, h.out.frB h4 (h.apM h.out), h.path.frB h4 (h.apM h.path), h.off, h.seen.fr h4 (fun hm => h.apMB (List.mem_singleton.1 hm)), h3, fun t ht => ?_, h.bel.trans (h4.below h.bel.size fun z hz => by rw [List.mem_singleton.1 hz]; exact h.more.lt.1), (h4.block _ (heap_lt h.box) fun hm => row_neq h.more h.box (by decide) (by rw [List.mem_singleton.1 hm]; simp [Value.ownBlock])).trans h.box⟩
  rcases List.mem_or_eq_of_mem_set ht with ht | rfl
  · exact h.mok t ht
  · exact hu
theorem off_new {t u u' : TV} {B : Nat} (h : Off t u) (hB : ∀ a, t.A = some a → a.block < B) (hu : u'.val.ownBlock = u.val.ownBlock ∨ u'.val.ownBlock = some (B + 1)) : Off t u' := by
  intro a b ha hb e
  have hm : b.block ∈ u'.val.ownBlock.toList := (blk_at u' b.block).2 ⟨b, hb, rfl⟩
  rcases hu with hu | hu
  · rw [hu] at hm
    obtain ⟨b', hb', e'⟩ := (blk_at u b.block).1 hm
    exact h a b' ha hb' (by rw [e', e])
  · rw [hu] at hm
    have h1 : b.block = B + 1 := by simpa using hm
    have := hB a ha
    omega
/-- A place more on the path. -/
theorem LfM.push {x : RV} {w wr : World} {gs gm cm : Nat} {t3 t4 : TV} {ms : List TV} {S : List Bool} (h : LfM x w wr gs gm cm t3 t4 ms S) (q : Nat) (hl : t4.l.length ≤ 5000) :
    ∃ (u : TV) (w5 : World), (Builtin.append_ #[31, 31] 31 #[.slice t4.A t4.l.length t4.c, .slice (some ⟨wr.heap.size, 0, none⟩) 1 1]).run Try.prog (wr.alloc (.cells #[.int .i64 (q : Int)] 3)) = .ok (.slice u.A u.l.length u.c) w5 ∧ u.l = t4.l ++ [(q : Int)] ∧ LfM x w w5 gs gm cm t3 u ms S := by
  obtain ⟨u, w5, hrun, hul, hou, hfr, hat, hb5⟩ := run_appN wr w.heap.size t4 [(q : Int)] h.path h.bel.size (by simp; omega)
  have hb1 : Below wr.heap.size wr (wr.alloc (.cells (intsV [(q : Int)]).toArray 3)) := (Below.refl _ _).alloc (Nat.le_refl _) _
  have hf : Fr wr w5 t4.val.ownBlock.toList := (Fr.of_below hb1 _).trans hfr
  refine ⟨u, w5, hrun, hul, h.out.fr hf (fun a ha hm => ?_), hou, off_new h.off (fun a ha => (h.out.lo a ha).2) hat, h.seen.fr hf (h.apB h.path), h.more.fr hf (h.apM h.path), h.mok, h.bel.trans hb5, (hf.block _ (heap_lt h.box) fun hm => row_neq h.path h.box (by decide) hm).trans h.box⟩
  obtain ⟨b, hb, e⟩ := (blk_at t4 a.block).1 hm
  exact h.off a b ha hb e.symm
/-- A place is left. -/
theorem LfM.leave {x : RV} {w wr : World} {gs gm cm : Nat} {t3 : TV} {A4 : Option Addr} {l4 : List Int} {c4 : Nat} {ms : List TV} {S : List Bool} {a : Nat} (h : LfM x w wr gs gm cm t3 ⟨A4, l4 ++ [(a : Int)], c4⟩ ms S) (hl : t3.l.length ≤ 5000) :
    ∃ (u : TV) (w5 : World), (Builtin.append_ #[31, 31] 31 #[.slice t3.A t3.l.length t3.c, .slice (some ⟨wr.heap.size, 0, none⟩) 1 1]).run Try.prog (wr.alloc (.cells #[.int .i64 (a : Int)] 3)) = .ok (.slice u.A u.l.length u.c) w5 ∧ u.l = t3.l ++ [(a : Int)] ∧ LfM x w w5 gs gm cm u ⟨A4, l4, c4⟩ ms S := by
  obtain ⟨u, w5, hrun, hul, hou, hfr, hat, hb5⟩ := run_appN wr w.heap.size t3 [(a : Int)] h.out h.bel.size (by simp; omega)
  have hb1 : Below wr.heap.size wr (wr.alloc (.cells (intsV [(a : Int)]).toArray 3)) := (Below.refl _ _).alloc (Nat.le_refl _) _
  have hf : Fr wr w5 t3.val.ownBlock.toList := (Fr.of_below hb1 _).trans hfr
  have hoff : Off u ⟨A4, l4 ++ [(a : Int)], c4⟩ := Off.symm (off_new h.off.symm (fun a ha => (h.path.lo a ha).2) hat)
  refine ⟨u, w5, hrun, hul, hou, (h.path.fr hf (fun a ha hm => ?_)).pop, fun a b ha hb => hoff a b ha hb, h.seen.fr hf (h.apB h.out), h.more.fr hf (h.apM h.out), h.mok, h.bel.trans hb5, (hf.block _ (heap_lt h.box) fun hm => row_neq h.out h.box (by decide) hm).trans h.box⟩
  obtain ⟨b, hb, e⟩ := (blk_at t3 a.block).1 hm
  exact h.off b a hb ha e
/-- Whom the walk has seen. -/
structure LfD (O : Rows) (n : Nat) (L R : List Nat) (ms : List TV) (S : List Bool) : Prop where
  dfs : Dfs O n L R (plR ms)
  len : S.length = n
  seen : ∀ q, q < n → (S.getD q false = true ↔ q ∈ L ++ R)
  bnd : ∀ t ∈ ms, ∀ v ∈ t.l, 0 ≤ v ∧ v < (n : Int)
theorem getD_setB {S : List Bool} {a : Nat} {v : Bool} (ha : a < S.length) (p : Nat) : (S.set a v).getD p false = if p = a then v else S.getD p false := by
  rw [List.getD_eq_getElem?_getD, List.getElem?_set, List.getD_eq_getElem?_getD]
  by_cases e : a = p
  · subst e; rw [if_pos rfl, if_pos ha, if_pos rfl]; rfl
  · rw [if_neg e, if_neg (fun h => e h.symm)]
theorem plR_set (ms : List TV) (p : Nat) (u : TV) : plR (ms.set p u) = (plR ms).set p (u.l.map Int.toNat) := by unfold plR; rw [List.map_set]
theorem LfD.mlen {O : Rows} {n : Nat} {L R : List Nat} {ms : List TV} {S : List Bool} (h : LfD O n L R ms S) : ms.length = n := by have := h.dfs.ml; unfold plR at this; rwa [List.length_map] at this
theorem LfD.at {O : Rows} {n : Nat} {L R : List Nat} {ms : List TV} {S : List Bool} (h : LfD O n L R ms S) {q : Nat} (hq : q < n) : S[q]'(by rw [h.len]; exact hq) = true ↔ q ∈ L ++ R := by
  have h1 := h.seen q hq
  rw [List.getD_eq_getElem?_getD, List.getElem?_eq_getElem (by rw [h.len]; exact hq), Option.getD_some] at h1
  exact h1
theorem LfD.push {O : Rows} {n : Nat} {L : List Nat} {ms : List TV} {S : List Bool} (h : LfD O n L [] ms S) {q : Nat} (hq : q < n) (hn : q ∉ L) : LfD O n L [q] ms (S.set q true) := by
  refine ⟨h.dfs.push hq hn, by rw [List.length_set]; exact h.len, fun z hz => ?_, h.bnd⟩
  have h1 := h.seen z hz
  rw [List.append_nil] at h1
  rw [getD_setB (by rw [h.len]; exact hq)]
  by_cases e : z = q
  · subst e; simp
  · rw [if_neg e, h1]; simp [e]
theorem LfD.leave {O : Rows} {n a : Nat} {L R : List Nat} {ms : List TV} {S : List Bool} (h : LfD O n L (a :: R) ms S) (ha : a < ms.length) (hm : ms[a].l = []) : LfD O n (L ++ [a]) R ms S :=
  ⟨h.dfs.leave (by rw [plR_at ha, hm]; rfl), h.len, fun z hz => by rw [h.seen z hz]; simp, h.bnd⟩
theorem LfD.skip {O : Rows} {n a q : Nat} {L R : List Nat} {ms : List TV} {S : List Bool} (h : LfD O n L (a :: R) ms S) (ha : a < ms.length) {u : TV} (hm : ms[a].l = (q : Int) :: u.l) (hq : q ∈ L ++ (a :: R)) : LfD O n L (a :: R) (ms.set a u) S := by
  refine ⟨?_, h.len, h.seen, fun t ht => ?_⟩
  · rw [plR_set]
    exact h.dfs.skip (q := q) (by rw [plR_at ha, hm]; simp) hq
  · rcases List.mem_or_eq_of_mem_set ht with ht | rfl
    · exact h.bnd t ht
    · exact fun v hv => h.bnd _ (List.getElem_mem ha) v (by rw [hm]; exact List.mem_cons_of_mem _ hv)
theorem LfD.go {O : Rows} {n a q : Nat} {L R : List Nat} {ms : List TV} {S : List Bool} (h : LfD O n L (a :: R) ms S) (ha : a < ms.length) {u : TV} (hm : ms[a].l = (q : Int) :: u.l) (hqn : q < n) (hq : q ∉ L ++ (a :: R)) : LfD O n L (q :: a :: R) (ms.set a u) (S.set q true) := by
  refine ⟨?_, by rw [List.length_set]; exact h.len, fun z hz => ?_, fun t ht => ?_⟩
  · rw [plR_set]
    exact h.dfs.go (q := q) (by rw [plR_at ha, hm]; simp) hqn hq
  · rw [getD_setB (by rw [h.len]; exact hqn)]
    by_cases e : z = q
    · subst e; simp
    · rw [if_neg e, h.seen z hz]
      simp [e]
  · rcases List.mem_or_eq_of_mem_set ht with ht | rfl
    · exact h.bnd t ht
    · exact fun v hv => h.bnd _ (List.getElem_mem ha) v (by rw [hm]; exact List.mem_cons_of_mem _ hv)
theorem leftM_cut {ms : List TV} {a q : Nat} {u : TV} (ha : a < ms.length) (hm : ms[a].l = (q : Int) :: u.l) (R : List Nat) : leftM (plR (ms.set a u)) R + 2 = leftM (plR ms) R := by
  have h1 := sum_set (M := plR ms) (a := a) (q := q) (m := u.l.map Int.toNat) (by rw [plR_at ha, hm]; simp)
  unfold leftM
  rw [plR_set]
  omega
end Go.Proofs.Ytmldiojlglpoiaa
