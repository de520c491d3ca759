/- Joined: SpLE SpLF. -/
import Derived.Test.YtmldiojlglpoiaaJnM
/- slices.Clone of rows of numbers. -/
namespace Go.Proofs.Ytmldiojlglpoiaa
open Go.RowKit Go.Maps Go.Sort

/-- append of rows onto an empty row just made. -/
theorem run_appM0 (w : World) (x : LV) (hx : x.Ok w) :
    ∃ (v : Value) (w' : World), (Builtin.append_ #[42, 42] 42 #[.slice (some ⟨w.heap.size, 0, none⟩) 0 0, .slice x.A x.ts.length x.c]).run Try.prog (w.alloc (.cells #[] 31)) = .ok v w' ∧ RowM w' w.heap.size v x.ts ∧ Below w.heap.size w w' := by
  obtain ⟨i0, hi, hz0, hz1, hz2⟩ := info_parts infoRow
  have hb : Below w.heap.size w (w.alloc (.cells #[] 31)) := (Below.refl _ _).alloc (Nat.le_refl _) _
  have hrd : Rd (w.alloc (.cells #[] 31)) w.heap.size x.A (vals x.ts) := hx.rd.below hb (Nat.le_refl _)
  have hsm := hx.sm
  obtain ⟨v', w', h1, h2, h3, _⟩ := run_appR (P := Try.prog) (w.alloc (.cells #[] 31)) w.heap.size 42 42 31 i0 _ 1 24 Try.underlying42 hi hz0 hz1 hz2 rfl (by omega) (.slice (some ⟨w.heap.size, 0, none⟩) 0 0) 0 [] (own_lit0' w rfl) w.heap.size x.A x.ts.length x.c (vals x.ts) (by rw [vals_len]; omega) hrd (vals_one _) (by omega) (by omega) hb.size
  rw [Nat.zero_add, List.nil_append] at h2
  exact ⟨v', w', h1, h2, append0_below' rfl h3⟩
theorem isNilR (w : World) (n c : Nat) : (binOp BinOp.eql 42 (.slice none n c) (.slice none 0 0)).run Try.prog w = .ok (.bool true) w := Lib.run_eql_slice_nil w _ _ none n c 0 0 Try.underlying42
theorem notNilR (w : World) (p : Addr) (n c : Nat) : (binOp BinOp.eql 42 (.slice (some p) n c) (.slice none 0 0)).run Try.prog w = .ok (.bool false) w := Lib.run_eql_slice_nil w _ _ (some p) n c 0 0 Try.underlying42
/-- What a Clone of rows answers. -/
def ClPost (x : LV) (w : World) (e : Ending) (w' : World) : Prop := ∃ v, e = .returned v ∧ RowM w' w.heap.size v x.ts ∧ Below w.heap.size w w'
set_option maxRecDepth 100000 in
set_option maxHeartbeats 1000000 in
theorem cloneR_any (x : LV) (w : World) (hx : x.Ok w) : Calls Try.prog 120 #[.slice x.A x.ts.length x.c] w (ClPost x w) := by
  obtain ⟨v', w', hrun, ho, hb⟩ := run_appM0 w x hx
  have hlen : x.A = none → x.ts = [] := fun h => by
    rcases h0 : x.ts with _ | ⟨t, r⟩
    · rfl
    · obtain ⟨b, o, e, _⟩ := Lst.cell hx (k := 0) (by rw [h0]; simp)
      rw [h] at e
      cases e
  have HR := Lib.hid (And.intro ho hb)
  have HL := Lib.hid hlen
  clear hx ho hb hlen
  obtain ⟨xA, xt, xc⟩ := x
  dsimp only at hrun HR HL ⊢
  rcases xA with _ | ad
  · have hnil := isNilR w xt.length xc
    clear hrun
    go_enter Try.func120, Try.ntmps120
    go_wp2_with (fail)
    go_ret
    refine ⟨.slice none 0 0, rfl, ?_, Below.refl _ _⟩
    unfold RowM
    dsimp only
    rw [HL.out (by trivial)]
    exact World.ownsRow_nil _ _ _ _
  · have hnil := notNilR w ad xt.length xc
    go_enter Try.func120, Try.ntmps120
    go_wp2_with (at_builtin; refine wpL_appK _ rfl (.tmp 5) (.tmp 6) 42 rfl rfl _ _ _ _ rfl rfl hrun ?_)
    go_ret
    exact ⟨v', rfl, HR.out.1, HR.out.2⟩
end Go.Proofs.Ytmldiojlglpoiaa
/- left's memory: what it has left, its path, whom it has seen, where it may go yet. -/
namespace Go.Proofs.Ytmldiojlglpoiaa
open Go.RowKit Go.Maps Go.Sort

def rvBox (x : RV) : Obj := .cells #[.slice x.nA x.N.length x.nc, .slice x.o.A x.o.ts.length x.o.c, .slice x.i.A x.i.ts.length x.i.c] 76 (0, 0)
structure LfM (x : RV) (w wr : World) (gs gm cm : Nat) (t3 t4 : TV) (ms : List TV) (S : List Bool) : Prop where
  out : OwnI wr w.heap.size t3
  path : OwnI wr w.heap.size t4
  off : Off t3 t4
  seen : OwnSeen wr w.heap.size gs S
  more : OwnMore wr w.heap.size gm cm ms
  mok : ∀ t ∈ ms, t.Ok w
  bel : Below w.heap.size w wr
  box : wr.heap[w.heap.size]? = some (rvBox x)
theorem LfM.kept {x : RV} {w wr w' : World} {gs gm cm : Nat} {t3 t4 : TV} {ms : List TV} {S : List Bool} (h : LfM x w wr gs gm cm t3 t4 ms S) (hb : Below wr.heap.size wr w') : LfM x w w' gs gm cm t3 t4 ms S :=
  ⟨h.out.below hb, h.path.below hb, h.off, h.seen.below hb, h.more.below hb, h.mok, h.bel.trans (lower' hb h.bel.size), (hb.block _ (heap_lt h.box)).trans h.box⟩
theorem LfM.apB {x : RV} {w wr : World} {gs gm cm : Nat} {t3 t4 : TV} {ms : List TV} {S : List Bool} (h : LfM x w wr gs gm cm t3 t4 ms S) {t : TV} (ht : OwnI wr w.heap.size t) : gs ∉ t.val.ownBlock.toList := fun hm =>
  own_apart ht h.seen (by decide) gs hm (by simp [Value.ownBlock])
theorem LfM.apM {x : RV} {w wr : World} {gs gm cm : Nat} {t3 t4 : TV} {ms : List TV} {S : List Bool} (h : LfM x w wr gs gm cm t3 t4 ms S) {t : TV} (ht : OwnI wr w.heap.size t) : gm ∉ t.val.ownBlock.toList := fun hm =>
  own_apart ht h.more (by decide) gm hm (by simp [Value.ownBlock])
theorem LfM.apMB {x : RV} {w wr : World} {gs gm cm : Nat} {t3 t4 : TV} {ms : List TV} {S : List Bool} (h : LfM x w wr gs gm cm t3 t4 ms S) : gs ≠ gm := fun e =>
  own_apart h.seen h.more (by decide) gs (by simp [Value.ownBlock]) (by rw [e]; simp [Value.ownBlock])
theorem OwnI.frB {w w' : World} {lo g : Nat} {t : TV} (h : OwnI w lo t) (hf : Fr w w' [g]) (hg : g ∉ t.val.ownBlock.toList) : OwnI w' lo t := h.fr hf fun a ha hm => hg ((blk_at t g).2 ⟨a, ha, List.mem_singleton.1 hm⟩)
/-- A place is seen. -/
theorem LfM.mark {x : RV} {w wr : World} {gs gm cm : Nat} {t3 t4 : TV} {ms : List TV} {S : List Bool} (h : LfM x w wr gs gm cm t3 t4 ms S) {q : Nat} (hq : q < S.length) :
    wr.cell? ⟨gs, q, none⟩ = some (.bool S[q]) ∧ wr.frozen? ⟨gs, q, none⟩ = false ∧ LfM x w (wr.setCell ⟨gs, q, none⟩ (.bool true)) gs gm cm t3 t4 ms (S.set q true) := by
  obtain ⟨h1, h2, h3, h4⟩ := h.seen.at hq true
  refine ⟨h1, h2, h.out.frB h4 (h.apB h.out), h.path.frB h4 (h.apB h.path), h.off, h3, h.more.fr h4 (fun hm => h.apMB (List.mem_singleton.1 hm).symm), h.mok, h.bel.trans (h4.below h.bel.size fun z hz => by rw [List.mem_singleton.1 hz]; exact h.seen.lt.1), (h4.block _ (heap_lt h.box) fun hm => row_neq h.seen h.box (by decide) (by rw [List.mem_singleton.1 hm]; simp [Value.ownBlock])).trans h.box⟩
/-- A row of where it may go is cut. -/
theorem LfM.cut {x : RV} {w wr : World} {gs gm cm : Nat} {t3 t4 : TV} {ms : List TV} {S : List Bool} (h : LfM x w wr gs gm cm t3 t4 ms S) {p : Nat} (hp : p < ms.length) {u : TV} (hu : u.Ok w) :
    wr.cell? ⟨gm, p, none⟩ = some (.slice ms[p].A ms[p].l.length ms[p].c) ∧ wr.frozen? ⟨gm, p, none⟩ = false ∧ LfM x w (wr.setCell ⟨gm, p, none⟩ (.slice u.A u.l.length u.c)) gs gm cm t3 t4 (ms.set p u) S := by
  obtain ⟨h1, h2, h3, h4⟩ := h.more.at hp u
  refine ⟨h1, h2, h.out.frB h4 (h.apM h.out), h.path.frB h4 (h.apM h.path), h.off, h.seen.fr h4 (fun hm => h.apMB (List.mem_singleton.1 hm)), h3, fun t ht => ?_, h.bel.trans (h4.below h.bel.size fun z hz => by rw [List.mem_singleton.1 hz]; exact h.more.lt.1), (h4.block _ (heap_lt h.box) fun hm => row_neq h.more h.box (by decide) (by rw [List.mem_singleton.1 hm]; simp [Value.ownBlock])).trans h.box⟩
  rcases List.mem_or_eq_of_mem_set ht with ht | rfl
  · exact h.mok t ht
  · exact hu
theorem off_new {t u u' : TV} {B : Nat} (h : Off t u) (hB : ∀ a, t.A = some a → a.block < B) (hu : u'.val.ownBlock = u.val.ownBlock ∨ u'.val.ownBlock = some (B + 1)) : Off t u' := by
  intro a b ha hb e
  have hm : b.block ∈ u'.val.ownBlock.toList := (blk_at u' b.block).2 ⟨b, hb, rfl⟩
  rcases hu with hu | hu
  · rw [hu] at hm
    obtain ⟨b', hb', e'⟩ := (blk_at u b.block).1 hm
    exact h a b' ha hb' (by rw [e', e])
  · rw [hu] at hm
    have h1 : b.block = B + 1 := by simpa using hm
    have := hB a ha
    omega
/-- A place more on the path. -/
theorem LfM.push {x : RV} {w wr : World} {gs gm cm : Nat} {t3 t4 : TV} {ms : List TV} {S : List Bool} (h : LfM x w wr gs gm cm t3 t4 ms S) (q : Nat) (hl : t4.l.length ≤ 5000) :
    ∃ (u : TV) (w5 : World), (Builtin.append_ #[31, 31] 31 #[.slice t4.A t4.l.length t4.c, .slice (some ⟨wr.heap.size, 0, none⟩) 1 1]).run Try.prog (wr.alloc (.cells #[.int .i64 (q : Int)] 3)) = .ok (.slice u.A u.l.length u.c) w5 ∧ u.l = t4.l ++ [(q : Int)] ∧ LfM x w w5 gs gm cm t3 u ms S := by
  obtain ⟨u, w5, hrun, hul, hou, hfr, hat, hb5⟩ := run_appN wr w.heap.size t4 [(q : Int)] h.path h.bel.size (by simp; omega)
  have hb1 : Below wr.heap.size wr (wr.alloc (.cells (intsV [(q : Int)]).toArray 3)) := (Below.refl _ _).alloc (Nat.le_refl _) _
  have hf : Fr wr w5 t4.val.ownBlock.toList := (Fr.of_below hb1 _).trans hfr
  refine ⟨u, w5, hrun, hul, h.out.fr hf (fun a ha hm => ?_), hou, off_new h.off (fun a ha => (h.out.lo a ha).2) hat, h.seen.fr hf (h.apB h.path), h.more.fr hf (h.apM h.path), h.mok, h.bel.trans hb5, (hf.block _ (heap_lt h.box) fun hm => row_neq h.path h.box (by decide) hm).trans h.box⟩
  obtain ⟨b, hb, e⟩ := (blk_at t4 a.block).1 hm
  exact h.off a b ha hb e.symm
/-- A place is left. -/
theorem LfM.leave {x : RV} {w wr : World} {gs gm cm : Nat} {t3 : TV} {A4 : Option Addr} {l4 : List Int} {c4 : Nat} {ms : List TV} {S : List Bool} {a : Nat} (h : LfM x w wr gs gm cm t3 ⟨A4, l4 ++ [(a : Int)], c4⟩ ms S) (hl : t3.l.length ≤ 5000) :
    ∃ (u : TV) (w5 : World), (Builtin.append_ #[31, 31] 31 #[.slice t3.A t3.l.length t3.c, .slice (some ⟨wr.heap.size, 0, none⟩) 1 1]).run Try.prog (wr.alloc (.cells #[.int .i64 (a : Int)] 3)) = .ok (.slice u.A u.l.length u.c) w5 ∧ u.l = t3.l ++ [(a : Int)] ∧ LfM x w w5 gs gm cm u ⟨A4, l4, c4⟩ ms S := by
  obtain ⟨u, w5, hrun, hul, hou, hfr, hat, hb5⟩ := run_appN wr w.heap.size t3 [(a : Int)] h.out h.bel.size (by simp; omega)
  have hb1 : Below wr.heap.size wr (wr.alloc (.cells (intsV [(a : Int)]).toArray 3)) := (Below.refl _ _).alloc (Nat.le_refl _) _
  have hf : Fr wr w5 t3.val.ownBlock.toList := (Fr.of_below hb1 _).trans hfr
  have hoff : Off u ⟨A4, l4 ++ [(a : Int)], c4⟩ := Off.symm (off_new h.off.symm (fun a ha => (h.path.lo a ha).2) hat)
  refine ⟨u, w5, hrun, hul, hou, (h.path.fr hf (fun a ha hm => ?_)).pop, fun a b ha hb => hoff a b ha hb, h.seen.fr hf (h.apB h.out), h.more.fr hf (h.apM h.out), h.mok, h.bel.trans hb5, (hf.block _ (heap_lt h.box) fun hm => row_neq h.out h.box (by decide) hm).trans h.box⟩
  obtain ⟨b, hb, e⟩ := (blk_at t3 a.block).1 hm
  exact h.off b a hb ha e
/-- Whom the walk has seen. -/
structure LfD (O : Rows) (n : Nat) (L R : List Nat) (ms : List TV) (S : List Bool) : Prop where
  dfs : Dfs O n L R (plR ms)
  len : S.length = n
  seen : ∀ q, q < n → (S.getD q false = true ↔ q ∈ L ++ R)
  bnd : ∀ t ∈ ms, ∀ v ∈ t.l, 0 ≤ v ∧ v < (n : Int)
theorem getD_setB {S : List Bool} {a : Nat} {v : Bool} (ha : a < S.length) (p : Nat) : (S.set a v).getD p false = if p = a then v else S.getD p false := by
  rw [List.getD_eq_getElem?_getD, List.getElem?_set, List.getD_eq_getElem?_getD]
  by_cases e : a = p
  · subst e; rw [if_pos rfl, if_pos ha, if_pos rfl]; rfl
  · rw [if_neg e, if_neg (fun h => e h.symm)]
theorem plR_set (ms : List TV) (p : Nat) (u : TV) : plR (ms.set p u) = (plR ms).set p (u.l.map Int.toNat) := by unfold plR; rw [List.map_set]
theorem LfD.mlen {O : Rows} {n : Nat} {L R : List Nat} {ms : List TV} {S : List Bool} (h : LfD O n L R ms S) : ms.length = n := by have := h.dfs.ml; unfold plR at this; rwa [List.length_map] at this
theorem LfD.at {O : Rows} {n : Nat} {L R : List Nat} {ms : List TV} {S : List Bool} (h : LfD O n L R ms S) {q : Nat} (hq : q < n) : S[q]'(by rw [h.len]; exact hq) = true ↔ q ∈ L ++ R := by
  have h1 := h.seen q hq
  rw [List.getD_eq_getElem?_getD, List.getElem?_eq_getElem (by rw [h.len]; exact hq), Option.getD_some] at h1
  exact h1
theorem LfD.push {O : Rows} {n : Nat} {L : List Nat} {ms : List TV} {S : List Bool} (h : LfD O n L [] ms S) {q : Nat} (hq : q < n) (hn : q ∉ L) : LfD O n L [q] ms (S.set q true) := by
  refine ⟨h.dfs.push hq hn, by rw [List.length_set]; exact h.len, fun z hz => ?_, h.bnd⟩
  have h1 := h.seen z hz
  rw [List.append_nil] at h1
  rw [getD_setB (by rw [h.len]; exact hq)]
  by_cases e : z = q
  · subst e; simp
  · rw [if_neg e, h1]; simp [e]
theorem LfD.leave {O : Rows} {n a : Nat} {L R : List Nat} {ms : List TV} {S : List Bool} (h : LfD O n L (a :: R) ms S) (ha : a < ms.length) (hm : ms[a].l = []) : LfD O n (L ++ [a]) R ms S :=
  ⟨h.dfs.leave (by rw [plR_at ha, hm]; rfl), h.len, fun z hz => by rw [h.seen z hz]; simp, h.bnd⟩
theorem LfD.skip {O : Rows} {n a q : Nat} {L R : List Nat} {ms : List TV} {S : List Bool} (h : LfD O n L (a :: R) ms S) (ha : a < ms.length) {u : TV} (hm : ms[a].l = (q : Int) :: u.l) (hq : q ∈ L ++ (a :: R)) : LfD O n L (a :: R) (ms.set a u) S := by
  refine ⟨?_, h.len, h.seen, fun t ht => ?_⟩
  · rw [plR_set]
    exact h.dfs.skip (q := q) (by rw [plR_at ha, hm]; simp) hq
  · rcases List.mem_or_eq_of_mem_set ht with ht | rfl
    · exact h.bnd t ht
    · exact fun v hv => h.bnd _ (List.getElem_mem ha) v (by rw [hm]; exact List.mem_cons_of_mem _ hv)
theorem LfD.go {O : Rows} {n a q : Nat} {L R : List Nat} {ms : List TV} {S : List Bool} (h : LfD O n L (a :: R) ms S) (ha : a < ms.length) {u : TV} (hm : ms[a].l = (q : Int) :: u.l) (hqn : q < n) (hq : q ∉ L ++ (a :: R)) : LfD O n L (q :: a :: R) (ms.set a u) (S.set q true) := by
  refine ⟨?_, by rw [List.length_set]; exact h.len, fun z hz => ?_, fun t ht => ?_⟩
  · rw [plR_set]
    exact h.dfs.go (q := q) (by rw [plR_at ha, hm]; simp) hqn hq
  · rw [getD_setB (by rw [h.len]; exact hqn)]
    by_cases e : z = q
    · subst e; simp
    · rw [if_neg e, h.seen z hz]
      simp [e]
  · rcases List.mem_or_eq_of_mem_set ht with ht | rfl
    · exact h.bnd t ht
    · exact fun v hv => h.bnd _ (List.getElem_mem ha) v (by rw [hm]; exact List.mem_cons_of_mem _ hv)
theorem leftM_cut {ms : List TV} {a q : Nat} {u : TV} (ha : a < ms.length) (hm : ms[a].l = (q : Int) :: u.l) (R : List Nat) : leftM (plR (ms.set a u)) R + 2 = leftM (plR ms) R := by
  have h1 := sum_set (M := plR ms) (a := a) (q := q) (m := u.l.map Int.toNat) (by rw [plR_at ha, hm]; simp)
  unfold leftM
  rw [plR_set]
  omega
end Go.Proofs.Ytmldiojlglpoiaa
