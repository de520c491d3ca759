/- Joined: SpLE SpLF SpLG. -/
import Derived.Test.YtgjjdmkoamjdpaaSpLD
/- slices.Clone of rows of numbers. -/
namespace Go.Proofs.Ytgjjdmkoamjdpaa
open Go.RowKit Go.Maps Go.Sort

/-- append of rows onto an empty row just made. -/
theorem run_appM0 (w : World) (x : LV) (hx : x.Ok w) :
    ∃ (v : Value) (w' : World), (Builtin.append_ #[38, 38] 38 #[.slice (some ⟨w.heap.size, 0, none⟩) 0 0, .slice x.A x.ts.length x.c]).run Try.prog (w.alloc (.cells #[] 25)) = .ok v w' ∧ RowM w' w.heap.size v x.ts ∧ Below w.heap.size w w' := by
  obtain ⟨i0, hi, hz0, hz1, hz2⟩ := info_parts infoRow
  have hb : Below w.heap.size w (w.alloc (.cells #[] 25)) := (Below.refl _ _).alloc (Nat.le_refl _) _
  have hrd : Rd (w.alloc (.cells #[] 25)) w.heap.size x.A (vals x.ts) := hx.rd.below hb (Nat.le_refl _)
  have hsm := hx.sm
  obtain ⟨v', w', h1, h2, h3, _⟩ := run_appR (P := Try.prog) (w.alloc (.cells #[] 25)) w.heap.size 38 38 25 i0 _ 1 24 Try.underlying38 hi hz0 hz1 hz2 rfl (by omega) (.slice (some ⟨w.heap.size, 0, none⟩) 0 0) 0 [] (own_lit0' w rfl) w.heap.size x.A x.ts.length x.c (vals x.ts) (by rw [vals_len]; omega) hrd (vals_one _) (by omega) (by omega) hb.size
  rw [Nat.zero_add, List.nil_append] at h2
  exact ⟨v', w', h1, h2, append0_below' rfl h3⟩
theorem isNilR (w : World) (n c : Nat) : (binOp BinOp.eql 38 (.slice none n c) (.slice none 0 0)).run Try.prog w = .ok (.bool true) w := Lib.run_eql_slice_nil w _ _ none n c 0 0 Try.underlying38
theorem notNilR (w : World) (p : Addr) (n c : Nat) : (binOp BinOp.eql 38 (.slice (some p) n c) (.slice none 0 0)).run Try.prog w = .ok (.bool false) w := Lib.run_eql_slice_nil w _ _ (some p) n c 0 0 Try.underlying38
/-- What a Clone of rows answers. -/
def ClPost (x : LV) (w : World) (e : Ending) (w' : World) : Prop := ∃ v, e = .returned v ∧ RowM w' w.heap.size v x.ts ∧ Below w.heap.size w w'
set_option maxRecDepth 100000 in
set_option maxHeartbeats 1000000 in
theorem cloneR_any (x : LV) (w : World) (hx : x.Ok w) : Calls Try.prog 61 #[.slice x.A x.ts.length x.c] w (ClPost x w) := by
  obtain ⟨v', w', hrun, ho, hb⟩ := run_appM0 w x hx
  have hlen : x.A = none → x.ts = [] := fun h => by
    rcases h0 : x.ts with _ | ⟨t, r⟩
    · rfl
    · obtain ⟨b, o, e, _⟩ := Lst.cell hx (k := 0) (by rw [h0]; simp)
      rw [h] at e
      cases e
  have HR := Lib.hid (And.intro ho hb)
  have HL := Lib.hid hlen
  clear hx ho hb hlen
  obtain ⟨xA, xt, xc⟩ := x
  dsimp only at hrun HR HL ⊢
  rcases xA with _ | ad
  · have hnil := isNilR w xt.length xc
    clear hrun
    go_enter Try.func61, Try.ntmps61
    go_wp2_with (fail)
    go_ret
    refine ⟨.slice none 0 0, rfl, ?_, Below.refl _ _⟩
    unfold RowM
    dsimp only
    rw [HL.out (by trivial)]
    exact World.ownsRow_nil _ _ _ _
  · have hnil := notNilR w ad xt.length xc
    go_enter Try.func61, Try.ntmps61
    go_wp2_with (at_builtin; refine wpL_appK _ rfl (.tmp 5) (.tmp 6) 38 rfl rfl _ _ _ _ rfl rfl hrun ?_)
    go_ret
    exact ⟨v', rfl, HR.out.1, HR.out.2⟩
end Go.Proofs.Ytgjjdmkoamjdpaa
/- left's memory: what it has left, its path, whom it has seen, where it may go yet. -/
namespace Go.Proofs.Ytgjjdmkoamjdpaa
open Go.RowKit Go.Maps Go.Sort

def rvBox (x : RV) : Obj := .cells #[.slice x.nA x.N.length x.nc, .slice x.o.A x.o.ts.length x.o.c, .slice x.i.A x.i.ts.length x.i.c] 43 (0, 0)
structure LfM (x : RV) (w wr : World) (gs gm cm : Nat) (t3 t4 : TV) (ms : List TV) (S : List Bool) : Prop where
  out : OwnI wr w.heap.size t3
  path : OwnI wr w.heap.size t4
  off : Off t3 t4
  seen : OwnSeen wr w.heap.size gs S
  more : OwnMore wr w.heap.size gm cm ms
  mok : ∀ t ∈ ms, t.Ok w
  bel : Below w.heap.size w wr
  box : wr.heap[w.heap.size]? = some (rvBox x)
theorem LfM.kept {x : RV} {w wr w' : World} {gs gm cm : Nat} {t3 t4 : TV} {ms : List TV} {S : List Bool} (h : LfM x w wr gs gm cm t3 t4 ms S) (hb : Below wr.heap.size wr w') : LfM x w w' gs gm cm t3 t4 ms S :=
  ⟨h.out.below hb, h.path.below hb, h.off, h.seen.below hb, h.more.below hb, h.mok, h.bel.trans (lower' hb h.bel.size), (hb.block _ (heap_lt h.box)).trans h.box⟩
theorem LfM.apB {x : RV} {w wr : World} {gs gm cm : Nat} {t3 t4 : TV} {ms : List TV} {S : List Bool} (h : LfM x w wr gs gm cm t3 t4 ms S) {t : TV} (ht : OwnI wr w.heap.size t) : gs ∉ t.val.ownBlock.toList := fun hm =>
  own_apart ht h.seen (by decide) gs hm (by simp [Value.ownBlock])
theorem LfM.apM {x : RV} {w wr : World} {gs gm cm : Nat} {t3 t4 : TV} {ms : List TV} {S : List Bool} (h : LfM x w wr gs gm cm t3 t4 ms S) {t : TV} (ht : OwnI wr w.heap.size t) : gm ∉ t.val.ownBlock.toList := fun hm =>
  own_apart ht h.more (by decide) gm hm (by simp [Value.ownBlock])
theorem LfM.apMB {x : RV} {w wr : World} {gs gm cm : Nat} {t3 t4 : TV} {ms : List TV} {S : List Bool} (h : LfM x w wr gs gm cm t3 t4 ms S) : gs ≠ gm := fun e =>
  own_apart h.seen h.more (by decide) gs (by simp [Value.ownBlock]) (by rw [e]; simp [Value.ownBlock])
theorem OwnI.frB {w w' : World} {lo g : Nat} {t : TV} (h : OwnI w lo t) (hf : Fr w w' [g]) (hg : g ∉ t.val.ownBlock.toList) : OwnI w' lo t := h.fr hf fun a ha hm => hg ((blk_at t g).2 ⟨a, ha, List.mem_singleton.1 hm⟩)
/-- A place is seen. -/
theorem LfM.mark {x : RV} {w wr : World} {gs gm cm : Nat} {t3 t4 : TV} {ms : List TV} {S : List Bool} (h : LfM x w wr gs gm cm t3 t4 ms S) {q : Nat} (hq : q < S.length) :
    wr.cell? ⟨gs, q, none⟩ = some (.bool S[q]) ∧ wr.frozen? ⟨gs, q, none⟩ = false ∧ LfM x w (wr.setCell ⟨gs, q, none⟩ (.bool true)) gs gm cm t3 t4 ms (S.set q true) := by
  obtain ⟨h1, h2, h3, h4⟩ := h.seen.at hq true
  refine ⟨h1, h2, h.out.frB h4 (h.apB h.out), h.path.frB h4 (h.apB h.path), h.off, h3, h.more.fr h4 (fun hm => h.apMB (List.mem_singleton.1 hm).symm), h.mok, h.bel.trans (h4.below h.bel.size fun z hz => by rw [List.mem_singleton.1 hz]; exact h.seen.lt.1), (h4.block _ (heap_lt h.box) fun hm => row_neq h.seen h.box (by decide) (by rw [List.mem_singleton.1 hm]; simp [Value.ownBlock])).trans h.box⟩
/-- A row of where it may go is cut. -/
theorem LfM.cut {x : RV} {w wr : World} {gs gm cm : Nat} {t3 t4 : TV} {ms : List TV} {S : List Bool} (h : LfM x w wr gs gm cm t3 t4 ms S) {p : Nat} (hp : p < ms.length) {u : TV} (hu : u.Ok w) :
    wr.cell? ⟨gm, p, none⟩ = some (.slice ms[p].A ms[p].l.length ms[p].c) ∧ wr.frozen? ⟨gm, p, none⟩ = false ∧ LfM x w (wr.setCell ⟨gm, p, none⟩ (.slice u.A u.l.length u.c)) gs gm cm t3 t4 (ms.set p u) S := by
  obtain ⟨h1, h2, h3, h4⟩ := h.more.at hp u
  refine ⟨h1, h2, h.out.frB h4 (h.apM h.out), h.path.frB h4 (h.apM h.path), h.off, h.seen.fr h4 (fun hm => h.apMB (List.mem_singleton.1 hm)), h3, fun t ht => ?_, h.bel.trans (h4.below h.bel.size fun z hz => by rw [List.mem_singleton.1 hz]; exact h.more.lt.1), (h4.block _ (heap_lt h.box) fun hm => row_neq h.more h.box (by decide) (by rw [List.mem_singleton.1 hm]; simp [Value.ownBlock])).trans h.box⟩
  rcases List.mem_or_eq_of_mem_set ht with ht | rfl
  · exact h.mok t ht
  · exact hu
theorem off_new {t u u' : TV} {B : Nat} (h : Off t u) (hB : ∀ a, t.A = some a → a.block < B) (hu : u'.val.ownBlock = u.val.ownBlock ∨ u'.val.ownBlock = some (B + 1)) : Off t u' := by
  intro a b ha hb e
  have hm : b.block ∈ u'.val.ownBlock.toList := (blk_at u' b.block).2 ⟨b, hb, rfl⟩
  rcases hu with hu | hu
  · rw [hu] at hm
    obtain ⟨b', hb', e'⟩ := (blk_at u b.block).1 hm
    exact h a b' ha hb' (by rw [e', e])
  · rw [hu] at hm
    have h1 : b.block = B + 1 := by simpa using hm
    have := hB a ha
    omega
/-- A place more on the path. -/
theorem LfM.push {x : RV} {w wr : World} {gs gm cm : Nat} {t3 t4 : TV} {ms : List TV} {S : List Bool} (h : LfM x w wr gs gm cm t3 t4 ms S) (q : Nat) (hl : t4.l.length ≤ 5000) :
    ∃ (u : TV) (w5 : World), (Builtin.append_ #[25, 25] 25 #[.slice t4.A t4.l.length t4.c, .slice (some ⟨wr.heap.size, 0, none⟩) 1 1]).run Try.prog (wr.alloc (.cells #[.int .i64 (q : Int)] 3)) = .ok (.slice u.A u.l.length u.c) w5 ∧ u.l = t4.l ++ [(q : Int)] ∧ LfM x w w5 gs gm cm t3 u ms S := by
  obtain ⟨u, w5, hrun, hul, hou, hfr, hat, hb5⟩ := run_appN wr w.heap.size t4 [(q : Int)] h.path h.bel.size (by simp; omega)
  have hb1 : Below wr.heap.size wr (wr.alloc (.cells (intsV [(q : Int)]).toArray 3)) := (Below.refl _ _).alloc (Nat.le_refl _) _
  have hf : Fr wr w5 t4.val.ownBlock.toList := (Fr.of_below hb1 _).trans hfr
  refine ⟨u, w5, hrun, hul, h.out.fr hf (fun a ha hm => ?_), hou, off_new h.off (fun a ha => (h.out.lo a ha).2) hat, h.seen.fr hf (h.apB h.path), h.more.fr hf (h.apM h.path), h.mok, h.bel.trans hb5, (hf.block _ (heap_lt h.box) fun hm => row_neq h.path h.box (by decide) hm).trans h.box⟩
  obtain ⟨b, hb, e⟩ := (blk_at t4 a.block).1 hm
  exact h.off a b ha hb e.symm
/-- A place is left. -/
theorem LfM.leave {x : RV} {w wr : World} {gs gm cm : Nat} {t3 : TV} {A4 : Option Addr} {l4 : List Int} {c4 : Nat} {ms : List TV} {S : List Bool} {a : Nat} (h : LfM x w wr gs gm cm t3 ⟨A4, l4 ++ [(a : Int)], c4⟩ ms S) (hl : t3.l.length ≤ 5000) :
    ∃ (u : TV) (w5 : World), (Builtin.append_ #[25, 25] 25 #[.slice t3.A t3.l.length t3.c, .slice (some ⟨wr.heap.size, 0, none⟩) 1 1]).run Try.prog (wr.alloc (.cells #[.int .i64 (a : Int)] 3)) = .ok (.slice u.A u.l.length u.c) w5 ∧ u.l = t3.l ++ [(a : Int)] ∧ LfM x w w5 gs gm cm u ⟨A4, l4, c4⟩ ms S := by
  obtain ⟨u, w5, hrun, hul, hou, hfr, hat, hb5⟩ := run_appN wr w.heap.size t3 [(a : Int)] h.out h.bel.size (by simp; omega)
  have hb1 : Below wr.heap.size wr (wr.alloc (.cells (intsV [(a : Int)]).toArray 3)) := (Below.refl _ _).alloc (Nat.le_refl _) _
  have hf : Fr wr w5 t3.val.ownBlock.toList := (Fr.of_below hb1 _).trans hfr
  have hoff : Off u ⟨A4, l4 ++ [(a : Int)], c4⟩ := Off.symm (off_new h.off.symm (fun a ha => (h.path.lo a ha).2) hat)
  refine ⟨u, w5, hrun, hul, hou, (h.path.fr hf (fun a ha hm => ?_)).pop, fun a b ha hb => hoff a b ha hb, h.seen.fr hf (h.apB h.out), h.more.fr hf (h.apM h.out), h.mok, h.bel.trans hb5, (hf.block _ (heap_lt h.box) fun hm => row_neq h.out h.box (by decide) hm).trans h.box⟩
  obtain ⟨b, hb, e⟩ := (blk_at t3 a.block).1 hm
  exact h.off b a hb ha e
/-- Whom the walk has seen. -/
structure LfD (O : Rows) (n : Nat) (L R : List Nat) (ms : List TV) (S : List Bool) : Prop where
  dfs : Dfs O n L R (plR ms)
  len : S.length = n
  seen : ∀ q, q < n → (S.getD q false = true ↔ q ∈ L ++ R)
  bnd : ∀ t ∈ ms, ∀ v ∈ t.l, 0 ≤ v ∧ v < (n : Int)
theorem getD_setB {S : List Bool} {a : Nat} {v : Bool} (ha : a < S.length) (p : Nat) : (S.set a v).getD p false = if p = a then v else S.getD p false := by
  rw [List.getD_eq_getElem?_getD, List.getElem?_set, List.getD_eq_getElem?_getD]
  by_cases e : a = p
  · subst e; rw [if_pos rfl, if_pos ha, if_pos rfl]; rfl
  · rw [if_neg e, if_neg (fun h => e h.symm)]
theorem plR_set (ms : List TV) (p : Nat) (u : TV) : plR (ms.set p u) = (plR ms).set p (u.l.map Int.toNat) := by unfold plR; rw [List.map_set]
theorem LfD.mlen {O : Rows} {n : Nat} {L R : List Nat} {ms : List TV} {S : List Bool} (h : LfD O n L R ms S) : ms.length = n := by have := h.dfs.ml; unfold plR at this; rwa [List.length_map] at this
theorem LfD.at {O : Rows} {n : Nat} {L R : List Nat} {ms : List TV} {S : List Bool} (h : LfD O n L R ms S) {q : Nat} (hq : q < n) : S[q]'(by rw [h.len]; exact hq) = true ↔ q ∈ L ++ R := by
  have h1 := h.seen q hq
  rw [List.getD_eq_getElem?_getD, List.getElem?_eq_getElem (by rw [h.len]; exact hq), Option.getD_some] at h1
  exact h1
theorem LfD.push {O : Rows} {n : Nat} {L : List Nat} {ms : List TV} {S : List Bool} (h : LfD O n L [] ms S) {q : Nat} (hq : q < n) (hn : q ∉ L) : LfD O n L [q] ms (S.set q true) := by
  refine ⟨h.dfs.push hq hn, by rw [List.length_set]; exact h.len, fun z hz => ?_, h.bnd⟩
  have h1 := h.seen z hz
  rw [List.append_nil] at h1
  rw [getD_setB (by rw [h.len]; exact hq)]
  by_cases e : z = q
  · subst e; simp
  · rw [if_neg e, h1]; simp [e]
theorem LfD.leave {O : Rows} {n a : Nat} {L R : List Nat} {ms : List TV} {S : List Bool} (h : LfD O n L (a :: R) ms S) (ha : a < ms.length) (hm : ms[a].l = []) : LfD O n (L ++ [a]) R ms S :=
  ⟨h.dfs.leave (by rw [plR_at ha, hm]; rfl), h.len, fun z hz => by rw [h.seen z hz]; simp, h.bnd⟩
theorem LfD.skip {O : Rows} {n a q : Nat} {L R : List Nat} {ms : List TV} {S : List Bool} (h : LfD O n L (a :: R) ms S) (ha : a < ms.length) {u : TV} (hm : ms[a].l = (q : Int) :: u.l) (hq : q ∈ L ++ (a :: R)) : LfD O n L (a :: R) (ms.set a u) S := by
  refine ⟨?_, h.len, h.seen, fun t ht => ?_⟩
  · rw [plR_set]
    exact h.dfs.skip (q := q) (by rw [plR_at ha, hm]; simp) hq
  · rcases List.mem_or_eq_of_mem_set ht with ht | rfl
    · exact h.bnd t ht
    · exact fun v hv => h.bnd _ (List.getElem_mem ha) v (by rw [hm]; exact List.mem_cons_of_mem _ hv)
theorem LfD.go {O : Rows} {n a q : Nat} {L R : List Nat} {ms : List TV} {S : List Bool} (h : LfD O n L (a :: R) ms S) (ha : a < ms.length) {u : TV} (hm : ms[a].l = (q : Int) :: u.l) (hqn : q < n) (hq : q ∉ L ++ (a :: R)) : LfD O n L (q :: a :: R) (ms.set a u) (S.set q true) := by
  refine ⟨?_, by rw [List.length_set]; exact h.len, fun z hz => ?_, fun t ht => ?_⟩
  · rw [plR_set]
    exact h.dfs.go (q := q) (by rw [plR_at ha, hm]; simp) hqn hq
  · rw [getD_setB (by rw [h.len]; exact hqn)]
    by_cases e : z = q
    · subst e; simp
    · rw [if_neg e, h.seen z hz]
      simp [e]
  · rcases List.mem_or_eq_of_mem_set ht with ht | rfl
    · exact h.bnd t ht
    · exact fun v hv => h.bnd _ (List.getElem_mem ha) v (by rw [hm]; exact List.mem_cons_of_mem _ hv)
theorem leftM_cut {ms : List TV} {a q : Nat} {u : TV} (ha : a < ms.length) (hm : ms[a].l = (q : Int) :: u.l) (R : List Nat) : leftM (plR (ms.set a u)) R + 2 = leftM (plR ms) R := by
  have h1 := sum_set (M := plR ms) (a := a) (q := q) (m := u.l.map Int.toNat) (by rw [plR_at ha, hm]; simp)
  unfold leftM
  rw [plR_set]
  omega
end Go.Proofs.Ytgjjdmkoamjdpaa
/- span.left (written by wip/gen/genspl.py). -/
namespace Go.Proofs.Ytgjjdmkoamjdpaa
open Go.RowKit Go.Maps Go.Sort

theorem OwnI.top {w : World} {lo : Nat} {A : Option Addr} {l : List Int} {a : Int} {c : Nat} (h : OwnI w lo ⟨A, l ++ [a], c⟩) : ∃ g, A = some ⟨g, 0, none⟩ ∧ w.cell? ⟨g, l.length, none⟩ = some (.int .i64 a) ∧ l.length + 1 ≤ c := by
  obtain ⟨g, cur, e, _, _, h3, _, h5, _, h7⟩ := OwnI.blk h (by simp)
  dsimp only at e h3 h7
  rw [List.length_append, List.length_singleton] at h3 h7
  refine ⟨g, e, ?_, h3⟩
  rw [cell_of_row w g l.length _ _ _ h5, ← Array.getElem?_toList]
  have e2 : cur.toList[l.length]? = (cur.toList.take (l.length + 1))[l.length]? := by rw [List.getElem?_take, if_pos (by omega)]
  rw [e2, h7]
  simp [intsV]
/-- What left answers. -/
def LfPost (x : RV) (w : World) (e : Ending) (w' : World) : Prop := ∃ (A : Option Addr) (c : Nat) (L : List Nat), e = .returned (.slice A L.length c) ∧ LeftOk (plR x.o.ts) x.N.length L ∧ OwnI w' w.heap.size ⟨A, intsP L, c⟩ ∧ Below w.heap.size w w'
set_option maxRecDepth 100000 in
set_option maxHeartbeats 8000000 in
theorem left_none (x : RV) (E : List Pr) (w : World) (hx : x.Ok w) (hr : Rdy x E) (h0 : x.N.length = 0) : Calls Try.prog 43 #[.agg (rvA x)] w (LfPost x w) := by
  have hbx := two_bel w (.cells (rvA x) 43) (.cells ((List.replicate 0 false).map Value.bool).toArray 4)
  have hg1 := heap_alloc_new w (.cells (rvA x) 43)
  have hg1' : ((w.alloc (.cells (rvA x) 43)).alloc (.cells ((List.replicate 0 false).map Value.bool).toArray 4)).heap[w.heap.size]? = some (.cells (rvA x) 43 (0, 0)) := (((Below.refl _ _).alloc (Nat.le_refl _) _).block w.heap.size (by simp)).trans hg1
  have hmk : (Instr.makeSlice 95 (.int .i64 0) (.int .i64 0)).run Try.prog (w.alloc (.cells (rvA x) 43)) = _ := makeB 0 (by omega) (w.alloc (.cells (rvA x) 43))
  rw [alloc1_size] at hmk
  have hcl := cloneR_any x.o _ (hx.o.below hbx)
  have hst : LeftOk (plR x.o.ts) x.N.length [] := (Dfs.start (O := plR x.o.ts) (n := x.N.length) (by unfold plR; rw [List.length_map, hr.ol])).done (fun q hq => by omega)
  unfold rvA at hbx hg1 hg1' hmk hcl ⊢
  rw [h0] at hbx hg1 hg1' hmk hcl ⊢
  generalize ((List.replicate 0 false).map Value.bool).toArray = Z at hbx hg1' hmk hcl
  obtain ⟨z0, z1, _⟩ := bx3 hg1
  obtain ⟨q0, q1, _⟩ := bx3 hg1'
  have HB := Lib.hid (And.intro hbx (And.intro hg1' hst))
  have HCL := Lib.hid hcl
  clear hbx hg1 hg1' hcl hst hx hr h0
  go_enter Try.func43, Try.ntmps43
  go_upto_region 4 with (go_at_call 61; (with_reducible refine HCL.out.mono ?_); rintro e w3 ⟨v, rfl, hv, hb3⟩; have H3 := Lib.hid (And.intro (HB.out.1.trans (lower' hb3 HB.out.1.size)) ((hb3.block w.heap.size (heap_lt HB.out.2.1)).trans HB.out.2.1)); clear hv hb3 z0 z1 q0 q1)
  obtain ⟨q0, _, _⟩ := bx3 H3.out.2
  go_wp2_with (fail)
  go_loopw [3, 20] (fun v3 v20 wr => v3 = .slice none 0 0 ∧ v20 = .int .i64 0 ∧ Hid (Below w.heap.size w wr)) (fun _ _ _ => 0)
  case atStart => exact ⟨rfl, rfl, Lib.hid H3.out.1⟩
  case round =>
    obtain ⟨rfl, rfl, hrel⟩ := hrel
    go_wp2_with (fail)
    go_ret
    exact ⟨none, 0, [], rfl, HB.out.2.2, World.ownsRow_nil _ _ _ _, hrel.out⟩
set_option maxRecDepth 100000 in
set_option maxHeartbeats 8000000 in
theorem left_some (x : RV) (E : List Pr) (w : World) (hx : x.Ok w) (hr : Rdy x E) (h0 : 0 < x.N.length) : Calls Try.prog 43 #[.agg (rvA x)] w (LfPost x w) := by
  have hnl := hr.nl
  have hbx := two_bel w (.cells (rvA x) 43) (.cells ((List.replicate x.N.length false).map Value.bool).toArray 4)
  have hg1 := heap_alloc_new w (.cells (rvA x) 43)
  have hg1' : ((w.alloc (.cells (rvA x) 43)).alloc (.cells ((List.replicate x.N.length false).map Value.bool).toArray 4)).heap[w.heap.size]? = some (.cells (rvA x) 43 (0, 0)) := (((Below.refl _ _).alloc (Nat.le_refl _) _).block w.heap.size (by simp)).trans hg1
  have hg2 := heap_alloc_new (w.alloc (.cells (rvA x) 43)) (.cells ((List.replicate x.N.length false).map Value.bool).toArray 4)
  have hmk := makeB x.N.length (by omega) (w.alloc (.cells (rvA x) 43))
  rw [alloc1_size] at hg2 hmk
  have hsB := ownSeen_heap (lo := w.heap.size) hg2 (by omega) (by rw [List.length_replicate]; omega)
  have hcl := cloneR_any x.o _ (hx.o.below hbx)
  unfold rvA at hbx hg1 hg1' hmk hcl hsB ⊢
  generalize ((List.replicate x.N.length false).map Value.bool).toArray = Z at hbx hg1' hmk hcl hsB
  obtain ⟨z0, z1, _⟩ := bx3 hg1
  obtain ⟨q0, q1, _⟩ := bx3 hg1'
  have HB := Lib.hid (And.intro hbx (And.intro hg1' hsB))
  have HCL := Lib.hid hcl
  have HX := Lib.hid (And.intro hx hr)
  clear hbx hg1 hg1' hg2 hcl hsB hx hr
  go_enter Try.func43, Try.ntmps43
  go_upto_region 4 with (go_at_call 61; (with_reducible refine HCL.out.mono ?_); rintro e w3 ⟨v, rfl, hv, hb3⟩; have HV := Lib.hid hv; have HB3 := Lib.hid hb3; obtain ⟨mA, cm, rfl, hm1, hm2, hm3⟩ := own_shape hv; clear hm1 hm2 hm3 hv hb3 z0 z1 q0 q1)
  obtain ⟨gm, hmA⟩ : ∃ gm, mA = some ⟨gm, 0, none⟩ := by
    obtain ⟨g, c, e, _⟩ := own_form HV.out (by rw [HX.out.2.ol]; exact h0)
    injection e with e
    exact ⟨g, e⟩
  subst hmA
  have hbox3 := (HB3.out.block w.heap.size (heap_lt HB.out.2.1)).trans HB.out.2.1
  have HIN := Lib.hid (show LfM x w w3 (w.heap.size + 1) gm cm ⟨none, intsP [], 0⟩ ⟨none, intsP ([] : List Nat).reverse, 0⟩ x.o.ts (List.replicate x.N.length false) ∧ LfD (plR x.o.ts) x.N.length [] [] x.o.ts (List.replicate x.N.length false) from
    ⟨⟨World.ownsRow_nil _ _ _ _, World.ownsRow_nil _ _ _ _, (fun a b h => nomatch h), OwnSeen.below HB.out.2.2 HB3.out, own_mono HV.out HB.out.1.size, fun t ht => HX.out.1.o.ok t ht, HB.out.1.trans (lower' HB3.out HB.out.1.size), hbox3⟩,
     ⟨Dfs.start (by unfold plR; rw [List.length_map, HX.out.2.ol]), List.length_replicate .., fun q hq => by simp [List.getD_eq_getElem?_getD, List.getElem?_replicate, hq], fun t ht v hv => HX.out.2.po t ht v hv⟩⟩)
  obtain ⟨q0, _, _⟩ := bx3 hbox3
  clear hbox3 HB HCL HV HB3 hmk
  go_wp2_with (fail)
  clear q0
  go_loopw [3, 4, 20] (fun v3 v4 v20 wr => ∃ (f : Nat) (A3 : Option Addr) (c3 : Nat) (A4 : Option Addr) (c4 : Nat) (L : List Nat) (ms : List TV) (S : List Bool), f ≤ x.N.length ∧ L.length ≤ 2000 ∧ v3 = .slice A3 L.length c3 ∧ v4 = .slice A4 0 c4 ∧ v20 = .int .i64 (f : Int) ∧ Hid (LfM x w wr (w.heap.size + 1) gm cm ⟨A3, intsP L, c3⟩ ⟨A4, intsP ([] : List Nat).reverse, c4⟩ ms S ∧ LfD (plR x.o.ts) x.N.length L [] ms S ∧ ∀ q, q < f → q ∈ L)) (fun _ _ v20 _ => x.N.length - (intOf v20).toNat)
  case atStart => exact ⟨0, none, 0, none, 0, [], x.o.ts, _, by omega, by simp, rfl, rfl, rfl, Lib.hid ⟨HIN.out.1, HIN.out.2, fun q hq => absurd hq (Nat.not_lt_zero _)⟩⟩
  case round =>
    clear HIN
    obtain ⟨f, A3, c3, A4, c4, L, ms, S, hf, hL, rfl, rfl, rfl, hrel⟩ := hrel
    by_cases hft : f < x.N.length
    · have hfI : (f : Int) < (x.N.length : Int) := by omega
      have hfs : f < S.length := by rw [hrel.out.2.1.len]; exact hft
      obtain ⟨s0, f1, hM1⟩ := hrel.out.1.mark hfs
      have hat : S[f] = true ↔ f ∈ L ++ [] := hrel.out.2.1.at hft
      rw [List.append_nil] at hat
      by_cases hfL : f ∈ L
      · rw [hat.2 hfL] at s0
        have HK := Lib.hid (And.intro hrel.out hfL)
        clear hM1 hat hfs hfL hrel f1
        go_wp2_with (fail)
        clear s0
        go_loopg [3, 4] (leftM (plR ms) [] + 1) (fun gk v3 v4 wq => ∃ (A3 : Option Addr) (c3 : Nat) (A4 : Option Addr) (c4 : Nat) (L R : List Nat) (ms : List TV) (S : List Bool), L.length + R.length ≤ 2000 ∧ v3 = .slice A3 L.length c3 ∧ v4 = .slice A4 R.length c4 ∧ leftM (plR ms) R ≤ gk ∧ Hid (LfM x w wq (w.heap.size + 1) gm cm ⟨A3, intsP L, c3⟩ ⟨A4, intsP R.reverse, c4⟩ ms S ∧ LfD (plR x.o.ts) x.N.length L R ms S ∧ f ∈ L ++ R ∧ ∀ q, q < f → q ∈ L))
        case atStart => exact ⟨A3, c3, A4, c4, L, [], ms, S, by simpa using hL, rfl, rfl, by omega, Lib.hid ⟨HK.out.1.1, HK.out.1.2.1, List.mem_append.2 (.inl HK.out.2), HK.out.1.2.2⟩⟩
        case round =>
          clear HK
          obtain ⟨A3, c3, A4, c4, L, R, ms, S, hLR, rfl, rfl, hgk, hrel⟩ := hrel
          rename World => wq
          cases R with
          | nil =>
            have HF := Lib.hid hrel.out
            clear hrel
            go_wp2_with (fail)
            go_roundw
            case rel => exact ⟨f + 1, A3, c3, A4, c4, L, ms, S, by omega, by simpa using hLR, rfl, rfl, by go_num, Lib.hid ⟨HF.out.1, HF.out.2.1, fun q hq => by
              rcases Nat.lt_or_ge q f with h | h
              · exact HF.out.2.2.2 q h
              · obtain rfl : q = f := by omega
                simpa using HF.out.2.2.1⟩⟩
            case measure => simp [intOf]; omega
          | cons a P =>
            simp only [List.length_cons] at hLR ⊢
            have hsz := hrel.out.2.1.mlen
            have han : a < x.N.length := hrel.out.2.1.dfs.bnd a (by simp)
            have ha : a < ms.length := by omega
            have hE : intsP (a :: P).reverse = intsP P.reverse ++ [(a : Int)] := by rw [List.reverse_cons]; unfold intsP; rw [List.map_append]; rfl
            have hM := hrel.out.1
            rw [hE] at hM
            obtain ⟨g4, hA4, p0, hc4⟩ := hM.path.top
            subst hA4
            rw [intsP_len, List.length_reverse] at p0 hc4
            have m0 := (hM.cut ha (hM.mok _ (List.getElem_mem ha))).1
            have hPI : IntKind.i64.wrap ((P.length : Int) + 1 - 1) = (P.length : Int) := by rw [IntWalk.i64_in _ (by omega)]; omega
            have hPJ : (P.length : Int) + 1 - 1 = (P.length : Int) := by omega
            have hPK : IntKind.i64.wrap (P.length : Int) = (P.length : Int) := IntWalk.i64_in _ (by omega)
            have hPc : (P.length : Int) ≤ (c4 : Int) := by omega
            have haI : (a : Int) < (x.o.ts.length : Int) := by rw [HX.out.2.ol]; omega
            obtain ⟨t, ht⟩ : ∃ t, t = ms[a] := ⟨_, rfl⟩
            rw [← ht] at m0
            have htok := hM.mok _ (List.getElem_mem ha)
            rw [← ht] at htok
            obtain ⟨tA, tl, tc⟩ := t
            dsimp only at m0
            cases tl with
            | nil =>
              have hD := hrel.out.2.1.leave ha (by rw [← ht])
              obtain ⟨⟨uA, ul, uc⟩, w5, hrun, hul, hM5⟩ := (hM.kept ((Below.refl wq.heap.size wq).drew)).leave (by rw [intsP_len]; omega)
              dsimp only at hrun hul
              subst hul
              rw [List.length_append, intsP_len] at hrun
              have hLl : (L ++ [a]).length = L.length + 1 := by simp
              have hg1 : leftM (plR ms) P + 1 ≤ gk := by unfold leftM at hgk ⊢; rw [List.length_cons] at hgk; omega
              have HN := Lib.hid (And.intro (show LfM x w w5 (w.heap.size + 1) gm cm ⟨uA, intsP (L ++ [a]), uc⟩ ⟨some ⟨g4, 0, none⟩, intsP P.reverse, c4⟩ ms S from by unfold intsP at hM5 ⊢; rw [List.map_append]; exact hM5) (And.intro hD (And.intro hrel.out.2.2 hLl)))
              have hrun : (Builtin.append_ #[25, 25] 25 #[.slice A3 L.length c3, .slice (some ⟨wq.heap.size, 0, none⟩) 1 1]).run Try.prog (wq.drew.alloc (.cells #[.int .i64 (a : Int)] 3)) = .ok (.slice uA (L.length + 1) uc) w5 := hrun
              simp only [List.length_nil] at m0
              clear hD hM hM5 hE htok ht ha han hsz hgk hrel hLl
              go_upto_region 13 with (fail)
              go_region_law (refine step_appK _ (by rfl) (.tmp 50) (.tmp 52) 25 rfl rfl _ _ _ _ rfl rfl hrun ?_)
              all_goals
                simp only [Act.put]
                go_simp
                go_wp2_with (fail)
                go_roundg (leftM (plR ms) P)
                case measure => omega
                case rel => exact ⟨uA, uc, some ⟨g4, 0, none⟩, c4, L ++ [a], P, ms, S, by rw [HN.out.2.2.2]; omega, by rw [HN.out.2.2.2], rfl, Nat.le_refl _, Lib.hid ⟨HN.out.1, HN.out.2.1, by
                  have h1 := HN.out.2.2.1.1
                  simpa using h1, fun q hq => List.mem_append.2 (.inl (HN.out.2.2.1.2 q hq))⟩⟩
            | cons v l =>
              have hv := hrel.out.2.1.bnd _ (List.getElem_mem ha) v (by rw [← ht]; simp)
              obtain ⟨q, rfl⟩ : ∃ q : Nat, v = (q : Int) := ⟨v.toNat, by omega⟩
              have hqn : q < x.N.length := by omega
              have hqs : q < S.length := by rw [hrel.out.2.1.len]; exact hqn
              obtain ⟨tb, tof, htA, _, t0⟩ := (htok.below hM.bel).cell (k := 0) (by simp)
              dsimp only at htA t0
              subst htA
              simp only [List.getElem_cons_zero, Nat.add_zero] at t0
              have hcl := htok.cap
              simp only [List.length_cons] at hcl m0
              obtain ⟨u, hu⟩ : ∃ u : TV, u = ⟨tailA (some ⟨tb, tof, none⟩) tc, l, tc - 1⟩ := ⟨_, rfl⟩
              have huok : u.Ok w := by rw [hu]; exact htok.tail
              obtain ⟨-, f0, hM1⟩ := hM.cut ha huok
              have hul : ms[a].l = (q : Int) :: u.l := by rw [← ht, hu]
              have hgu := leftM_cut ha hul (a :: P)
              have hulen : u.l.length = l.length := by rw [hu]
              have huc : u.c = tc - 1 := by rw [hu]
              have huA : u.A = tailA (some ⟨tb, tof, none⟩) tc := by rw [hu]
              rw [hulen, huc, huA] at hM1
              obtain ⟨s0, f1, hM2⟩ := hM1.mark hqs
              have hqI : (q : Int) < (x.N.length : Int) := by omega
              have hqat : S[q] = true ↔ q ∈ L ++ (a :: P) := hrel.out.2.1.at hqn
              have HU := Lib.hid (And.intro huok (And.intro hul (And.intro hgu (And.intro hrel.out.2.1 hrel.out.2.2))))
              clear huok hul hulen huc huA hu htok ht hE hv
              have hB1 : ∀ b : Bool, (if b then (1 : Nat) else 1) = 1 := fun b => by cases b <;> rfl
              clear hB1
              by_cases hc1 : tc = 1
              · subst hc1
                have hTA : tailA (some ⟨tb, tof, none⟩) 1 = some ⟨tb, tof, none⟩ := rfl
                obtain rfl : l = [] := List.length_eq_zero_iff.1 (by omega)
                rw [hTA] at hM1 hM2 s0 f1
                simp only [List.length_nil, Nat.sub_self] at hM1 hM2 s0 f1
                by_cases hqm : q ∈ L ++ (a :: P)
                · have hSq := hqat.2 hqm
                  rw [hSq] at s0
                  have HN := Lib.hid (And.intro hM1 (HU.out.2.2.2.1.skip ha HU.out.2.1 hqm))
                  have hg1 : leftM (plR (ms.set a u)) (a :: P) + 1 ≤ gk := by have := HU.out.2.2.1; omega
                  clear hqm hqat hSq hM hM1 hM2 han hsz hgk hqs hqn hrel
                  go_wp2_with (fail)
                  go_roundg (leftM (plR (ms.set a u)) (a :: P))
                  case measure => omega
                  case rel => exact ⟨A3, c3, some ⟨g4, 0, none⟩, c4, L, a :: P, ms.set a u, S, by simp only [List.length_cons]; omega, rfl, rfl, Nat.le_refl _, Lib.hid ⟨by rw [show intsP (a :: P).reverse = intsP P.reverse ++ [(a : Int)] from by rw [List.reverse_cons]; unfold intsP; rw [List.map_append]; rfl]; exact HN.out.1, HN.out.2, HU.out.2.2.2.2⟩⟩
                · have hSq : S[q] = false := by
                    cases hb : S[q] with
                    | false => rfl
                    | true => exact absurd (hqat.1 hb) hqm
                  rw [hSq] at s0
                  obtain ⟨⟨zA, zl, zc⟩, w5, hrun, hzl, hM5⟩ := hM2.push q (by dsimp only; rw [List.length_append, intsP_len, List.length_reverse]; simp; omega)
                  dsimp only at hrun hzl
                  subst hzl
                  simp only [List.length_append, intsP_len, List.length_reverse, List.length_singleton] at hrun
                  have hEz : intsP P.reverse ++ [(a : Int)] ++ [(q : Int)] = intsP (q :: a :: P).reverse := by rw [List.reverse_cons, List.reverse_cons]; unfold intsP; rw [List.map_append, List.map_append]; rfl
                  rw [hEz] at hM5
                  have HN := Lib.hid (And.intro hM5 (HU.out.2.2.2.1.go ha HU.out.2.1 hqn hqm))
                  have hLR2 := HN.out.2.dfs.len
                  simp only [List.length_cons] at hLR2
                  have hg1 : leftM (plR (ms.set a u)) (q :: a :: P) + 1 ≤ gk := by have := HU.out.2.2.1; unfold leftM at this hgk ⊢; simp only [List.length_cons] at this hgk ⊢; omega
                  have hszs : ((wq.setCell ⟨gm, a, none⟩ (.slice (some ⟨tb, tof, none⟩) 0 0)).setCell ⟨w.heap.size + 1, q, none⟩ (.bool true)).heap.size = wq.heap.size := by simp
                  rw [hszs] at hrun
                  clear hqm hqat hSq hM hM1 hM2 hM5 han hsz hgk hqs hqn hEz hrel
                  go_wp2_with (at_builtin; refine wpL_appK _ rfl (.tmp 81) (.tmp 83) 25 rfl rfl _ _ _ _ rfl rfl hrun ?_)
                  go_roundg (leftM (plR (ms.set a u)) (q :: a :: P))
                  case measure => omega
                  case rel => exact ⟨A3, c3, zA, zc, L, q :: a :: P, ms.set a u, S.set q true, by simp only [List.length_cons]; omega, rfl, by simp only [List.length_cons], Nat.le_refl _, Lib.hid ⟨HN.out.1, HN.out.2, by
                    have h1 := HU.out.2.2.2.2.1
                    simp only [List.mem_append, List.mem_cons] at h1 ⊢
                    rcases h1 with h | h | h
                    · exact .inl h
                    · exact .inr (.inr (.inl h))
                    · exact .inr (.inr (.inr h)), HU.out.2.2.2.2.2⟩⟩
              · have hTA : tailA (some ⟨tb, tof, none⟩) tc = some ⟨tb, tof + 1, none⟩ := by unfold tailA; rw [if_neg hc1]; rfl
                rw [hTA] at hM1 hM2 s0 f1
                by_cases hqm : q ∈ L ++ (a :: P)
                · have hSq := hqat.2 hqm
                  rw [hSq] at s0
                  have HN := Lib.hid (And.intro hM1 (HU.out.2.2.2.1.skip ha HU.out.2.1 hqm))
                  have hg1 : leftM (plR (ms.set a u)) (a :: P) + 1 ≤ gk := by have := HU.out.2.2.1; omega
                  clear hqm hqat hSq hM hM1 hM2 han hsz hgk hqs hqn hrel
                  go_wp2_with (fail)
                  go_roundg (leftM (plR (ms.set a u)) (a :: P))
                  case measure => omega
                  case rel => exact ⟨A3, c3, some ⟨g4, 0, none⟩, c4, L, a :: P, ms.set a u, S, by simp only [List.length_cons]; omega, rfl, rfl, Nat.le_refl _, Lib.hid ⟨by rw [show intsP (a :: P).reverse = intsP P.reverse ++ [(a : Int)] from by rw [List.reverse_cons]; unfold intsP; rw [List.map_append]; rfl]; exact HN.out.1, HN.out.2, HU.out.2.2.2.2⟩⟩
                · have hSq : S[q] = false := by
                    cases hb : S[q] with
                    | false => rfl
                    | true => exact absurd (hqat.1 hb) hqm
                  rw [hSq] at s0
                  obtain ⟨⟨zA, zl, zc⟩, w5, hrun, hzl, hM5⟩ := hM2.push q (by dsimp only; rw [List.length_append, intsP_len, List.length_reverse]; simp; omega)
                  dsimp only at hrun hzl
                  subst hzl
                  simp only [List.length_append, intsP_len, List.length_reverse, List.length_singleton] at hrun
                  have hEz : intsP P.reverse ++ [(a : Int)] ++ [(q : Int)] = intsP (q :: a :: P).reverse := by rw [List.reverse_cons, List.reverse_cons]; unfold intsP; rw [List.map_append, List.map_append]; rfl
                  rw [hEz] at hM5
                  have HN := Lib.hid (And.intro hM5 (HU.out.2.2.2.1.go ha HU.out.2.1 hqn hqm))
                  have hLR2 := HN.out.2.dfs.len
                  simp only [List.length_cons] at hLR2
                  have hg1 : leftM (plR (ms.set a u)) (q :: a :: P) + 1 ≤ gk := by have := HU.out.2.2.1; unfold leftM at this hgk ⊢; simp only [List.length_cons] at this hgk ⊢; omega
                  have hszs : ((wq.setCell ⟨gm, a, none⟩ (.slice (some ⟨tb, tof + 1, none⟩) l.length (tc - 1))).setCell ⟨w.heap.size + 1, q, none⟩ (.bool true)).heap.size = wq.heap.size := by simp
                  rw [hszs] at hrun
                  clear hqm hqat hSq hM hM1 hM2 hM5 han hsz hgk hqs hqn hEz hrel
                  go_wp2_with (at_builtin; refine wpL_appK _ rfl (.tmp 81) (.tmp 83) 25 rfl rfl _ _ _ _ rfl rfl hrun ?_)
                  go_roundg (leftM (plR (ms.set a u)) (q :: a :: P))
                  case measure => omega
                  case rel => exact ⟨A3, c3, zA, zc, L, q :: a :: P, ms.set a u, S.set q true, by simp only [List.length_cons]; omega, rfl, by simp only [List.length_cons], Nat.le_refl _, Lib.hid ⟨HN.out.1, HN.out.2, by
                    have h1 := HU.out.2.2.2.2.1
                    simp only [List.mem_append, List.mem_cons] at h1 ⊢
                    rcases h1 with h | h | h
                    · exact .inl h
                    · exact .inr (.inr (.inl h))
                    · exact .inr (.inr (.inr h)), HU.out.2.2.2.2.2⟩⟩
      · have hSf : S[f] = false := by
          cases hb : S[f] with
          | false => rfl
          | true => exact absurd (hat.1 hb) hfL
        rw [hSf] at s0
        obtain ⟨⟨zA, zl, zc⟩, w5, hrun, hzl, hM5⟩ := hM1.push f (by dsimp only; simp [intsP])
        dsimp only at hrun hzl
        subst hzl
        have hszs : (wr.setCell ⟨w.heap.size + 1, f, none⟩ (.bool true)).heap.size = wr.heap.size := by simp
        rw [hszs] at hrun
        have hrun : (Builtin.append_ #[25, 25] 25 #[.slice A4 0 c4, .slice (some ⟨wr.heap.size, 0, none⟩) 1 1]).run Try.prog ((wr.setCell ⟨w.heap.size + 1, f, none⟩ (.bool true)).alloc (.cells #[.int .i64 (f : Int)] 3)) = .ok (.slice zA 1 zc) w5 := hrun
        have HK := Lib.hid (And.intro hM5 (And.intro (hrel.out.2.1.push hft hfL) hrel.out.2.2))
        have hLR := HK.out.2.1.dfs.len
        simp only [List.length_singleton] at hLR
        clear hM1 hat hfs hfL hrel hSf hM5 hszs
        go_wp2_with (at_builtin; refine wpL_appK _ rfl (.tmp 31) (.tmp 33) 25 rfl rfl _ _ _ _ rfl rfl hrun ?_)
        clear s0 f1 hrun
        go_loopg [3, 4] (leftM (plR ms) [] + 1) (fun gk v3 v4 wq => ∃ (A3 : Option Addr) (c3 : Nat) (A4 : Option Addr) (c4 : Nat) (L R : List Nat) (ms : List TV) (S : List Bool), L.length + R.length ≤ 2000 ∧ v3 = .slice A3 L.length c3 ∧ v4 = .slice A4 R.length c4 ∧ leftM (plR ms) R ≤ gk ∧ Hid (LfM x w wq (w.heap.size + 1) gm cm ⟨A3, intsP L, c3⟩ ⟨A4, intsP R.reverse, c4⟩ ms S ∧ LfD (plR x.o.ts) x.N.length L R ms S ∧ f ∈ L ++ R ∧ ∀ q, q < f → q ∈ L))
        case atStart => exact ⟨A3, c3, zA, zc, L, [f], ms, S.set f true, by simp only [List.length_singleton]; omega, rfl, rfl, by unfold leftM; simp, Lib.hid ⟨HK.out.1, HK.out.2.1, List.mem_append.2 (.inr (List.mem_singleton.2 rfl)), HK.out.2.2⟩⟩
        case round =>
          clear HK
          obtain ⟨A3, c3, A4, c4, L, R, ms, S, hLR, rfl, rfl, hgk, hrel⟩ := hrel
          rename World => wq
          cases R with
          | nil =>
            have HF := Lib.hid hrel.out
            clear hrel
            go_wp2_with (fail)
            go_roundw
            case rel => exact ⟨f + 1, A3, c3, A4, c4, L, ms, S, by omega, by simpa using hLR, rfl, rfl, by go_num, Lib.hid ⟨HF.out.1, HF.out.2.1, fun q hq => by
              rcases Nat.lt_or_ge q f with h | h
              · exact HF.out.2.2.2 q h
              · obtain rfl : q = f := by omega
                simpa using HF.out.2.2.1⟩⟩
            case measure => simp [intOf]; omega
          | cons a P =>
            simp only [List.length_cons] at hLR ⊢
            have hsz := hrel.out.2.1.mlen
            have han : a < x.N.length := hrel.out.2.1.dfs.bnd a (by simp)
            have ha : a < ms.length := by omega
            have hE : intsP (a :: P).reverse = intsP P.reverse ++ [(a : Int)] := by rw [List.reverse_cons]; unfold intsP; rw [List.map_append]; rfl
            have hM := hrel.out.1
            rw [hE] at hM
            obtain ⟨g4, hA4, p0, hc4⟩ := hM.path.top
            subst hA4
            rw [intsP_len, List.length_reverse] at p0 hc4
            have m0 := (hM.cut ha (hM.mok _ (List.getElem_mem ha))).1
            have hPI : IntKind.i64.wrap ((P.length : Int) + 1 - 1) = (P.length : Int) := by rw [IntWalk.i64_in _ (by omega)]; omega
            have hPJ : (P.length : Int) + 1 - 1 = (P.length : Int) := by omega
            have hPK : IntKind.i64.wrap (P.length : Int) = (P.length : Int) := IntWalk.i64_in _ (by omega)
            have hPc : (P.length : Int) ≤ (c4 : Int) := by omega
            have haI : (a : Int) < (x.o.ts.length : Int) := by rw [HX.out.2.ol]; omega
            obtain ⟨t, ht⟩ : ∃ t, t = ms[a] := ⟨_, rfl⟩
            rw [← ht] at m0
            have htok := hM.mok _ (List.getElem_mem ha)
            rw [← ht] at htok
            obtain ⟨tA, tl, tc⟩ := t
            dsimp only at m0
            cases tl with
            | nil =>
              have hD := hrel.out.2.1.leave ha (by rw [← ht])
              obtain ⟨⟨uA, ul, uc⟩, w5, hrun, hul, hM5⟩ := (hM.kept ((Below.refl wq.heap.size wq).drew)).leave (by rw [intsP_len]; omega)
              dsimp only at hrun hul
              subst hul
              rw [List.length_append, intsP_len] at hrun
              have hLl : (L ++ [a]).length = L.length + 1 := by simp
              have hg1 : leftM (plR ms) P + 1 ≤ gk := by unfold leftM at hgk ⊢; rw [List.length_cons] at hgk; omega
              have HN := Lib.hid (And.intro (show LfM x w w5 (w.heap.size + 1) gm cm ⟨uA, intsP (L ++ [a]), uc⟩ ⟨some ⟨g4, 0, none⟩, intsP P.reverse, c4⟩ ms S from by unfold intsP at hM5 ⊢; rw [List.map_append]; exact hM5) (And.intro hD (And.intro hrel.out.2.2 hLl)))
              have hrun : (Builtin.append_ #[25, 25] 25 #[.slice A3 L.length c3, .slice (some ⟨wq.heap.size, 0, none⟩) 1 1]).run Try.prog (wq.drew.alloc (.cells #[.int .i64 (a : Int)] 3)) = .ok (.slice uA (L.length + 1) uc) w5 := hrun
              simp only [List.length_nil] at m0
              clear hD hM hM5 hE htok ht ha han hsz hgk hrel hLl
              go_upto_region 13 with (fail)
              go_region_law (refine step_appK _ (by rfl) (.tmp 50) (.tmp 52) 25 rfl rfl _ _ _ _ rfl rfl hrun ?_)
              all_goals
                simp only [Act.put]
                go_simp
                go_wp2_with (fail)
                go_roundg (leftM (plR ms) P)
                case measure => omega
                case rel => exact ⟨uA, uc, some ⟨g4, 0, none⟩, c4, L ++ [a], P, ms, S, by rw [HN.out.2.2.2]; omega, by rw [HN.out.2.2.2], rfl, Nat.le_refl _, Lib.hid ⟨HN.out.1, HN.out.2.1, by
                  have h1 := HN.out.2.2.1.1
                  simpa using h1, fun q hq => List.mem_append.2 (.inl (HN.out.2.2.1.2 q hq))⟩⟩
            | cons v l =>
              have hv := hrel.out.2.1.bnd _ (List.getElem_mem ha) v (by rw [← ht]; simp)
              obtain ⟨q, rfl⟩ : ∃ q : Nat, v = (q : Int) := ⟨v.toNat, by omega⟩
              have hqn : q < x.N.length := by omega
              have hqs : q < S.length := by rw [hrel.out.2.1.len]; exact hqn
              obtain ⟨tb, tof, htA, _, t0⟩ := (htok.below hM.bel).cell (k := 0) (by simp)
              dsimp only at htA t0
              subst htA
              simp only [List.getElem_cons_zero, Nat.add_zero] at t0
              have hcl := htok.cap
              simp only [List.length_cons] at hcl m0
              obtain ⟨u, hu⟩ : ∃ u : TV, u = ⟨tailA (some ⟨tb, tof, none⟩) tc, l, tc - 1⟩ := ⟨_, rfl⟩
              have huok : u.Ok w := by rw [hu]; exact htok.tail
              obtain ⟨-, f0, hM1⟩ := hM.cut ha huok
              have hul : ms[a].l = (q : Int) :: u.l := by rw [← ht, hu]
              have hgu := leftM_cut ha hul (a :: P)
              have hulen : u.l.length = l.length := by rw [hu]
              have huc : u.c = tc - 1 := by rw [hu]
              have huA : u.A = tailA (some ⟨tb, tof, none⟩) tc := by rw [hu]
              rw [hulen, huc, huA] at hM1
              obtain ⟨s0, f1, hM2⟩ := hM1.mark hqs
              have hqI : (q : Int) < (x.N.length : Int) := by omega
              have hqat : S[q] = true ↔ q ∈ L ++ (a :: P) := hrel.out.2.1.at hqn
              have HU := Lib.hid (And.intro huok (And.intro hul (And.intro hgu (And.intro hrel.out.2.1 hrel.out.2.2))))
              clear huok hul hulen huc huA hu htok ht hE hv
              have hB1 : ∀ b : Bool, (if b then (1 : Nat) else 1) = 1 := fun b => by cases b <;> rfl
              clear hB1
              by_cases hc1 : tc = 1
              · subst hc1
                have hTA : tailA (some ⟨tb, tof, none⟩) 1 = some ⟨tb, tof, none⟩ := rfl
                obtain rfl : l = [] := List.length_eq_zero_iff.1 (by omega)
                rw [hTA] at hM1 hM2 s0 f1
                simp only [List.length_nil, Nat.sub_self] at hM1 hM2 s0 f1
                by_cases hqm : q ∈ L ++ (a :: P)
                · have hSq := hqat.2 hqm
                  rw [hSq] at s0
                  have HN := Lib.hid (And.intro hM1 (HU.out.2.2.2.1.skip ha HU.out.2.1 hqm))
                  have hg1 : leftM (plR (ms.set a u)) (a :: P) + 1 ≤ gk := by have := HU.out.2.2.1; omega
                  clear hqm hqat hSq hM hM1 hM2 han hsz hgk hqs hqn hrel
                  go_wp2_with (fail)
                  go_roundg (leftM (plR (ms.set a u)) (a :: P))
                  case measure => omega
                  case rel => exact ⟨A3, c3, some ⟨g4, 0, none⟩, c4, L, a :: P, ms.set a u, S, by simp only [List.length_cons]; omega, rfl, rfl, Nat.le_refl _, Lib.hid ⟨by rw [show intsP (a :: P).reverse = intsP P.reverse ++ [(a : Int)] from by rw [List.reverse_cons]; unfold intsP; rw [List.map_append]; rfl]; exact HN.out.1, HN.out.2, HU.out.2.2.2.2⟩⟩
                · have hSq : S[q] = false := by
                    cases hb : S[q] with
                    | false => rfl
                    | true => exact absurd (hqat.1 hb) hqm
                  rw [hSq] at s0
                  obtain ⟨⟨zA, zl, zc⟩, w5, hrun, hzl, hM5⟩ := hM2.push q (by dsimp only; rw [List.length_append, intsP_len, List.length_reverse]; simp; omega)
                  dsimp only at hrun hzl
                  subst hzl
                  simp only [List.length_append, intsP_len, List.length_reverse, List.length_singleton] at hrun
                  have hEz : intsP P.reverse ++ [(a : Int)] ++ [(q : Int)] = intsP (q :: a :: P).reverse := by rw [List.reverse_cons, List.reverse_cons]; unfold intsP; rw [List.map_append, List.map_append]; rfl
                  rw [hEz] at hM5
                  have HN := Lib.hid (And.intro hM5 (HU.out.2.2.2.1.go ha HU.out.2.1 hqn hqm))
                  have hLR2 := HN.out.2.dfs.len
                  simp only [List.length_cons] at hLR2
                  have hg1 : leftM (plR (ms.set a u)) (q :: a :: P) + 1 ≤ gk := by have := HU.out.2.2.1; unfold leftM at this hgk ⊢; simp only [List.length_cons] at this hgk ⊢; omega
                  have hszs : ((wq.setCell ⟨gm, a, none⟩ (.slice (some ⟨tb, tof, none⟩) 0 0)).setCell ⟨w.heap.size + 1, q, none⟩ (.bool true)).heap.size = wq.heap.size := by simp
                  rw [hszs] at hrun
                  clear hqm hqat hSq hM hM1 hM2 hM5 han hsz hgk hqs hqn hEz hrel
                  go_wp2_with (at_builtin; refine wpL_appK _ rfl (.tmp 81) (.tmp 83) 25 rfl rfl _ _ _ _ rfl rfl hrun ?_)
                  go_roundg (leftM (plR (ms.set a u)) (q :: a :: P))
                  case measure => omega
                  case rel => exact ⟨A3, c3, zA, zc, L, q :: a :: P, ms.set a u, S.set q true, by simp only [List.length_cons]; omega, rfl, by simp only [List.length_cons], Nat.le_refl _, Lib.hid ⟨HN.out.1, HN.out.2, by
                    have h1 := HU.out.2.2.2.2.1
                    simp only [List.mem_append, List.mem_cons] at h1 ⊢
                    rcases h1 with h | h | h
                    · exact .inl h
                    · exact .inr (.inr (.inl h))
                    · exact .inr (.inr (.inr h)), HU.out.2.2.2.2.2⟩⟩
              · have hTA : tailA (some ⟨tb, tof, none⟩) tc = some ⟨tb, tof + 1, none⟩ := by unfold tailA; rw [if_neg hc1]; rfl
                rw [hTA] at hM1 hM2 s0 f1
                by_cases hqm : q ∈ L ++ (a :: P)
                · have hSq := hqat.2 hqm
                  rw [hSq] at s0
                  have HN := Lib.hid (And.intro hM1 (HU.out.2.2.2.1.skip ha HU.out.2.1 hqm))
                  have hg1 : leftM (plR (ms.set a u)) (a :: P) + 1 ≤ gk := by have := HU.out.2.2.1; omega
                  clear hqm hqat hSq hM hM1 hM2 han hsz hgk hqs hqn hrel
                  go_wp2_with (fail)
                  go_roundg (leftM (plR (ms.set a u)) (a :: P))
                  case measure => omega
                  case rel => exact ⟨A3, c3, some ⟨g4, 0, none⟩, c4, L, a :: P, ms.set a u, S, by simp only [List.length_cons]; omega, rfl, rfl, Nat.le_refl _, Lib.hid ⟨by rw [show intsP (a :: P).reverse = intsP P.reverse ++ [(a : Int)] from by rw [List.reverse_cons]; unfold intsP; rw [List.map_append]; rfl]; exact HN.out.1, HN.out.2, HU.out.2.2.2.2⟩⟩
                · have hSq : S[q] = false := by
                    cases hb : S[q] with
                    | false => rfl
                    | true => exact absurd (hqat.1 hb) hqm
                  rw [hSq] at s0
                  obtain ⟨⟨zA, zl, zc⟩, w5, hrun, hzl, hM5⟩ := hM2.push q (by dsimp only; rw [List.length_append, intsP_len, List.length_reverse]; simp; omega)
                  dsimp only at hrun hzl
                  subst hzl
                  simp only [List.length_append, intsP_len, List.length_reverse, List.length_singleton] at hrun
                  have hEz : intsP P.reverse ++ [(a : Int)] ++ [(q : Int)] = intsP (q :: a :: P).reverse := by rw [List.reverse_cons, List.reverse_cons]; unfold intsP; rw [List.map_append, List.map_append]; rfl
                  rw [hEz] at hM5
                  have HN := Lib.hid (And.intro hM5 (HU.out.2.2.2.1.go ha HU.out.2.1 hqn hqm))
                  have hLR2 := HN.out.2.dfs.len
                  simp only [List.length_cons] at hLR2
                  have hg1 : leftM (plR (ms.set a u)) (q :: a :: P) + 1 ≤ gk := by have := HU.out.2.2.1; unfold leftM at this hgk ⊢; simp only [List.length_cons] at this hgk ⊢; omega
                  have hszs : ((wq.setCell ⟨gm, a, none⟩ (.slice (some ⟨tb, tof + 1, none⟩) l.length (tc - 1))).setCell ⟨w.heap.size + 1, q, none⟩ (.bool true)).heap.size = wq.heap.size := by simp
                  rw [hszs] at hrun
                  clear hqm hqat hSq hM hM1 hM2 hM5 han hsz hgk hqs hqn hEz hrel
                  go_wp2_with (at_builtin; refine wpL_appK _ rfl (.tmp 81) (.tmp 83) 25 rfl rfl _ _ _ _ rfl rfl hrun ?_)
                  go_roundg (leftM (plR (ms.set a u)) (q :: a :: P))
                  case measure => omega
                  case rel => exact ⟨A3, c3, zA, zc, L, q :: a :: P, ms.set a u, S.set q true, by simp only [List.length_cons]; omega, rfl, by simp only [List.length_cons], Nat.le_refl _, Lib.hid ⟨HN.out.1, HN.out.2, by
                    have h1 := HU.out.2.2.2.2.1
                    simp only [List.mem_append, List.mem_cons] at h1 ⊢
                    rcases h1 with h | h | h
                    · exact .inl h
                    · exact .inr (.inr (.inl h))
                    · exact .inr (.inr (.inr h)), HU.out.2.2.2.2.2⟩⟩
    · have hfI : ¬ (f : Int) < (x.N.length : Int) := by omega
      have HF := Lib.hid hrel.out
      clear hrel
      go_wp2_with (fail)
      go_ret
      exact ⟨A3, c3, L, rfl, HF.out.2.1.dfs.done (fun q hq => HF.out.2.2 q (by omega)), HF.out.1.out, HF.out.1.bel⟩
theorem left_any (x : RV) (E : List Pr) (w : World) (hx : x.Ok w) (hr : Rdy x E) : Calls Try.prog 43 #[.agg (rvA x)] w (LfPost x w) := by
  by_cases h0 : x.N.length = 0
  · exact left_none x E w hx hr h0
  · exact left_some x E w hx hr (by omega)
end Go.Proofs.Ytgjjdmkoamjdpaa
