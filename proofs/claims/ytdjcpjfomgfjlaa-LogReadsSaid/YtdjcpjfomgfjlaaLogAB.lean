/- The document's log: Read. -/
import Derived.Test.YtdjcpjfomgfjlaaLogAA
import Derived.Deep.CutBlock
import Derived.Deep.CutRange
import Derived.Deep.LoopGhost
namespace Go.Proofs.Ytdjcpjfomgfjlaa
open Go.RowKit Go.Maps

theorem grown_of_fr {w w' : World} {p : Nat} (h : Fr w w' [p]) : w.grownBy w' (some p) := ⟨h.os, h.tape, h.output, h.size, fun k hk hs => h.block k hk (fun hm => hs (by rw [List.mem_singleton.1 hm]))⟩
def recN : Option Rec → Nat
  | none => 0
  | some x => x.1
def recD : Option Rec → List UInt8
  | none => []
  | some x => x.2
def recB : Option Rec → Bool
  | none => false
  | some _ => true
theorem recOV_eq (X : Option Rec) : recOV X = .tuple #[.agg #[(.int .i64 (recN X : Int)), (.string ⟨(recD X).toArray⟩)], .bool (recB X)] := by
  rcases X with _ | ⟨s, d⟩ <;> rfl
def nxtN (P : List Rec) : Nat := (nextR none P).getD 1
abbrev dkO (s0 f0 : Value) (A : Option Addr) (N c : Nat) (st lf : Int) : Obj := .cells #[s0, .slice A N c, f0, .int .i64 st, .int .i64 lf] 33
abbrev lgO (first count : Nat) (A : Option Addr) (n c nx : Nat) : Obj := .cells #[.int .i64 (first : Int), .int .i64 (count : Int), .slice A n c, .int .i64 (nx : Int)] 42
/-- Where Read's loop is: the disk's box, the result's, the log's with the records that are read. -/
structure RdL (w wr : World) (dk : Obj) (first count : Nat) (P : List Rec) (nx : Nat) : Prop where
  dbox : wr.heap[w.heap.size]? = some dk
  res : wr.heap[w.heap.size + 1]? = some (.cells #[.int .i64 0, .int .i64 0, .slice none 0 0, .int .i64 0] 42 (0, 0))
  box : ∃ A c, wr.heap[w.heap.size + 2]? = some (lgO first count A P.length c nx) ∧ wr.ownsRow (w.heap.size + 3) 97 2 (.slice A P.length c) P.length (recS P)
  below : Below w.heap.size w wr
  size : w.heap.size + 3 ≤ wr.heap.size
theorem RdL.kept {w wr w' : World} {dk : Obj} {first count nx : Nat} {P : List Rec} (h : RdL w wr dk first count P nx) (hb : Below wr.heap.size wr w') : RdL w w' dk first count P nx := by
  obtain ⟨A, c, hg, ho⟩ := h.box
  exact ⟨(hb.block _ (heap_lt h.dbox)).trans h.dbox, (hb.block _ (heap_lt h.res)).trans h.res, ⟨A, c, (hb.block _ (heap_lt hg)).trans hg, own_below ho hb (Nat.le_refl _)⟩, h.below.trans (lower' hb h.below.size), Nat.le_trans h.size hb.size⟩
/-- The records are others now. -/
theorem RdL.put {w wr w' : World} {dk : Obj} {first count nx : Nat} {P P' : List Rec} (h : RdL w wr dk first count P nx) (hb : Below wr.heap.size wr w') {A : Option Addr} {c : Nat} (ho : w'.ownsRow wr.heap.size 97 2 (.slice A P'.length c) P'.length (recS P')) :
    RdL w (w'.setCell ⟨w.heap.size + 2, 2, none⟩ (.slice A P'.length c)) dk first count P' nx := by
  have h2 := h.kept hb
  obtain ⟨A0, c0, hg, _⟩ := h2.box
  have hf : Fr w' (w'.setCell ⟨w.heap.size + 2, 2, none⟩ (.slice A P'.length c)) [w.heap.size + 2] := (Fr.refl _ _).setCell (by simp) _
  have hset := heap_setCell_same w' (w.heap.size + 2) 2 _ _ (.slice A P'.length c) hg
  refine ⟨(hf.block _ (heap_lt h2.dbox) (by simp)).trans h2.dbox, (hf.block _ (heap_lt h2.res) (by simp)).trans h2.res, ⟨A, c, by simpa using hset, ?_⟩, h2.below.trans (hf.below h2.below.size (by simp)), by have := hf.size; have := h2.size; omega⟩
  have ho' := own_mono ho h.size
  exact own_keptBy (g := w.heap.size + 2) ho' (grown_of_fr hf) (by omega)
/-- The next number is another. -/
theorem RdL.next {w wr : World} {dk : Obj} {first count nx : Nat} {P : List Rec} (h : RdL w wr dk first count P nx) (n2 : Nat) : RdL w (wr.setCell ⟨w.heap.size + 2, 3, none⟩ (.int .i64 (n2 : Int))) dk first count P n2 := by
  obtain ⟨A0, c0, hg, ho⟩ := h.box
  have hf : Fr wr (wr.setCell ⟨w.heap.size + 2, 3, none⟩ (.int .i64 (n2 : Int))) [w.heap.size + 2] := (Fr.refl _ _).setCell (by simp) _
  have hset := heap_setCell_same wr (w.heap.size + 2) 3 _ _ (.int .i64 (n2 : Int)) hg
  exact ⟨(hf.block _ (heap_lt h.dbox) (by simp)).trans h.dbox, (hf.block _ (heap_lt h.res) (by simp)).trans h.res, ⟨A0, c0, by simpa using hset, own_keptBy (g := w.heap.size + 2) ho (grown_of_fr hf) (by omega)⟩, h.below.trans (hf.below h.below.size (by simp)), by have := hf.size; have := h.size; omega⟩
/-- What the loop has come to. -/
structure RdP (g : Nat → List UInt8) (first behind : Nat) (P : List Rec) : Prop where
  sc : scan g behind first none = P ++ scan g behind (endR first P) (nextR none P)
  le : endR first P ≤ behind
  dat : ∀ x ∈ P, x.2.length ≤ 4000
  nx : nxtN P ≤ 4611686018427387905
theorem RdP.add {g : Nat → List UInt8} {first behind : Nat} {P : List Rec} (h : RdP g first behind P) (hg : ∀ i, i < behind → (g i).length = 64) {s : Nat} {d : List UInt8} (hr : recO g (endR first P) behind = some (s, d)) (hn : P = [] ∨ s = nxtN P) : RdP g first behind (P ++ [(s, d)]) := by
  obtain ⟨h1, h2, h3, h4, h5, h6⟩ := recO_some hg hr
  have hnx : nextR none P = none ∨ nextR none P = some s := by
    rcases hn with rfl | rfl
    · exact .inl rfl
    · by_cases hP : P = []
      · subst hP; exact .inl rfl
      · have := nextR_some hP
        exact .inr this
  have he : endR first (P ++ [(s, d)]) = endR first P + 1 + secs d.length := by rw [endR_append]; rfl
  refine ⟨?_, by rw [he]; omega, ?_, by unfold nxtN; rw [nextR_snoc]; show s + 1 ≤ _; omega⟩
  · rw [h.sc, scan_rec hg hr hnx, he, nextR_snoc]
    simp
  · intro x hx
    rcases List.mem_append.1 hx with hx | hx
    · exact h.dat x hx
    · rw [List.mem_singleton.1 hx]; exact h6
theorem RdP.done {g : Nat → List UInt8} {first behind : Nat} {P : List Rec} (h : RdP g first behind P) (hd : scan g behind (endR first P) (nextR none P) = []) : scan g behind first none = P := by rw [h.sc, hd, List.append_nil]
theorem rdl_cells {w W : World} {s0 f0 : Value} {A A2 : Option Addr} {N c c2 first count n nx : Nat} {st lf : Int} (h1 : W.heap[w.heap.size]? = some (dkO s0 f0 A N c st lf)) (h2 : W.heap[w.heap.size + 2]? = some (lgO first count A2 n c2 nx)) : ∀ w' : World, Below W.heap.size W w' →
    (w'.cell? ⟨w.heap.size, 0, none⟩ = some s0 ∧ w'.cell? ⟨w.heap.size, 1, none⟩ = some (.slice A N c) ∧ w'.cell? ⟨w.heap.size, 2, none⟩ = some f0 ∧ w'.cell? ⟨w.heap.size, 3, none⟩ = some (.int .i64 st) ∧ w'.cell? ⟨w.heap.size, 4, none⟩ = some (.int .i64 lf)) ∧
    w'.cell? ⟨w.heap.size + 2, 0, none⟩ = some (.int .i64 (first : Int)) ∧ w'.cell? ⟨w.heap.size + 2, 1, none⟩ = some (.int .i64 (count : Int)) ∧ w'.cell? ⟨w.heap.size + 2, 2, none⟩ = some (.slice A2 n c2) ∧ w'.cell? ⟨w.heap.size + 2, 3, none⟩ = some (.int .i64 (nx : Int)) := fun w' hb => by
  have g1 := (hb.block _ (heap_lt h1)).trans h1
  have g2 := (hb.block _ (heap_lt h2)).trans h2
  exact ⟨⟨cell_of_row w' _ 0 _ _ _ g1, cell_of_row w' _ 1 _ _ _ g1, cell_of_row w' _ 2 _ _ _ g1, cell_of_row w' _ 3 _ _ _ g1, cell_of_row w' _ 4 _ _ _ g1⟩, cell_of_row w' _ 0 _ _ _ g2, cell_of_row w' _ 1 _ _ _ g2, cell_of_row w' _ 2 _ _ _ g2, cell_of_row w' _ 3 _ _ _ g2⟩
theorem undrew4 {w w' : World} {B : Nat} (hb : Below B w.drew w') : Below B w w' := ⟨hb.os, hb.tape, hb.output, hb.size, hb.block⟩
theorem set4 {w : World} {b : Nat} {t : TypeId} {x0 x1 x2 x3 : Value} (h : w.heap[b]? = some (.cells #[x0, x1, x2, x3] t (0, 0))) (v0 v1 v2 v3 : Value) :
    ((((w.setCell ⟨b, 0, none⟩ v0).setCell ⟨b, 1, none⟩ v1).setCell ⟨b, 2, none⟩ v2).setCell ⟨b, 3, none⟩ v3).heap[b]? = some (.cells #[v0, v1, v2, v3] t (0, 0)) := by
  have h1 := heap_setCell_same w b 0 #[x0, x1, x2, x3] t v0 h
  have h2 := heap_setCell_same _ b 1 _ t v1 h1
  have h3 := heap_setCell_same _ b 2 _ t v2 h2
  have h4 := heap_setCell_same _ b 3 _ t v3 h3
  simpa using h4
theorem resRead {w : World} {b : Nat} {v0 v1 v2 v3 : Value} (h : w.heap[b]? = some (.cells #[v0, v1, v2, v3] 42 (0, 0))) (tmps : Array Value) (h4 : tmps.getD 6 undef = .pointer (some ⟨b, 0, none⟩)) :
    (results Try.f42 tmps).run Try.prog w = .ok (.agg #[v0, v1, v2, v3]) w := by
  have e0 := cell_of_row w b 0 _ _ _ h; have e1 := cell_of_row w b 1 _ _ _ h; have e2 := cell_of_row w b 2 _ _ _ h; have e3 := cell_of_row w b 3 _ _ _ h
  have h4' := h4
  simp only [Array.getD_eq_getD_getElem?] at h4'
  simp [results, Try.results42, go_sem, h4', e0, e1, e2, e3]
theorem rdl_two {w W : World} {br : Nat} {A2 : Option Addr} {first count n c2 nx s : Nat} {d : List UInt8} (h2 : W.heap[w.heap.size + 2]? = some (lgO first count A2 n c2 nx)) (h3 : W.heap[br]? = some (.cells #[.int .i64 (s : Int), .string ⟨d.toArray⟩] 97 (0, 0))) : ∀ w' : World, Below W.heap.size W w' → w'.cell? ⟨w.heap.size + 2, 2, none⟩ = some (.slice A2 n c2) ∧ w'.cell? ⟨br, 0, none⟩ = some (.int .i64 (s : Int)) ∧ w'.cell? ⟨br, 1, none⟩ = some (.string ⟨d.toArray⟩) := fun w' hb => by
  have g2 := (hb.block _ (heap_lt h2)).trans h2
  have g3 := (hb.block _ (heap_lt h3)).trans h3
  exact ⟨cell_of_row w' _ 2 _ _ _ g2, cell_of_row w' _ 0 _ _ _ g3, cell_of_row w' _ 1 _ _ _ g3⟩
theorem rdl_cell2 {w W w' : World} {dk : Obj} {first count nx : Nat} {P : List Rec} (h : RdL w W dk first count P nx) (hb : Below W.heap.size W w') : (∃ v, w'.cell? ⟨w.heap.size + 2, 2, none⟩ = some v) ∧ w'.frozen? ⟨w.heap.size + 2, 2, none⟩ = false := by
  obtain ⟨A, c, hg, _⟩ := (h.kept hb).box
  exact ⟨⟨_, cell_of_row w' _ 2 _ _ _ hg⟩, frozen_of_row w' _ 2 _ _ hg⟩
theorem box_new {W w6 : World} (h : Below W.heap.size W w6) (v0 v1 : Value) : Below W.heap.size W (w6.alloc (.cells #[v0, v1] 97)) ∧ (w6.alloc (.cells #[v0, v1] 97)).heap[w6.heap.size]? = some (.cells #[v0, v1] 97 (0, 0)) ∧ W.heap.size ≤ w6.heap.size :=
  ⟨h.alloc h.size _, heap_alloc_new w6 _, h.size⟩
theorem box_set {W w6 : World} {b : Nat} {x0 x1 : Value} (h : Below W.heap.size W w6) (hg : w6.heap[b]? = some (.cells #[x0, x1] 97 (0, 0))) (hb : W.heap.size ≤ b) (v0 v1 : Value) : Below W.heap.size W ((w6.setCell ⟨b, 0, none⟩ v0).setCell ⟨b, 1, none⟩ v1) ∧ ((w6.setCell ⟨b, 0, none⟩ v0).setCell ⟨b, 1, none⟩ v1).heap[b]? = some (.cells #[v0, v1] 97 (0, 0)) ∧ W.heap.size ≤ b :=
  ⟨below_set2 h hb v0 v1, set2 hg v0 v1, hb⟩
set_option maxRecDepth 100000 in
set_option maxHeartbeats 4000000 in
theorem rread_any (g : Nat → List UInt8) (N first count : Nat) (s0 f0 : Value) (st lf : Int) (A : Option Addr) (c B : Nat) (w : World) (hr : Rd w B A (strs ((List.range N).map g))) (hB : B ≤ w.heap.size) (hg : ∀ i, i < N → (g i).length = 64) (hfit : first + count ≤ N) (hN : N ≤ 4096) :
    Calls Try.prog 42 #[.agg #[s0, .slice A N c, f0, .int .i64 st, .int .i64 lf], .int .i64 (first : Int), .int .i64 (count : Int)] w fun e w' => ∃ A' c', e = .returned (.agg #[.int .i64 (first : Int), .int .i64 (count : Int), .slice A' (scan g (first + count) first none).length c', .int .i64 (nxtN (scan g (first + count) first none) : Int)]) ∧ w'.ownsRow w.heap.size 97 2 (.slice A' (scan g (first + count) first none).length c') (scan g (first + count) first none).length (recS (scan g (first + count) first none)) ∧ Below w.heap.size w w' := by
  have hw3 : RdL w (((w.alloc (dkO s0 f0 A N c st lf)).alloc (.cells #[.int .i64 0, .int .i64 0, .slice none 0 0, .int .i64 0] 42)).alloc (.cells #[.int .i64 (first : Int), .int .i64 (count : Int), .slice none 0 0, .int .i64 1] 42)) (dkO s0 f0 A N c st lf) first count [] 1 := by
    have hs1 := alloc1_size w (dkO s0 f0 A N c st lf)
    have hs2 := alloc1_size (w.alloc (dkO s0 f0 A N c st lf)) (.cells #[.int .i64 0, .int .i64 0, .slice none 0 0, .int .i64 0] 42)
    have h1 := heap_alloc_new w (dkO s0 f0 A N c st lf)
    have h2 := heap_alloc_new (w.alloc (dkO s0 f0 A N c st lf)) (.cells #[.int .i64 0, .int .i64 0, .slice none 0 0, .int .i64 0] 42)
    have h3 := heap_alloc_new ((w.alloc (dkO s0 f0 A N c st lf)).alloc (.cells #[.int .i64 0, .int .i64 0, .slice none 0 0, .int .i64 0] 42)) (.cells #[.int .i64 (first : Int), .int .i64 (count : Int), .slice none 0 0, .int .i64 1] 42)
    rw [hs1] at h2
    rw [hs2, hs1] at h3
    refine ⟨(Below.heap_alloc _ _ _ (by rw [hs2]; omega)).trans ((Below.heap_alloc _ _ _ (by rw [hs1]; omega)).trans h1), (Below.heap_alloc _ _ _ (by rw [hs2]; omega)).trans h2, ⟨none, 0, h3, World.ownsRow_nil _ _ _ 2⟩, (((Below.refl _ _).alloc (Nat.le_refl _) _).alloc (by rw [hs1]; omega) _).alloc (by rw [hs2]; omega) _, by rw [alloc1_size, hs2, hs1]; omega⟩
  have hp0 : RdP g first (first + count) [] := ⟨rfl, Nat.le_add_right _ _, (fun x hx => by cases hx), by show 1 ≤ _; omega⟩
  have HH := Lib.hid (And.intro hr (And.intro hB (And.intro hg (And.intro hfit hN))))
  have hfI : (first : Int) + (count : Int) ≤ 4096 := by omega
  have HW := Lib.hid (And.intro hw3 hp0)
  obtain ⟨rs, hrs⟩ : ∃ rs, rs = scan g (first + count) first none := ⟨_, rfl⟩
  rw [← hrs]
  have HRS := Lib.hid hrs
  clear hr hB hg hfit hN hw3 hp0 hrs
  go_enter Try.func42, Try.ntmps42
  go_upto_block 0 with (fail)
  generalize (((w.alloc (dkO s0 f0 A N c st lf)).alloc (.cells #[.int .i64 0, .int .i64 0, .slice none 0 0, .int .i64 0] 42)).alloc (.cells #[.int .i64 (first : Int), .int .i64 (count : Int), .slice none 0 0, .int .i64 1] 42)) = W3 at HW ⊢
  go_cut [8, 9] from 13 to 55 (fun r o w' => Hid (RdL w w' (dkO s0 f0 A N c st lf) first count rs (nxtN rs)))
  case first =>
    go_wp2_with (fail)
    go_loopg [8, 9] (first + count + 1) (fun gh r o wr => ∃ P : List Rec, first + count ≤ endR first P + gh ∧ Hid (RdL w wr (dkO s0 f0 A N c st lf) first count P (nxtN P) ∧ RdP g first (first + count) P))
    case atStart => exact ⟨[], by show first + count ≤ first + _; omega, HW⟩
    case round =>
      obtain ⟨P, hgh, HP⟩ := hrel
      obtain ⟨A2, c2, hbx, hown⟩ := HP.out.1.box
      have hcs := rdl_cells HP.out.1.dbox hbx
      have hPl : P.length ≤ 4096 := by have := endR_le first P; have := HP.out.2.le; have := HH.out.2.2.2.1; have := HH.out.2.2.2.2; omega
      have hrd := Rd.ofOwn hown
      have hen := fun (W' : World) (hW' : Below wr.heap.size wr W') => rEnd_any first (count : Int) (nxtN P : Int) P A2 c2 wr.heap.size W' (hrd.below hW' (Nat.le_refl _)) hW'.size HP.out.2.dat (by have := HP.out.2.le; have := HH.out.2.2.2.1; have := HH.out.2.2.2.2; omega)
      obtain ⟨E, hE⟩ : ∃ E, E = endR first P := ⟨_, rfl⟩
      rw [← hE] at hen hgh
      have hEle : E ≤ first + count := by rw [hE]; exact HP.out.2.le
      have HE := Lib.hid (And.intro hE hPl)
      have HEN := Lib.hid hen
      have KS := Lib.hid hcs
      have HO := Lib.hid (And.intro hbx hown)
      clear hbx hown hcs hPl hrd hen hE
      obtain ⟨⟨x0, x1, x2, x3, x4⟩, y0, y1, y2, y3⟩ := KS.out wr (Below.refl _ _)
      by_cases hlt : E < first + count
      · have hltI : (E : Int) < (first : Int) + (count : Int) := by omega
        have hEN : E < N := by have := HH.out.2.2.2.1; omega
        have hrec := fun (W' : World) (hW' : Below wr.heap.size wr W') => rrec_any g N E (first + count) s0 f0 st lf A c B W' (HH.out.1.below (HP.out.1.below.trans (lower' hW' HP.out.1.below.size)) HH.out.2.1) (Nat.le_trans HH.out.2.1 (Nat.le_trans HP.out.1.below.size hW'.size)) HH.out.2.2.1 hEN HH.out.2.2.2.1 HH.out.2.2.2.2
        obtain ⟨X, hX⟩ : ∃ X, X = recO g E (first + count) := ⟨_, rfl⟩
        rw [← hX, recOV_eq, Int.natCast_add] at hrec
        have HRC := Lib.hid hrec
        have HX := Lib.hid hX
        have HLT := Lib.hid (And.intro hlt hgh)
        clear hrec hX hlt hgh
        go_upto_region 3 with (go_at_call 43; (with_reducible refine (HEN.out wr (Below.refl _ _)).mono ?_); rintro e w2 ⟨rfl, hb2⟩)
        clear x0 x1 x2 x3 x4 y0 y1 y2 y3
        go_cut [8, 9] from 19 to 28 (fun r o w' => ∃ br : Nat, r = .pointer (some ⟨br, 0, none⟩) ∧ o = .bool (recB X) ∧ Hid (Below wr.heap.size wr w' ∧ w'.heap[br]? = some (.cells #[(.int .i64 (recN X : Int)), (.string ⟨(recD X).toArray⟩)] 97 (0, 0)) ∧ wr.heap.size ≤ br))
        case first =>
          have hB0 : Below wr.heap.size wr w2.drew := hb2.drew
          have hS0 := KS.out w2.drew hB0
          have w1 : IntKind.i64.wrap ((first : Int) + (count : Int)) = (first : Int) + (count : Int) := IntWalk.i64_in _ (by omega)
          refine wp_region_M (fun j => decide (j < 7) || j == 10) (fun w' => (w'.cell? ⟨w.heap.size, 0, none⟩ = some s0 ∧ w'.cell? ⟨w.heap.size, 1, none⟩ = some (.slice A N c) ∧ w'.cell? ⟨w.heap.size, 2, none⟩ = some f0 ∧ w'.cell? ⟨w.heap.size, 3, none⟩ = some (.int .i64 st) ∧ w'.cell? ⟨w.heap.size, 4, none⟩ = some (.int .i64 lf)) ∧ w'.cell? ⟨w.heap.size + 2, 0, none⟩ = some (.int .i64 (first : Int)) ∧ w'.cell? ⟨w.heap.size + 2, 1, none⟩ = some (.int .i64 (count : Int)) ∧ w'.cell? ⟨w.heap.size + 2, 2, none⟩ = some (.slice A2 P.length c2) ∧ w'.cell? ⟨w.heap.size + 2, 3, none⟩ = some (.int .i64 (nxtN P : Int))) (by kernel_rfl) ?_
          refine wpAnyM_take (i := 0) (v := ?_) rfl (by kernel_rfl) (by kernel_rfl) (by kernel_rfl) (by kernel_rfl) (fun _ _ _ h => h) (Or.inl ⟨by rfl, ?_⟩) hS0 ?_
          rotate_left
          · intro w hSw; (try dsimp only at hSw); go_simp; (try with_reducible rfl)
          simp only [Act.put, List.getElem_toArray, List.getElem_cons_zero, List.getElem_cons_succ, List.setIfInBounds_toArray, List.set_cons_zero, List.set_cons_succ]
          refine wpAnyM_take (i := 1) (v := ?_) rfl (by kernel_rfl) (by kernel_rfl) (by kernel_rfl) (by kernel_rfl) (fun _ _ _ h => h) (Or.inl ⟨by rfl, ?_⟩) hS0 ?_
          rotate_left
          · intro w hSw; (try dsimp only at hSw); go_simp; (try with_reducible rfl)
          simp only [Act.put, List.getElem_toArray, List.getElem_cons_zero, List.getElem_cons_succ, List.setIfInBounds_toArray, List.set_cons_zero, List.set_cons_succ]
          refine wpAnyM_take (i := 3) (v := ?_) rfl (by kernel_rfl) (by kernel_rfl) (by kernel_rfl) (by kernel_rfl) (fun _ _ _ h => h) (Or.inl ⟨by rfl, ?_⟩) hS0 ?_
          rotate_left
          · intro w hSw; (try dsimp only at hSw); go_simp; (try with_reducible rfl)
          simp only [Act.put, List.getElem_toArray, List.getElem_cons_zero, List.getElem_cons_succ, List.setIfInBounds_toArray, List.set_cons_zero, List.set_cons_succ]
          refine wpAnyM_take (i := 4) (v := ?_) rfl (by kernel_rfl) (by kernel_rfl) (by kernel_rfl) (by kernel_rfl) (fun _ _ _ h => h) (Or.inl ⟨by rfl, ?_⟩) hS0 ?_
          rotate_left
          · intro w hSw; (try dsimp only at hSw); go_simp; (try with_reducible rfl)
          simp only [Act.put, List.getElem_toArray, List.getElem_cons_zero, List.getElem_cons_succ, List.setIfInBounds_toArray, List.set_cons_zero, List.set_cons_succ]
          refine wpAnyM_take (i := 5) (v := ?_) rfl (by kernel_rfl) (by kernel_rfl) (by kernel_rfl) (by kernel_rfl) (fun _ _ _ h => h) (Or.inl ⟨by rfl, ?_⟩) hS0 ?_
          rotate_left
          · intro w hSw; (try dsimp only at hSw); go_simp; (try with_reducible rfl)
          simp only [Act.put, List.getElem_toArray, List.getElem_cons_zero, List.getElem_cons_succ, List.setIfInBounds_toArray, List.set_cons_zero, List.set_cons_succ]
          refine wpAnyM_two (i := 2) (j := 10) (by kernel_rfl) rfl rfl (fun K hK => ?_) (fun K hK => ?_)
          · skip
            go_simp
            go_wp2_with (go_at_call 43; (with_reducible refine (HEN.out _ hB0).mono ?_); rintro e w5 ⟨rfl, hbw5⟩)
            have hB5 := hB0.trans (lower' hbw5 hB0.size)
            refine hK.out _ _ (fun _ => KS.out _ hB5) ?_
            clear hK K
            refine wpAnyM_two (i := 6) (j := 10) (by kernel_rfl) rfl rfl (fun K hK => ?_) (fun K hK => ?_)
            · skip
              go_simp
              go_wp2_with (go_at_call 74; (with_reducible refine (HRC.out _ hB5).mono ?_); rintro e w6 ⟨rfl, hbw6⟩)
              have hB6 := hB5.trans (lower' hbw6 hB5.size)
              refine hK.out _ _ (fun _ => KS.out _ hB6) ?_
              clear hK K
              refine wpAnyM_value (i := 7) (v := ?_) rfl (by kernel_rfl) (by kernel_rfl) (by kernel_rfl) (by kernel_rfl) (fun _ _ _ h => h) (Or.inl ⟨by rfl, ?_⟩) ?_
              rotate_left
              · intro w hSw; go_simp; (try with_reducible rfl)
              simp only [Act.put, List.getElem_toArray, List.getElem_cons_zero, List.getElem_cons_succ, List.setIfInBounds_toArray, List.set_cons_zero, List.set_cons_succ]
              refine wpAnyM_value (i := 8) (v := ?_) rfl (by kernel_rfl) (by kernel_rfl) (by kernel_rfl) (by kernel_rfl) (fun _ _ _ h => h) (Or.inl ⟨by rfl, ?_⟩) ?_
              rotate_left
              · intro w hSw; go_simp; (try with_reducible rfl)
              simp only [Act.put, List.getElem_toArray, List.getElem_cons_zero, List.getElem_cons_succ, List.setIfInBounds_toArray, List.set_cons_zero, List.set_cons_succ]
              refine wpAnyM_value (i := 9) (v := ?_) rfl (by kernel_rfl) (by kernel_rfl) (by kernel_rfl) (by kernel_rfl) (fun _ _ _ h => h) (Or.inl ⟨by rfl, ?_⟩) ?_
              rotate_left
              · intro w hSw; go_simp; (try with_reducible rfl)
              simp only [Act.put, List.getElem_toArray, List.getElem_cons_zero, List.getElem_cons_succ, List.setIfInBounds_toArray, List.set_cons_zero, List.set_cons_succ]
              refine wpAnyM_one (i := 10) (by kernel_rfl) rfl (fun K hK => ?_)
              go_simp
              refine hK.out _ _ (fun _ => KS.out _ (hB6.alloc hB6.size _)) ?_
              clear hK K
              have gx := heap_alloc_new w6 (.cells #[.int .i64 0, .string ⟨#[]⟩] 97)
              have cx0 := cell_of_row _ _ 0 _ _ _ gx; have cx1 := cell_of_row _ _ 1 _ _ _ gx; have fx0 := frozen_of_row _ _ 0 _ _ gx; have fx1 := frozen_of_row _ _ 1 _ _ gx
              refine wpAnyM_one (i := 11) (by kernel_rfl) rfl (fun K hK => ?_)
              go_simp
              refine hK.out _ _ (fun h => absurd h (by decide)) ?_
              clear hK K
              refine wpAnyM_value (i := 12) (v := ?_) rfl (by kernel_rfl) (by kernel_rfl) (by kernel_rfl) (by kernel_rfl) (fun _ _ _ h => h) (Or.inl ⟨by rfl, ?_⟩) ?_
              rotate_left
              · intro w hSw; go_simp; (try with_reducible rfl)
              simp only [Act.put, List.getElem_toArray, List.getElem_cons_zero, List.getElem_cons_succ, List.setIfInBounds_toArray, List.set_cons_zero, List.set_cons_succ]
              refine wpAnyM_done (by kernel_rfl) ?_ _
              go_wp2_with (fail)
              go_meet
              case rel => exact ⟨_, rfl, rfl, Lib.hid (box_new hB6 _ _)⟩
            · skip
              go_simp
              refine hK.out _ _ (fun _ => KS.out _ (hB5.alloc hB5.size _)) ?_
              clear hK K
              have hB5a := hB5.alloc hB5.size (.cells #[.int .i64 0, .string ⟨#[]⟩] 97)
              refine wpAnyM_one (i := 6) (by kernel_rfl) rfl (fun K hK => ?_)
              go_simp
              go_wp2_with (go_at_call 74; (with_reducible refine (HRC.out _ hB5a).mono ?_); rintro e w6 ⟨rfl, hbw6⟩)
              have hB6 := hB5a.trans (lower' hbw6 hB5a.size)
              refine hK.out _ _ (fun _ => KS.out _ hB6) ?_
              clear hK K
              refine wpAnyM_value (i := 7) (v := ?_) rfl (by kernel_rfl) (by kernel_rfl) (by kernel_rfl) (by kernel_rfl) (fun _ _ _ h => h) (Or.inl ⟨by rfl, ?_⟩) ?_
              rotate_left
              · intro w hSw; go_simp; (try with_reducible rfl)
              simp only [Act.put, List.getElem_toArray, List.getElem_cons_zero, List.getElem_cons_succ, List.setIfInBounds_toArray, List.set_cons_zero, List.set_cons_succ]
              refine wpAnyM_value (i := 8) (v := ?_) rfl (by kernel_rfl) (by kernel_rfl) (by kernel_rfl) (by kernel_rfl) (fun _ _ _ h => h) (Or.inl ⟨by rfl, ?_⟩) ?_
              rotate_left
              · intro w hSw; go_simp; (try with_reducible rfl)
              simp only [Act.put, List.getElem_toArray, List.getElem_cons_zero, List.getElem_cons_succ, List.setIfInBounds_toArray, List.set_cons_zero, List.set_cons_succ]
              refine wpAnyM_value (i := 9) (v := ?_) rfl (by kernel_rfl) (by kernel_rfl) (by kernel_rfl) (by kernel_rfl) (fun _ _ _ h => h) (Or.inl ⟨by rfl, ?_⟩) ?_
              rotate_left
              · intro w hSw; go_simp; (try with_reducible rfl)
              simp only [Act.put, List.getElem_toArray, List.getElem_cons_zero, List.getElem_cons_succ, List.setIfInBounds_toArray, List.set_cons_zero, List.set_cons_succ]
              have gx := (hbw6.block _ (by simp)).trans (heap_alloc_new w5 (.cells #[.int .i64 0, .string ⟨#[]⟩] 97))
              have cx0 := cell_of_row _ _ 0 _ _ _ gx; have cx1 := cell_of_row _ _ 1 _ _ _ gx; have fx0 := frozen_of_row _ _ 0 _ _ gx; have fx1 := frozen_of_row _ _ 1 _ _ gx
              refine wpAnyM_one (i := 11) (by kernel_rfl) rfl (fun K hK => ?_)
              go_simp
              refine hK.out _ _ (fun h => absurd h (by decide)) ?_
              clear hK K
              refine wpAnyM_value (i := 12) (v := ?_) rfl (by kernel_rfl) (by kernel_rfl) (by kernel_rfl) (by kernel_rfl) (fun _ _ _ h => h) (Or.inl ⟨by rfl, ?_⟩) ?_
              rotate_left
              · intro w hSw; go_simp; (try with_reducible rfl)
              simp only [Act.put, List.getElem_toArray, List.getElem_cons_zero, List.getElem_cons_succ, List.setIfInBounds_toArray, List.set_cons_zero, List.set_cons_succ]
              refine wpAnyM_done (by kernel_rfl) ?_ _
              go_wp2_with (fail)
              go_meet
              case rel => exact ⟨_, rfl, rfl, Lib.hid (box_set hB6 gx hB5.size _ _)⟩
          · skip
            go_simp
            refine hK.out _ _ (fun _ => KS.out _ (hB0.alloc hB0.size _)) ?_
            clear hK K
            have hB0a := (hb2.alloc hb2.size (.cells #[.int .i64 0, .string ⟨#[]⟩] 97)).drew
            refine wpAnyM_one (i := 2) (by kernel_rfl) rfl (fun K hK => ?_)
            go_simp
            go_wp2_with (go_at_call 43; (with_reducible refine (HEN.out _ hB0a).mono ?_); rintro e w5 ⟨rfl, hbw5⟩)
            have hB5 := hB0a.trans (lower' hbw5 hB0a.size)
            refine hK.out _ _ (fun _ => KS.out _ hB5) ?_
            clear hK K
            refine wpAnyM_one (i := 6) (by kernel_rfl) rfl (fun K hK => ?_)
            go_simp
            go_wp2_with (go_at_call 74; (with_reducible refine (HRC.out _ hB5).mono ?_); rintro e w6 ⟨rfl, hbw6⟩)
            have hB6 := hB5.trans (lower' hbw6 hB5.size)
            refine hK.out _ _ (fun _ => KS.out _ hB6) ?_
            clear hK K
            refine wpAnyM_value (i := 7) (v := ?_) rfl (by kernel_rfl) (by kernel_rfl) (by kernel_rfl) (by kernel_rfl) (fun _ _ _ h => h) (Or.inl ⟨by rfl, ?_⟩) ?_
            rotate_left
            · intro w hSw; go_simp; (try with_reducible rfl)
            simp only [Act.put, List.getElem_toArray, List.getElem_cons_zero, List.getElem_cons_succ, List.setIfInBounds_toArray, List.set_cons_zero, List.set_cons_succ]
            refine wpAnyM_value (i := 8) (v := ?_) rfl (by kernel_rfl) (by kernel_rfl) (by kernel_rfl) (by kernel_rfl) (fun _ _ _ h => h) (Or.inl ⟨by rfl, ?_⟩) ?_
            rotate_left
            · intro w hSw; go_simp; (try with_reducible rfl)
            simp only [Act.put, List.getElem_toArray, List.getElem_cons_zero, List.getElem_cons_succ, List.setIfInBounds_toArray, List.set_cons_zero, List.set_cons_succ]
            refine wpAnyM_value (i := 9) (v := ?_) rfl (by kernel_rfl) (by kernel_rfl) (by kernel_rfl) (by kernel_rfl) (fun _ _ _ h => h) (Or.inl ⟨by rfl, ?_⟩) ?_
            rotate_left
            · intro w hSw; go_simp; (try with_reducible rfl)
            simp only [Act.put, List.getElem_toArray, List.getElem_cons_zero, List.getElem_cons_succ, List.setIfInBounds_toArray, List.set_cons_zero, List.set_cons_succ]
            have gx := (hbw6.block w2.heap.size (Nat.lt_of_lt_of_le (show w2.heap.size < (w2.alloc (.cells #[.int .i64 0, .string ⟨#[]⟩] 97)).heap.size by simp) hbw5.size)).trans ((hbw5.block w2.heap.size (show w2.heap.size < (w2.alloc (.cells #[.int .i64 0, .string ⟨#[]⟩] 97)).heap.size by simp)).trans (heap_alloc_new w2 (.cells #[.int .i64 0, .string ⟨#[]⟩] 97)))
            have cx0 := cell_of_row _ _ 0 _ _ _ gx; have cx1 := cell_of_row _ _ 1 _ _ _ gx; have fx0 := frozen_of_row _ _ 0 _ _ gx; have fx1 := frozen_of_row _ _ 1 _ _ gx
            refine wpAnyM_one (i := 11) (by kernel_rfl) rfl (fun K hK => ?_)
            go_simp
            refine hK.out _ _ (fun h => absurd h (by decide)) ?_
            clear hK K
            refine wpAnyM_value (i := 12) (v := ?_) rfl (by kernel_rfl) (by kernel_rfl) (by kernel_rfl) (by kernel_rfl) (fun _ _ _ h => h) (Or.inl ⟨by rfl, ?_⟩) ?_
            rotate_left
            · intro w hSw; go_simp; (try with_reducible rfl)
            simp only [Act.put, List.getElem_toArray, List.getElem_cons_zero, List.getElem_cons_succ, List.setIfInBounds_toArray, List.set_cons_zero, List.set_cons_succ]
            refine wpAnyM_done (by kernel_rfl) ?_ _
            go_wp2_with (fail)
            go_meet
            case rel => exact ⟨_, rfl, rfl, Lib.hid (box_set hB6 gx hb2.size _ _)⟩
        case rest =>
          obtain ⟨br, rfl, rfl, HBR⟩ := hcut
          have hkc := HP.out.1.kept HBR.out.1
          obtain ⟨A3, c3, hbx, hown⟩ := hkc.box
          have e3 : A3 = A2 ∧ c3 = c2 := by
            have h1 := (HBR.out.1.block _ (heap_lt HO.out.1)).trans HO.out.1
            rw [hbx] at h1
            simp only [Option.some.injEq, Obj.cells.injEq, Array.mk.injEq, List.cons.injEq, Value.slice.injEq] at h1
            exact ⟨h1.1.2.2.1.1, h1.1.2.2.1.2.2⟩
          obtain ⟨rfl, rfl⟩ := e3
          have r0 := cell_of_row wc br 0 _ _ _ HBR.out.2.1; have r1 := cell_of_row wc br 1 _ _ _ HBR.out.2.1
          have y2 := cell_of_row wc (w.heap.size + 2) 2 _ _ _ hbx; have y3 := cell_of_row wc (w.heap.size + 2) 3 _ _ _ hbx
          have HKC := Lib.hid (And.intro hkc (And.intro hbx hown))
          clear hkc hbx hown HRC
          cases X with
          | none =>
            have hfin : rs = P := by rw [HRS.out]; exact HP.out.2.done (scan_norec (by rw [← HE.out.1]; exact HX.out.symm))
            have HF := Lib.hid hfin
            clear hfin
            simp only [recN, recD, recB] at r0 r1 ⊢
            go_wp2_with (fail)
            go_meet
            case rel => rw [HF.out]; exact HKC.out.1 |> Lib.hid
          | some x =>
            obtain ⟨s, d⟩ := x
            simp only [recN, recD, recB] at r0 r1 ⊢
            by_cases hP : P = [] ∨ s = nxtN P
            · have hadd := HP.out.2.add (fun i hi => HH.out.2.2.1 i (by have := HH.out.2.2.2.1; omega)) (by rw [← HE.out.1]; exact HX.out.symm) hP
              have hso := recO_some (fun i hi => HH.out.2.2.1 i (by have := HH.out.2.2.2.1; omega)) HX.out.symm
              have hsI : (s : Int) ≤ 4611686018427387904 := by omega
              have HAD := Lib.hid (And.intro hadd hso)
              clear hadd hso
              have hd2 : (P = [] ∧ decide (0 < P.length) = false ∧ ¬ (0 : Int) < (P.length : Int)) ∨ (decide (0 < P.length) = true ∧ (0 : Int) < (P.length : Int) ∧ s = nxtN P) := by
                by_cases h0 : P = []
                · exact .inl ⟨h0, by rw [h0]; rfl, by rw [h0]; simp⟩
                · have hl := List.length_pos_iff.2 h0
                  exact .inr ⟨decide_eq_true hl, by omega, hP.resolve_left h0⟩
              clear hP
              go_upto_region 4 with (fail)
              obtain ⟨WC, hWC⟩ : ∃ WC, WC = wc := ⟨_, rfl⟩
              rw [← hWC] at HBR HKC r0 r1 y2 y3 ⊢
              clear hWC
              go_cut [43] from 29 to 43 (fun tt w' => tt = .bool false ∧ w' = WC)
              case first =>
                rcases hd2 with ⟨-, h1, h2⟩ | ⟨h1, h2, h3⟩
                · go_wp2_with (fail)
                  go_meet
                  case rel => exact ⟨rfl, rfl⟩
                · have q1 : (s : Int) = (nxtN P : Int) := by rw [h3]
                  have q2 : ((s : Int) == (nxtN P : Int)) = true := by rw [q1]; simp
                  rw [← q1] at y3
                  clear h3 q1 q2
                  go_wp2_with (fail)
                  go_meet
                  case rel => exact ⟨rfl, rfl⟩
              case rest =>
                obtain ⟨rfl, hcw⟩ := hcut
                subst hcw
                go_upto_region 5 with (fail)
                go_cut [] from 44 to 51 (fun w' => Hid (RdL w w' (dkO s0 f0 A N c st lf) first count (P ++ [(s, d)]) (nxtN P) ∧ w'.heap[br]? = some (.cells #[.int .i64 (s : Int), .string ⟨d.toArray⟩] 97 (0, 0))))
                case first =>
                  have KT := Lib.hid (rdl_two HKC.out.2.1 HBR.out.2.1)
                  have hS0 := KT.out wc.drew (Below.refl _ _).drew
                  have hrd := Rd.ofOwn HKC.out.2.2
                  have HRD := Lib.hid (And.intro hrd (And.intro HE.out.2 (Nat.le_refl wc.heap.size)))
                  clear hrd y2 y3 r0 r1
                  refine wp_region_M (fun j => decide (j < 7)) (fun w' => w'.cell? ⟨w.heap.size + 2, 2, none⟩ = some (.slice A3 P.length c3) ∧ w'.cell? ⟨br, 0, none⟩ = some (.int .i64 (s : Int)) ∧ w'.cell? ⟨br, 1, none⟩ = some (.string ⟨d.toArray⟩)) (by kernel_rfl) ?_
                  refine wpAnyM_take (i := 1) (v := ?_) rfl (by kernel_rfl) (by kernel_rfl) (by kernel_rfl) (by kernel_rfl) (fun _ _ _ h => h) (Or.inl ⟨by rfl, ?_⟩) hS0 ?_
                  rotate_left
                  · intro w hSw; (try dsimp only at hSw); go_simp; (try with_reducible rfl)
                  simp only [Act.put, List.getElem_toArray, List.getElem_cons_zero, List.getElem_cons_succ, List.setIfInBounds_toArray, List.set_cons_zero, List.set_cons_succ]
                  refine wpAnyM_take (i := 2) (v := ?_) rfl (by kernel_rfl) (by kernel_rfl) (by kernel_rfl) (by kernel_rfl) (fun _ _ _ h => h) (Or.inl ⟨by rfl, ?_⟩) hS0 ?_
                  rotate_left
                  · intro w hSw; (try dsimp only at hSw); go_simp; (try with_reducible rfl)
                  simp only [Act.put, List.getElem_toArray, List.getElem_cons_zero, List.getElem_cons_succ, List.setIfInBounds_toArray, List.set_cons_zero, List.set_cons_succ]
                  refine wpAnyM_take (i := 4) (v := ?_) rfl (by kernel_rfl) (by kernel_rfl) (by kernel_rfl) (by kernel_rfl) (fun _ _ _ h => h) (Or.inl ⟨by rfl, ?_⟩) hS0 ?_
                  rotate_left
                  · intro w hSw; (try dsimp only at hSw); go_simp; (try with_reducible rfl)
                  simp only [Act.put, List.getElem_toArray, List.getElem_cons_zero, List.getElem_cons_succ, List.setIfInBounds_toArray, List.set_cons_zero, List.set_cons_succ]
                  refine wpAnyM_two (i := 0) (j := 5) (by kernel_rfl) rfl rfl (fun K hK => ?_) (fun K hK => ?_)
                  · skip
                    go_simp
                    refine hK.out _ _ (fun _ => KT.out _ ((Below.refl _ _).alloc (Nat.le_refl _) _).drew) ?_
                    clear hK K
                    refine wpAnyM_two (i := 3) (j := 5) (by kernel_rfl) rfl rfl (fun K hK => ?_) (fun K hK => ?_)
                    · skip
                      obtain ⟨A5, c5, w5, A6, c6, w6, hrun5, hrun6, hown6, hb6, hb5⟩ := order1d (A := A3) (c := c3) (W := wc) HRD.out.1 HRD.out.2.2 (by have := HRD.out.2.1; omega) s d
                      refine step_appK _ (by rfl) (.tmp 44) (.tmp 46) 40 rfl rfl _ _ _ _ rfl rfl hrun5 ?_
                      refine hK.out _ _ (fun _ => KT.out _ hb5) ?_
                      clear hK K
                      refine wpAnyM_one (i := 5) (by kernel_rfl) rfl (fun K hK => ?_)
                      go_simp
                      refine hK.out _ _ (fun _ => KT.out _ (hb5.alloc hb5.size _)) ?_
                      clear hK K
                      refine wpAnyM_one (i := 6) (by kernel_rfl) rfl (fun K hK => ?_)
                      refine step_appK _ (by rfl) (.tmp 47) (.tmp 49) 40 rfl rfl _ _ _ _ rfl rfl hrun6 ?_
                      refine hK.out _ _ (fun _ => KT.out _ hb6) ?_
                      clear hK K
                      have hput := RdL.put (P' := P ++ [(s, d)]) HKC.out.1 hb6 (by rw [List.length_append]; exact hown6)
                      have hg6 := (hb6.block br (heap_lt HBR.out.2.1)).trans HBR.out.2.1
                      obtain ⟨⟨v2, y2⟩, yf2⟩ := rdl_cell2 HKC.out.1 hb6
                      have y2b : w6.cell? ⟨w.heap.size + 1 + 1, 2, none⟩ = some v2 := y2
                      have yf2b : w6.frozen? ⟨w.heap.size + 1 + 1, 2, none⟩ = false := yf2
                      refine wpAnyM_value (i := 7) (v := ?_) rfl (by kernel_rfl) (by kernel_rfl) (by kernel_rfl) (by kernel_rfl) (fun _ _ _ h => h) (Or.inl ⟨by rfl, ?_⟩) ?_
                      rotate_left
                      · intro w hSw; go_simp; (try with_reducible rfl)
                      simp only [Act.put, List.getElem_toArray, List.getElem_cons_zero, List.getElem_cons_succ, List.setIfInBounds_toArray, List.set_cons_zero, List.set_cons_succ]
                      refine wpAnyM_one (i := 8) (by kernel_rfl) rfl (fun K hK => ?_)
                      go_simp
                      refine hK.out _ _ (fun h => absurd h (by decide)) ?_
                      clear hK K
                      refine wpAnyM_done (by kernel_rfl) ?_ _
                      go_wp2_with (fail)
                      go_meet
                      case rel => exact Lib.hid ⟨by rw [List.length_append] at hput; exact hput, (Below.heap_setCell _ _ _ _ (by have := HBR.out.2.2; have := HP.out.1.size; show br ≠ w.heap.size + 2; omega)).trans hg6⟩
                    · skip
                      go_simp
                      refine hK.out _ _ (fun _ => KT.out _ (((Below.refl _ _).alloc (Nat.le_refl _) _).alloc (by simp) _).drew) ?_
                      clear hK K
                      refine wpAnyM_one (i := 3) (by kernel_rfl) rfl (fun K hK => ?_)
                      obtain ⟨A5, c5, w5, A6, c6, w6, hrun5, hrun6, hown6, hb6, hb5⟩ := order2d (A := A3) (c := c3) (W := wc) HRD.out.1 HRD.out.2.2 (by have := HRD.out.2.1; omega) s d
                      refine step_appK _ (by rfl) (.tmp 44) (.tmp 46) 40 rfl rfl _ _ _ _ rfl rfl hrun5 ?_
                      refine hK.out _ _ (fun _ => KT.out _ hb5) ?_
                      clear hK K
                      refine wpAnyM_one (i := 6) (by kernel_rfl) rfl (fun K hK => ?_)
                      refine step_appK _ (by rfl) (.tmp 47) (.tmp 49) 40 rfl rfl _ _ _ _ rfl rfl hrun6 ?_
                      refine hK.out _ _ (fun _ => KT.out _ hb6) ?_
                      clear hK K
                      have hput := RdL.put (P' := P ++ [(s, d)]) HKC.out.1 hb6 (by rw [List.length_append]; exact hown6)
                      have hg6 := (hb6.block br (heap_lt HBR.out.2.1)).trans HBR.out.2.1
                      obtain ⟨⟨v2, y2⟩, yf2⟩ := rdl_cell2 HKC.out.1 hb6
                      have y2b : w6.cell? ⟨w.heap.size + 1 + 1, 2, none⟩ = some v2 := y2
                      have yf2b : w6.frozen? ⟨w.heap.size + 1 + 1, 2, none⟩ = false := yf2
                      refine wpAnyM_value (i := 7) (v := ?_) rfl (by kernel_rfl) (by kernel_rfl) (by kernel_rfl) (by kernel_rfl) (fun _ _ _ h => h) (Or.inl ⟨by rfl, ?_⟩) ?_
                      rotate_left
                      · intro w hSw; go_simp; (try with_reducible rfl)
                      simp only [Act.put, List.getElem_toArray, List.getElem_cons_zero, List.getElem_cons_succ, List.setIfInBounds_toArray, List.set_cons_zero, List.set_cons_succ]
                      refine wpAnyM_one (i := 8) (by kernel_rfl) rfl (fun K hK => ?_)
                      go_simp
                      refine hK.out _ _ (fun h => absurd h (by decide)) ?_
                      clear hK K
                      refine wpAnyM_done (by kernel_rfl) ?_ _
                      go_wp2_with (fail)
                      go_meet
                      case rel => exact Lib.hid ⟨by rw [List.length_append] at hput; exact hput, (Below.heap_setCell _ _ _ _ (by have := HBR.out.2.2; have := HP.out.1.size; show br ≠ w.heap.size + 2; omega)).trans hg6⟩
                  · skip
                    go_simp
                    refine hK.out _ _ (fun _ => KT.out _ ((Below.refl _ _).alloc (Nat.le_refl _) _).drew) ?_
                    clear hK K
                    refine wpAnyM_one (i := 0) (by kernel_rfl) rfl (fun K hK => ?_)
                    go_simp
                    refine hK.out _ _ (fun _ => KT.out _ (((Below.refl _ _).alloc (Nat.le_refl _) _).alloc (by simp) _).drew) ?_
                    clear hK K
                    refine wpAnyM_one (i := 3) (by kernel_rfl) rfl (fun K hK => ?_)
                    obtain ⟨A5, c5, w5, A6, c6, w6, hrun5, hrun6, hown6, hb6, hb5⟩ := order3d (A := A3) (c := c3) (W := wc) HRD.out.1 HRD.out.2.2 (by have := HRD.out.2.1; omega) s d
                    refine step_appK _ (by rfl) (.tmp 44) (.tmp 46) 40 rfl rfl _ _ _ _ rfl rfl hrun5 ?_
                    refine hK.out _ _ (fun _ => KT.out _ hb5) ?_
                    clear hK K
                    refine wpAnyM_one (i := 6) (by kernel_rfl) rfl (fun K hK => ?_)
                    refine step_appK _ (by rfl) (.tmp 47) (.tmp 49) 40 rfl rfl _ _ _ _ rfl rfl hrun6 ?_
                    refine hK.out _ _ (fun _ => KT.out _ hb6) ?_
                    clear hK K
                    have hput := RdL.put (P' := P ++ [(s, d)]) HKC.out.1 hb6 (by rw [List.length_append]; exact hown6)
                    have hg6 := (hb6.block br (heap_lt HBR.out.2.1)).trans HBR.out.2.1
                    obtain ⟨⟨v2, y2⟩, yf2⟩ := rdl_cell2 HKC.out.1 hb6
                    have y2b : w6.cell? ⟨w.heap.size + 1 + 1, 2, none⟩ = some v2 := y2
                    have yf2b : w6.frozen? ⟨w.heap.size + 1 + 1, 2, none⟩ = false := yf2
                    refine wpAnyM_value (i := 7) (v := ?_) rfl (by kernel_rfl) (by kernel_rfl) (by kernel_rfl) (by kernel_rfl) (fun _ _ _ h => h) (Or.inl ⟨by rfl, ?_⟩) ?_
                    rotate_left
                    · intro w hSw; go_simp; (try with_reducible rfl)
                    simp only [Act.put, List.getElem_toArray, List.getElem_cons_zero, List.getElem_cons_succ, List.setIfInBounds_toArray, List.set_cons_zero, List.set_cons_succ]
                    refine wpAnyM_one (i := 8) (by kernel_rfl) rfl (fun K hK => ?_)
                    go_simp
                    refine hK.out _ _ (fun h => absurd h (by decide)) ?_
                    clear hK K
                    refine wpAnyM_done (by kernel_rfl) ?_ _
                    go_wp2_with (fail)
                    go_meet
                    case rel => exact Lib.hid ⟨by rw [List.length_append] at hput; exact hput, (Below.heap_setCell _ _ _ _ (by have := HBR.out.2.2; have := HP.out.1.size; show br ≠ w.heap.size + 2; omega)).trans hg6⟩
                case rest =>
                  have hnx : nxtN (P ++ [(s, d)]) = s + 1 := by unfold nxtN; rw [nextR_snoc]; rfl
                  have r0 := cell_of_row wc br 0 _ _ _ hcut.out.2
                  obtain ⟨A9, c9, hbx9, -⟩ := hcut.out.1.box
                  have y3 := cell_of_row wc (w.heap.size + 2) 3 _ _ _ hbx9
                  have yf3 := frozen_of_row wc (w.heap.size + 2) 3 _ _ hbx9
                  have HC := hcut
                  have hsn := HC.out.1.next (s + 1)
                  have HSN := Lib.hid hsn
                  clear hsn hbx9 hcut
                  go_wp2_with (fail)
                  go_roundg (first + count - (E + 1))
                  case measure => have := HLT.out.1; have := HLT.out.2; omega
                  case rel =>
                    have he : endR first (P ++ [(s, d)]) = E + 1 + secs d.length := by rw [endR_append, ← HE.out.1]; rfl
                    exact ⟨P ++ [(s, d)], by rw [he]; have := HLT.out.1; omega, by rw [hnx]; exact Lib.hid ⟨by simpa using HSN.out, HAD.out.1⟩⟩
            · have hfin : rs = P := by
                rw [HRS.out]
                refine HP.out.2.done (scan_other (fun i hi => HH.out.2.2.1 i (by have := HH.out.2.2.2.1; omega)) (by rw [← HE.out.1]; exact HX.out.symm) ?_)
                rintro (h | h)
                · by_cases h0 : P = []
                  · exact hP (.inl h0)
                  · rw [nextR_some h0] at h; cases h
                · by_cases h0 : P = []
                  · exact hP (.inl h0)
                  · rw [nextR_some h0] at h; injection h with h; exact hP (.inr h.symm)
              have HF := Lib.hid hfin
              have h0 : P ≠ [] := fun h => hP (.inl h)
              have hne : ¬ (s : Int) = (nxtN P : Int) := fun h => hP (.inr (by omega))
              have hne2 : ((s : Int) == (nxtN P : Int)) = false := beq_eq_false_iff_ne.2 hne
              have hl := List.length_pos_iff.2 h0
              have h1 : decide (0 < P.length) = true := decide_eq_true hl
              have h2 : (0 : Int) < (P.length : Int) := by omega
              clear hfin h0 hl hP
              go_wp2_with (fail)
              go_meet
              case rel => rw [HF.out]; exact Lib.hid HKC.out.1
      · have hltI : ¬ (E : Int) < (first : Int) + (count : Int) := by omega
        have hfin : rs = P := by rw [HRS.out]; exact HP.out.2.done (scan_none (fun h => by rw [← HE.out.1] at h; omega))
        have HF := Lib.hid hfin
        clear hlt hfin
        go_wp2_with (go_at_call 43; (with_reducible refine (HEN.out wr (Below.refl _ _)).mono ?_); rintro e w2 ⟨rfl, hb2⟩)
        go_meet
        case rel => rw [HF.out]; exact Lib.hid (HP.out.1.kept hb2)
  case rest =>
    obtain ⟨A9, c9, hbx9, ho9⟩ := hcut.out.box
    have hrs9 := hcut.out.res
    have y0 := cell_of_row wc (w.heap.size + 2) 0 _ _ _ hbx9; have y1 := cell_of_row wc (w.heap.size + 2) 1 _ _ _ hbx9; have y2 := cell_of_row wc (w.heap.size + 2) 2 _ _ _ hbx9; have y3 := cell_of_row wc (w.heap.size + 2) 3 _ _ _ hbx9
    have z0 := cell_of_row wc (w.heap.size + 1) 0 _ _ _ hrs9; have z1 := cell_of_row wc (w.heap.size + 1) 1 _ _ _ hrs9; have z2 := cell_of_row wc (w.heap.size + 1) 2 _ _ _ hrs9; have z3 := cell_of_row wc (w.heap.size + 1) 3 _ _ _ hrs9
    have f0' := frozen_of_row wc (w.heap.size + 1) 0 _ _ hrs9; have f1' := frozen_of_row wc (w.heap.size + 1) 1 _ _ hrs9; have f2' := frozen_of_row wc (w.heap.size + 1) 2 _ _ hrs9; have f3' := frozen_of_row wc (w.heap.size + 1) 3 _ _ hrs9
    have HC := Lib.hid (And.intro hcut.out (And.intro hrs9 ho9))
    clear hcut hbx9 hrs9 ho9
    go_wp2_with (fail)
    have hf : Fr wc ((((wc.setCell ⟨w.heap.size + 1, 0, none⟩ (.int .i64 (first : Int))).setCell ⟨w.heap.size + 1, 1, none⟩ (.int .i64 (count : Int))).setCell ⟨w.heap.size + 1, 2, none⟩ (.slice A9 rs.length c9)).setCell ⟨w.heap.size + 1, 3, none⟩ (.int .i64 (nxtN rs : Int))) [w.heap.size + 1] := ((((Fr.refl _ _).setCell (by simp) _).setCell (by simp) _).setCell (by simp) _).setCell (by simp) _
    refine bodyPost_ret (resRead (set4 HC.out.2.1 _ _ _ _) _ rfl) rfl ⟨A9, c9, rfl, ?_, HC.out.1.below.trans (hf.below HC.out.1.below.size (by simp))⟩
    exact own_mono (own_keptBy (g := w.heap.size + 1) HC.out.2.2 (grown_of_fr hf) (by omega)) (by omega)
end Go.Proofs.Ytdjcpjfomgfjlaa
