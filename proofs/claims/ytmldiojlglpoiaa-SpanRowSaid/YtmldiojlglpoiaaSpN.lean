/- Edges of a label, their nodes: span.nodesOf; where a node stands: place. -/
import Derived.Test.YtmldiojlglpoiaaSpM
import Derived.Test.YtmldiojlglpoiaaSpE
namespace Go.Proofs.Ytmldiojlglpoiaa
open Go.RowKit Go.Maps Go.Sort

/-- Edges as a slice, more of them. -/
structure Es (w : World) (A : Option Addr) (c : Nat) (l : List Ed) : Prop where
  rd : Rd w w.heap.size A (edsC l)
  cap : l.length ≤ c
  sm : l.length ≤ 1000
theorem Es.below {w w' : World} {A : Option Addr} {c : Nat} {l : List Ed} (h : Es w A c l) (hb : Below w.heap.size w w') : Es w' A c l :=
  ⟨(h.rd.below hb (Nat.le_refl _)).more hb.size, h.cap, h.sm⟩
theorem Es.cell {w : World} {A : Option Addr} {c : Nat} {l : List Ed} (h : Es w A c l) {k : Nat} (hk : k < l.length) : ∃ b o, A = some ⟨b, o, none⟩ ∧ b < w.heap.size ∧ w.cell? ⟨b, o + k * 3, none⟩ = some (.int .i64 l[k].f) ∧ w.cell? ⟨b, o + k * 3 + 1, none⟩ = some (.string ⟨l[k].lab.toArray⟩) ∧ w.cell? ⟨b, o + k * 3 + 2, none⟩ = some (.int .i64 l[k].t) := by
  have hne : edsC l ≠ [] := fun e => by have := edsC_len l; rw [e] at this; simp at this; omega
  obtain ⟨b, o, e, hb, hc⟩ := h.rd hne
  have hat := fun j hj => flat3_at edC (fun _ => rfl) l k j hk hj
  refine ⟨b, o, e, hb, hc (k * 3) _ (hat 0 (by omega)), ?_, ?_⟩
  · rw [Nat.add_assoc]; exact hc (k * 3 + 1) _ (hat 1 (by omega))
  · rw [Nat.add_assoc]; exact hc (k * 3 + 2) _ (hat 2 (by omega))
/-- append of numbers onto a row of the call's own. -/
theorem run_appN (w : World) (lo : Nat) (u : TV) (ys : List Int) (h : OwnI w lo u) (hb : lo ≤ w.heap.size) (hl : u.l.length + ys.length ≤ 20000) :
    ∃ u' : TV, ∃ w', (Builtin.append_ #[31, 31] 31 #[.slice u.A u.l.length u.c, .slice (some ⟨w.heap.size, 0, none⟩) ys.length ys.length]).run Try.prog (w.alloc (.cells (intsV ys).toArray 3)) = .ok (.slice u'.A u'.l.length u'.c) w' ∧ u'.l = u.l ++ ys ∧ OwnI w' lo u' ∧ Fr (w.alloc (.cells (intsV ys).toArray 3)) w' u.val.ownBlock.toList ∧ (u'.val.ownBlock = u.val.ownBlock ∨ u'.val.ownBlock = some (w.heap.size + 1)) ∧ Below lo w w' := by
  obtain ⟨i, hi, hz0, hz1, hz2⟩ := info_parts infoInt
  have hb4 : Below w.heap.size w (w.alloc (.cells (intsV ys).toArray 3)) := (Below.refl _ _).alloc (Nat.le_refl _) _
  have hr4 := own_below h hb4 (Nat.le_refl _)
  have hrd : Rd (w.alloc (.cells (intsV ys).toArray 3)) (w.heap.size + 1) (some ⟨w.heap.size, 0, none⟩) (intsV ys) := Rd.new w (intsV ys).toArray 3 (0, 0)
  obtain ⟨v5, w5, hrun, g1, g2, g3⟩ := run_appR (P := Try.prog) _ lo 31 31 3 i _ 1 8 Try.underlying31 hi hz0 hz1 hz2 rfl (by omega) u.val u.l.length (intsV u.l) hr4 (w.heap.size + 1) (some ⟨w.heap.size, 0, none⟩) ys.length ys.length (intsV ys) (by rw [intsV_len, Nat.mul_one]) hrd (intsV_one _) (by omega) (by omega) (Nat.le_trans hb hb4.size)
  have e1 : intsV u.l ++ intsV ys = intsV (u.l ++ ys) := (List.map_append).symm
  rw [e1] at g1
  rw [alloc1_size] at g3
  obtain ⟨A, c, rfl, _, _, _⟩ := own_shape g1
  refine ⟨⟨A, u.l ++ ys, c⟩, w5, ?_, rfl, ?_, fr_grown g2, ?_, (lower' hb4 hb).trans (grown_below' g2 (fun z hz => (World.ownsRow.lt hr4 z hz).1) (Nat.le_trans hb hb4.size))⟩
  · rw [List.length_append]
    exact hrun
  · unfold OwnI TV.val
    rw [List.length_append]
    exact g1
  · rcases g3 with g3 | g3
    · exact .inl (by unfold TV.val; rw [List.length_append]; exact g3)
    · exact .inr (by unfold TV.val; rw [List.length_append]; exact g3)
/-- A row of numbers is answered, new. -/
def NwPost (w : World) (L : List Int) (e : Ending) (w' : World) : Prop := ∃ u : TV, e = .returned (.slice u.A u.l.length u.c) ∧ u.l = L ∧ OwnI w' w.heap.size u ∧ Below w.heap.size w w'
set_option maxRecDepth 100000 in
set_option maxHeartbeats 4000000 in
theorem nodesOf_any (lab : Nm) (A : Option Addr) (c : Nat) (es : List Ed) (w : World) (h : Es w A c es) : Calls Try.prog 64 #[.string ⟨lab.toArray⟩, .slice A es.length c] w (NwPost w (nodesL lab es)) := by
  have hs := h.sm
  have HA := Lib.hid h
  clear h
  go_enter Try.func64, Try.ntmps64
  go_wp2_with (fail)
  go_loopw [5, 10] (fun out i wr => ∃ (k : Nat) (u : TV), k ≤ es.length ∧ i = .int .i64 (k : Int) ∧ out = .slice u.A u.l.length u.c ∧ Hid (OwnI wr w.heap.size u ∧ u.l = endsL lab (es.take k) ∧ Below w.heap.size w wr)) (fun _ i _ => es.length - (intOf i).toNat)
  case atStart => exact ⟨0, ⟨none, [], 0⟩, by omega, rfl, rfl, Lib.hid ⟨World.ownsRow_nil _ _ _ _, rfl, Below.refl _ _⟩⟩
  case round =>
    obtain ⟨k, u, hk, rfl, rfl, hrel⟩ := hrel
    by_cases hlt : k < es.length
    · obtain ⟨b, o, hA, _, c0, c1, c2⟩ := (HA.out.below hrel.out.2.2).cell hlt
      have hlI : (k : Int) < (es.length : Int) := by omega
      have htk := endsL_take (lab := lab) hlt
      have hul : u.l.length ≤ 2000 := by
        rw [hrel.out.2.1]
        have h1 := endsL_len lab (es.take k)
        rw [List.length_take] at h1
        omega
      rw [hA]
      generalize es[k] = y at c0 c1 c2 htk
      have hg1 := heap_alloc_new wr (.cells #[.int .i64 y.f, .string ⟨y.lab.toArray⟩, .int .i64 y.t] 48)
      have hb1 := Below.alloc (Below.refl wr.heap.size wr) (Nat.le_refl _) (.cells #[.int .i64 y.f, .string ⟨y.lab.toArray⟩, .int .i64 y.t] 48)
      obtain ⟨d0, d1, d2⟩ := bx3 hg1
      have hu1 := hrel.out.1.below hb1
      have HR := Lib.hid (And.intro hrel.out.2.1 (And.intro htk (And.intro hu1 (hrel.out.2.2.trans (lower' hb1 hrel.out.2.2.size)))))
      clear hb1 hg1 hu1 htk hrel
      by_cases hlab : y.lab = lab
      · have hl : (y.lab == lab) = true := beq_iff_eq.2 hlab
        obtain ⟨u', w5, hrun, hul', hou, _, _, hb5⟩ := run_appN (wr.alloc (.cells #[.int .i64 y.f, .string ⟨y.lab.toArray⟩, .int .i64 y.t] 48)) w.heap.size u [y.f, y.t] HR.out.2.2.1 HR.out.2.2.2.size (by simp; omega)
        have hrun : (Builtin.append_ #[31, 31] 31 #[.slice u.A u.l.length u.c, .slice (some ⟨(wr.alloc (.cells #[.int .i64 y.f, .string ⟨y.lab.toArray⟩, .int .i64 y.t] 48)).heap.size, 0, none⟩) 2 2]).run Try.prog ((wr.alloc (.cells #[.int .i64 y.f, .string ⟨y.lab.toArray⟩, .int .i64 y.t] 48)).alloc (.cells #[.int .i64 y.f, .int .i64 y.t] 3)) = .ok (.slice u'.A u'.l.length u'.c) w5 := hrun
        rw [alloc1_size] at hrun
        have HN := Lib.hid (And.intro hou (And.intro (show u'.l = endsL lab (es.take (k + 1)) from by rw [hul', HR.out.1, HR.out.2.1, if_pos hlab]) (HR.out.2.2.2.trans hb5)))
        clear hlab hul' hou hb5
        go_wp2_with (at_builtin; refine wpL_appK _ rfl (.tmp 18) (.tmp 23) 31 rfl rfl _ _ _ _ rfl rfl hrun ?_)
        go_roundw
        case rel => exact ⟨k + 1, u', by omega, by go_num, rfl, HN⟩
        case measure => simp [intOf]; omega
      · have hl : (y.lab == lab) = false := beq_eq_false_iff_ne.2 hlab
        have HN := Lib.hid (show u.l = endsL lab (es.take (k + 1)) from by rw [HR.out.1, HR.out.2.1, if_neg hlab, List.append_nil])
        clear hlab
        go_wp2_with (fail)
        go_roundw
        case rel => exact ⟨k + 1, u, by omega, by go_num, rfl, Lib.hid ⟨HR.out.2.2.1, HN.out, HR.out.2.2.2⟩⟩
        case measure => simp [intOf]; omega
    · have hlI : ¬ (k : Int) < (es.length : Int) := by omega
      have hul := hrel.out.2.1
      rw [List.take_of_length_le (by omega)] at hul
      have hlen := endsL_len lab es
      have hoc := once13_any wr w.heap.size u hrel.out.1 (by rw [hul]; omega)
      have HF := Lib.hid (And.intro hul (And.intro hrel.out.1 hrel.out.2.2))
      have HC := Lib.hid hoc
      clear hul hlen hoc hrel
      go_wp2_with (go_at_call 66; (with_reducible refine HC.out.mono ?_); rintro e w9 ⟨rfl, o9, f9⟩; have H9 := Lib.hid (And.intro o9 f9); clear o9 f9)
      go_ret
      refine ⟨⟨u.A, onceI u.l, u.c⟩, rfl, by dsimp only; rw [HF.out.1]; rfl, H9.out.1, HF.out.2.2.trans (H9.out.2.below HF.out.2.2.size fun s hs => (World.ownsRow.lt HF.out.2.1 s (by simpa using hs)).1)⟩
/-- A struct of roads: its nodes, where they lead, where they are led from. -/
structure RV where
  nA : Option Addr
  nc : Nat
  N : List Int
  o : LV
  i : LV
def rvA (x : RV) : Array Value := #[.slice x.nA x.N.length x.nc, .slice x.o.A x.o.ts.length x.o.c, .slice x.i.A x.i.ts.length x.i.c]
structure RV.Ok (w : World) (x : RV) : Prop where
  nd : TV.Ok w ⟨x.nA, x.N, x.nc⟩
  o : x.o.Ok w
  i : x.i.Ok w
theorem RV.Ok.below {w w' : World} {x : RV} (h : x.Ok w) (hb : Below w.heap.size w w') : x.Ok w' := ⟨h.nd.below hb, LV.Ok.below h.o hb, LV.Ok.below h.i hb⟩
/-- Rows of places, out of memory's numbers. -/
def plR (ts : List TV) : Rows := ts.map fun t => t.l.map Int.toNat
structure RV.Rd (x : RV) (E : List Pr) : Prop where
  roads : Roads x.N (plR x.o.ts) (plR x.i.ts) E
  po : ∀ t ∈ x.o.ts, ∀ v ∈ t.l, 0 ≤ v
  pi : ∀ t ∈ x.i.ts, ∀ v ∈ t.l, 0 ≤ v
theorem plR_at {ts : List TV} {p : Nat} (h : p < ts.length) : (plR ts).getD p [] = ts[p].l.map Int.toNat := by
  unfold plR
  rw [List.getD_eq_getElem?_getD, List.getElem?_eq_getElem (by simpa using h)]
  simp
theorem atR_lt {ts : List TV} {p q : Nat} (h : AtR (plR ts) p q) : p < ts.length := by
  unfold AtR at h
  rw [List.getD_eq_getElem?_getD] at h
  rcases Nat.lt_or_ge p ts.length with h1 | h1
  · exact h1
  · rw [List.getElem?_eq_none (by unfold plR; simpa using h1)] at h
    cases h
set_option maxRecDepth 100000 in
set_option maxHeartbeats 1000000 in
theorem place_yes (x : RV) (w : World) (hx : x.Ok w) (hN : RisI x.N) (p : Nat) (hp : p < x.N.length) : Calls Try.prog 65 #[.agg (rvA x), .int .i64 x.N[p]] w fun e w' => e = .returned (.tuple #[.int .i64 (p : Int), .bool true]) ∧ Below w.heap.size w w' := by
  have hb1 : Below w.heap.size w (w.alloc (.cells (rvA x) 76)) := (Below.refl _ _).alloc (Nat.le_refl _) _
  obtain ⟨q0, q1, q2⟩ := bx3 (heap_alloc_new w (.cells (rvA x) 76))
  obtain ⟨b, o, hA, _, _⟩ := hx.nd.cell (k := p) hp
  have hc := Any.slices_BinarySearch_int (P := Try.prog) Try.laysSearchI b o x.N.length x.nc x.N x.N[p] (w.alloc (.cells (rvA x) 76)) (Nat.le_refl _) (by have := hx.nd.sm; dsimp only at this; omega)
    (fun j hj => by
      obtain ⟨b', o', hA', _, hcl⟩ := (hx.nd.below hb1).cell (k := j) hj
      dsimp only at hA hA'
      rw [hA] at hA'
      injection hA' with hA'
      injection hA' with e8 e9
      subst e8 e9
      rw [hcl, List.getD_eq_getElem?_getD, List.getElem?_eq_getElem hj]
      rfl) (by rw [List.take_length]; exact hN.imp fun h => Int.le_of_lt h)
  have hcnt : (x.N.take x.N.length).countP (· < x.N[p]) = p := by
    rw [List.take_length]
    exact cnt_lt hN hp
  have hcon : (x.N.take x.N.length).contains x.N[p] = true := by rw [List.take_length]; exact List.contains_iff_mem.2 (List.getElem_mem hp)
  rw [hcnt, hcon] at hc
  dsimp only at hA
  have hc : Calls Try.prog 86 #[.slice x.nA x.N.length x.nc, .int .i64 x.N[p]] (w.alloc (.cells (rvA x) 76)) fun e w' => e = .returned (.tuple #[.int .i64 (p : Int), .bool true]) ∧ ∃ q, w' = (w.alloc (.cells (rvA x) 76)).drewN q := by rw [hA]; exact hc
  generalize x.N[p] = a at hc ⊢
  unfold rvA at hb1 q0 q1 q2 hc ⊢
  have HB := Lib.hid hb1
  have HC := Lib.hid hc
  clear hx hN hA hb1 hcnt hcon hc q1 q2
  go_enter Try.func65, Try.ntmps65
  go_wp2_with (go_at_call 86; (with_reducible refine HC.out.mono ?_); rintro e w2 ⟨rfl, hd⟩; have B2 := Lib.hid (below_drawn hd); clear hd)
  go_ret2
  exact ⟨rfl, HB.out.trans (lower' B2.out HB.out.size)⟩
set_option maxRecDepth 100000 in
set_option maxHeartbeats 1000000 in
theorem place_no (x : RV) (w : World) (hx : x.Ok w) (hN : RisI x.N) (a : Int) (ha : a ∉ x.N) : Calls Try.prog 65 #[.agg (rvA x), .int .i64 a] w fun e w' => ∃ i : Nat, e = .returned (.tuple #[.int .i64 (i : Int), .bool false]) ∧ Below w.heap.size w w' := by
  have hb1 : Below w.heap.size w (w.alloc (.cells (rvA x) 76)) := (Below.refl _ _).alloc (Nat.le_refl _) _
  obtain ⟨q0, q1, q2⟩ := bx3 (heap_alloc_new w (.cells (rvA x) 76))
  have hc : Calls Try.prog 86 #[.slice x.nA x.N.length x.nc, .int .i64 a] (w.alloc (.cells (rvA x) 76)) fun e w' => ∃ i : Nat, e = .returned (.tuple #[.int .i64 (i : Int), .bool false]) ∧ ∃ q, w' = (w.alloc (.cells (rvA x) 76)).drewN q := by
    by_cases h0 : x.N.length = 0
    · rw [h0]
      refine (Any.slices_BinarySearch_int_empty (P := Try.prog) Try.laysSearchI x.nA x.nc a _).mono ?_
      rintro e w' ⟨rfl, rfl⟩
      exact ⟨0, rfl, 0, rfl⟩
    · obtain ⟨b, o, hA, _, _⟩ := hx.nd.cell (k := 0) (by dsimp only; omega)
      have hc := Any.slices_BinarySearch_int (P := Try.prog) Try.laysSearchI b o x.N.length x.nc x.N a (w.alloc (.cells (rvA x) 76)) (Nat.le_refl _) (by have := hx.nd.sm; dsimp only at this; omega)
        (fun j hj => by
          obtain ⟨b', o', hA', _, hcl⟩ := (hx.nd.below hb1).cell (k := j) hj
          dsimp only at hA hA'
          rw [hA] at hA'
          injection hA' with hA'
          injection hA' with e8 e9
          subst e8 e9
          rw [hcl, List.getD_eq_getElem?_getD, List.getElem?_eq_getElem hj]
          rfl) (by rw [List.take_length]; exact hN.imp fun h => Int.le_of_lt h)
      rw [show (x.N.take x.N.length).contains a = false from by rw [List.take_length, ← Bool.not_eq_true, List.contains_iff_mem]; exact ha] at hc
      dsimp only at hA
      rw [hA]
      exact hc.mono fun e w' h => ⟨_, h.1, h.2⟩
  unfold rvA at hb1 q0 q1 q2 hc ⊢
  have HB := Lib.hid hb1
  have HC := Lib.hid hc
  clear hx hN hb1 hc q1 q2
  go_enter Try.func65, Try.ntmps65
  go_wp2_with (go_at_call 86; (with_reducible refine HC.out.mono ?_); rintro e w2 ⟨i, rfl, hd⟩; have B2 := Lib.hid (below_drawn hd); clear hd)
  go_ret2
  exact ⟨i, rfl, HB.out.trans (lower' B2.out HB.out.size)⟩
end Go.Proofs.Ytmldiojlglpoiaa
