/- (*words.splitter).add: a splitter in memory. -/
import Derived.Test.YtfgojbfdjbochaaDoorWdB
namespace Go.Proofs.YtfgojbfdjbochaaDoor
open Go.RowKit Go.Maps

def wdV (x : Wd) : List Value := [.bool x.nm, .string ⟨x.tx.toArray⟩, .int .i64 (x.ln : Int), .int .i64 (x.co : Int)]
def wdsV (L : List Wd) : List Value := L.flatMap wdV
theorem wdsV_append (L R : List Wd) : wdsV (L ++ R) = wdsV L ++ wdsV R := by simp [wdsV]
theorem wdsV_len (L : List Wd) : (wdsV L).length = L.length * 4 := by
  induction L with
  | nil => rfl
  | cons p L ih => simp only [wdsV, List.flatMap_cons] at ih ⊢; simp [ih, wdV]; omega
theorem infoWd : (Tryd.prog.info? 46).map (fun i => (i.zero, i.size, i.bytes)) = some (some (.agg #[.bool false, .string .empty, .int .i64 0, .int .i64 0]), 4, 40) := by kernel_rfl
/-- A splitter at block p; its words lie in a row from block lo on. -/
def SB (w : World) (p lo : Nat) (ws : List Wd) (wi : Nat) (pl f : Nat × Nat) : Prop :=
  ∃ A c, w.heap[p]? = some (.cells #[.slice A ws.length c, .int .i64 (wi : Int), .int .i64 (pl.1 : Int), .int .i64 (pl.2 : Int), .int .i64 (f.1 : Int), .int .i64 (f.2 : Int)] 53 (0, 0)) ∧
    w.ownsRow lo 46 4 (.slice A ws.length c) ws.length (wdsV ws)
/-- Of the blocks ahead of lo only p may have turned. -/
structure Kp (lo p : Nat) (w w' : World) : Prop where
  os : w'.os = w.os
  tape : w'.tape = w.tape
  output : w'.output = w.output
  size : w.heap.size ≤ w'.heap.size
  block : ∀ k, k < lo → k ≠ p → w'.heap[k]? = w.heap[k]?
section
variable {lo p : Nat} {a b c w w' : World}
theorem Kp.refl (w : World) : Kp lo p w w := ⟨rfl, rfl, rfl, Nat.le_refl _, fun _ _ _ => rfl⟩
theorem Kp.trans (h : Kp lo p a b) (k : Kp lo p b c) : Kp lo p a c := ⟨k.os.trans h.os, k.tape.trans h.tape, k.output.trans h.output, Nat.le_trans h.size k.size, fun i h1 h2 => (k.block i h1 h2).trans (h.block i h1 h2)⟩
theorem Kp.of_below {B : Nat} (h : Below B a b) (hB : lo ≤ B) : Kp lo p a b := ⟨h.os, h.tape, h.output, h.size, fun k h1 _ => h.block k (by omega)⟩
theorem Kp.setP (h : Kp lo p a w) (o : Nat) (u : Value) : Kp lo p a (w.setCell ⟨p, o, none⟩ u) := ⟨h.os, h.tape, h.output, by simpa using h.size, fun k h1 h2 => (Below.heap_setCell _ _ _ _ (fun e => h2 e)).trans (h.block k h1 h2)⟩
theorem Kp.drew (h : Kp lo p a w) : Kp lo p a w.drew := ⟨h.os, h.tape, h.output, h.size, h.block⟩
theorem Kp.drewN (h : Kp lo p a w) (n : Nat) : Kp lo p a (w.drewN n) := ⟨h.os, h.tape, h.output, h.size, h.block⟩
end
theorem SB.below {w w' : World} {p lo : Nat} {ws : List Wd} {wi : Nat} {pl f : Nat × Nat} (h : SB w p lo ws wi pl f) (hb : Below w.heap.size w w') : SB w' p lo ws wi pl f := by
  obtain ⟨A, c, h1, h2⟩ := h
  exact ⟨A, c, (hb.block p (heap_lt h1)).trans h1, own_below h2 hb (Nat.le_refl _)⟩

theorem grown_of_fr {w w' : World} {p : Nat} (h : Fr w w' [p]) : w.grownBy w' (some p) := ⟨h.os, h.tape, h.output, h.size, fun k h1 h2 => h.block k h1 (by intro e; simp at e; exact h2 (by rw [e]))⟩
/-- append of a word. -/
theorem app_word {W : World} {base : Nat} {A : Option Addr} {c : Nat} {L : List Wd} (hown : W.ownsRow base 46 4 (.slice A L.length c) L.length (wdsV L)) (x : Wd) (hB : base ≤ W.heap.size) (hn : L.length ≤ 1000000) :
    ∃ (A' : Option Addr) (c' : Nat) (w' : World), (Builtin.append_ #[23, 23] 23 #[.slice A L.length c, .slice (some ⟨W.heap.size, 0, none⟩) 1 1]).run Tryd.prog (W.alloc (.cells #[.bool x.nm, .string ⟨x.tx.toArray⟩, .int .i64 (x.ln : Int), .int .i64 (x.co : Int)] 46)) = .ok (.slice A' (L.length + 1) c') w' ∧
      w'.ownsRow base 46 4 (.slice A' (L.length + 1) c') (L.length + 1) (wdsV (L ++ [x])) ∧ Below base W w' ∧ (∀ p, p < base → w'.heap[p]? = W.heap[p]?) := by
  obtain ⟨i, hi, hz0, hz1, hz2⟩ := info_parts infoWd
  have hb : Below base W (W.alloc (.cells #[.bool x.nm, .string ⟨x.tx.toArray⟩, .int .i64 (x.ln : Int), .int .i64 (x.co : Int)] 46)) := (Below.refl _ _).alloc hB _
  obtain ⟨v', w', hrun, h1, h2, h3⟩ := run_appR (P := Tryd.prog) (W.alloc (.cells #[.bool x.nm, .string ⟨x.tx.toArray⟩, .int .i64 (x.ln : Int), .int .i64 (x.co : Int)] 46)) base 23 23 46 i _ 4 40 Tryd.underlying23 hi hz0 hz1 hz2 rfl (by omega) (.slice A L.length c) L.length (wdsV L) (World.ownsRow.alloc hown _) (W.heap.size + 1) (some ⟨W.heap.size, 0, none⟩) 1 1 (wdV x) rfl (Rd.new W #[.bool x.nm, .string ⟨x.tx.toArray⟩, .int .i64 (x.ln : Int), .int .i64 (x.co : Int)] 46 (0, 0)) (by simp [wdV, Value.oneCell']) (by omega) (by omega) (by simp; omega)
  obtain ⟨A', c', rfl, _, _, _⟩ := own_shape h1
  have hbl := hb.trans (grown_below' h2 (fun z hz => (World.ownsRow.lt hown z hz).1) (by simp; omega))
  refine ⟨A', c', w', hrun, ?_, hbl, fun p hp => hbl.block p hp⟩
  rw [wdsV_append]
  have : wdsV [x] = wdV x := by simp [wdsV]
  rw [this]
  exact h1

set_option maxRecDepth 100000 in
set_option maxHeartbeats 2000000 in
theorem add_any (p lo : Nat) (ws : List Wd) (wi : Nat) (pl f : Nat × Nat) (x : Wd) (w : World) (hS : SB w p lo ws wi pl f) (hp : p < lo) (hlo : lo ≤ w.heap.size) (hn : ws.length ≤ 100000) :
    Calls Tryd.prog 30 #[.pointer (some ⟨p, 0, none⟩), .agg #[.bool x.nm, .string ⟨x.tx.toArray⟩, .int .i64 0, .int .i64 0], .agg #[.int .i64 (x.ln : Int), .int .i64 (x.co : Int)]] w fun e w' => e = .returned (.tuple #[]) ∧ SB w' p lo (ws ++ [x]) wi pl f ∧ Kp lo p w w' := by
  obtain ⟨A, c, hblk, hown⟩ := hS
  have hpw := heap_lt hblk
  obtain ⟨n, hnn⟩ : ∃ n, n = w.heap.size := ⟨_, rfl⟩
  obtain ⟨g1, g2⟩ := two_new w (.cells #[.bool x.nm, .string ⟨x.tx.toArray⟩, .int .i64 0, .int .i64 0] 46) (.cells #[.int .i64 (x.ln : Int), .int .i64 (x.co : Int)] 50)
  have hb2 : Below n w ((w.alloc (.cells #[.bool x.nm, .string ⟨x.tx.toArray⟩, .int .i64 0, .int .i64 0] 46)).alloc (.cells #[.int .i64 (x.ln : Int), .int .i64 (x.co : Int)] 50)) := ((Below.refl _ _).alloc (by omega) _).alloc (by simp; omega) _
  have HX := Lib.hid (And.intro hblk (And.intro hown (And.intro hpw (And.intro hp (And.intro hlo hn)))))
  clear hblk hown hpw hp hlo hn
  go_enter Tryd.func30, Tryd.ntmps30
  go_upto_region 1 with (fail)
  rw [← hnn] at g1 g2 ⊢
  generalize ((w.alloc (.cells #[.bool x.nm, .string ⟨x.tx.toArray⟩, .int .i64 0, .int .i64 0] 46)).alloc (.cells #[.int .i64 (x.ln : Int), .int .i64 (x.co : Int)] 50)) = W at g1 g2 hb2 ⊢
  have HN := Lib.hid hnn
  clear hnn
  go_cut [] from 6 to 11 (fun w' => w'.heap[n]? = some (.cells #[.bool x.nm, .string ⟨x.tx.toArray⟩, .int .i64 (x.ln : Int), .int .i64 (x.co : Int)] 46 (0, 0)) ∧ Below n w w')
  case first =>
    have c0 : W.cell? ⟨n + 1, 0, none⟩ = some (.int .i64 (x.ln : Int)) := cell_of_row W _ 0 _ _ _ g2
    have c1 : W.cell? ⟨n + 1, 1, none⟩ = some (.int .i64 (x.co : Int)) := cell_of_row W _ 1 _ _ _ g2
    have d2 : W.cell? ⟨n, 2, none⟩ = some (.int .i64 0) := cell_of_row W _ 2 _ _ _ g1
    have d3 : W.cell? ⟨n, 3, none⟩ = some (.int .i64 0) := cell_of_row W _ 3 _ _ _ g1
    have e2 : W.frozen? ⟨n, 2, none⟩ = false := frozen_of_row W _ 2 _ _ g1
    have e3 : W.frozen? ⟨n, 3, none⟩ = false := frozen_of_row W _ 3 _ _ g1
    have HG := Lib.hid (And.intro g1 hb2)
    clear g1 g2 hb2
    have h23 : ((W.setCell ⟨n, 2, none⟩ (.int .i64 (x.ln : Int))).setCell ⟨n, 3, none⟩ (.int .i64 (x.co : Int))).heap[n]? = some (.cells #[.bool x.nm, .string ⟨x.tx.toArray⟩, .int .i64 (x.ln : Int), .int .i64 (x.co : Int)] 46 (0, 0)) := by simpa using heap_setCell_same _ n 3 _ _ (.int .i64 (x.co : Int)) (heap_setCell_same _ n 2 _ _ (.int .i64 (x.ln : Int)) HG.out.1)
    have h32 : ((W.setCell ⟨n, 3, none⟩ (.int .i64 (x.co : Int))).setCell ⟨n, 2, none⟩ (.int .i64 (x.ln : Int))).heap[n]? = some (.cells #[.bool x.nm, .string ⟨x.tx.toArray⟩, .int .i64 (x.ln : Int), .int .i64 (x.co : Int)] 46 (0, 0)) := by simpa using heap_setCell_same _ n 2 _ _ (.int .i64 (x.ln : Int)) (heap_setCell_same _ n 3 _ _ (.int .i64 (x.co : Int)) HG.out.1)
    have HB := Lib.hid ((HG.out.2.setCell (p := ⟨n, 2, none⟩) (Nat.le_refl _) (.int .i64 (x.ln : Int))).setCell (p := ⟨n, 3, none⟩) (Nat.le_refl _) (.int .i64 (x.co : Int))).drew
    have HB2 := Lib.hid ((HG.out.2.setCell (p := ⟨n, 3, none⟩) (Nat.le_refl _) (.int .i64 (x.co : Int))).setCell (p := ⟨n, 2, none⟩) (Nat.le_refl _) (.int .i64 (x.ln : Int))).drew
    go_region_with (fail)
    all_goals
      go_wp2_with (fail)
      go_meet
      case rel =>
        first
          | exact ⟨h23, HB.out⟩
          | exact ⟨h32, HB2.out⟩
  case rest =>
    clear g1 g2 hb2
    obtain ⟨hg, hb⟩ := hcut
    have hlo' : lo ≤ n := by rw [HN.out]; exact HX.out.2.2.2.2.1
    have hpn : p < n := by rw [HN.out]; exact HX.out.2.2.1
    have hblk2 := (hb.block p hpn).trans HX.out.1
    have hown2 := own_below HX.out.2.1 hb (by rw [HN.out]; exact Nat.le_refl _)
    have hn2 : n < wc.heap.size := heap_lt hg
    obtain ⟨A', c', w3, hrun, hown3, hb3, _⟩ := app_word (W := wc.drew) hown2 x (by show lo ≤ wc.heap.size; omega) (by have := HX.out.2.2.2.2.2; omega)
    replace hrun : (Builtin.append_ #[23, 23] 23 #[.slice A ws.length c, .slice (some ⟨wc.heap.size, 0, none⟩) 1 1]).run Tryd.prog (wc.alloc (.cells #[.bool x.nm, .string ⟨x.tx.toArray⟩, .int .i64 (x.ln : Int), .int .i64 (x.co : Int)] 46)).drew = .ok (.slice A' (ws.length + 1) c') w3 := hrun
    replace hb3 : Below lo wc w3 := (Below.refl _ _).drew.trans hb3
    have hA : Below wc.heap.size wc (wc.alloc (.cells #[.bool x.nm, .string ⟨x.tx.toArray⟩, .int .i64 (x.ln : Int), .int .i64 (x.co : Int)] 46)) := (Below.refl _ _).alloc (Nat.le_refl _) _
    have hb3p : w3.heap[p]? = wc.heap[p]? := hb3.block p HX.out.2.2.2.1
    have hblk3 := hb3p.trans hblk2
    have p0 : wc.cell? ⟨p, 0, none⟩ = some (.slice A ws.length c) := cell_of_row wc _ 0 _ _ _ hblk2
    have q0 : (wc.alloc (.cells #[.bool x.nm, .string ⟨x.tx.toArray⟩, .int .i64 (x.ln : Int), .int .i64 (x.co : Int)] 46)).cell? ⟨p, 0, none⟩ = some (.slice A ws.length c) := (hA.cell (p := ⟨p, 0, none⟩) (by show p < _; omega)).trans p0
    have r0 : w3.cell? ⟨p, 0, none⟩ = some (.slice A ws.length c) := cell_of_row w3 _ 0 _ _ _ hblk3
    have rf : w3.frozen? ⟨p, 0, none⟩ = false := frozen_of_row w3 _ 0 _ _ hblk3
    have d0 : wc.cell? ⟨n, 0, none⟩ = some (.bool x.nm) := cell_of_row wc _ 0 _ _ _ hg
    have d1 : wc.cell? ⟨n, 1, none⟩ = some (.string ⟨x.tx.toArray⟩) := cell_of_row wc _ 1 _ _ _ hg
    have d2 : wc.cell? ⟨n, 2, none⟩ = some (.int .i64 (x.ln : Int)) := cell_of_row wc _ 2 _ _ _ hg
    have d3 : wc.cell? ⟨n, 3, none⟩ = some (.int .i64 (x.co : Int)) := cell_of_row wc _ 3 _ _ _ hg
    have HZ : Hid (SB (w3.setCell ⟨p, 0, none⟩ (.slice A' (ws.length + 1) c')) p lo (ws ++ [x]) wi pl f ∧ Kp lo p w (w3.setCell ⟨p, 0, none⟩ (.slice A' (ws.length + 1) c'))) := Lib.hid (by
      have hset := heap_setCell_same w3 p 0 _ _ (.slice A' (ws.length + 1) c') hblk3
      refine ⟨⟨A', c', by rw [List.length_append]; simpa using hset, ?_⟩, ((Kp.of_below hb hlo').trans (Kp.of_below hb3 (Nat.le_refl _))).setP 0 _⟩
      have hl : (ws ++ [x]).length = ws.length + 1 := by simp
      rw [hl]
      exact own_keptBy (g := p) hown3 (Fr.refl w3 [p] |>.setCell (p := ⟨p, 0, none⟩) (by simp) _ |> grown_of_fr) HX.out.2.2.2.1)
    clear hblk2 hown2 hb3p hblk3 hown3 hb3 hA hb hg
    go_upto_region 2 with (fail)
    go_region_law (first
        | (refine step_appK _ (by rfl) (.tmp 16) (.tmp 18) 23 rfl rfl _ _ _ _ rfl rfl hrun ?_))
    all_goals
      go_end0
      exact ⟨rfl, HZ.out⟩
end Go.Proofs.YtfgojbfdjbochaaDoor
