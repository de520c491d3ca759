/- (*words.splitter).take: one rune. -/
import Derived.Test.YtfgojbfdjbochaaDoorWdE
namespace Go.Proofs.YtfgojbfdjbochaaDoor
open Go.RowKit Go.Maps

/-- What stands behind a rune that was taken, or not. -/
def TkPost (lo p : Nat) (w : World) (x : Except (Nat × Nat) Sp) (e : Ending) (w' : World) : Prop :=
  (match x with
    | .ok s' => e = .returned (.bool true) ∧ ∃ f, SB w' p lo s'.ws s'.wi s'.pl f
    | .error q => e = .returned (.bool false) ∧ ∃ ws wi pl, SB w' p lo ws wi pl q) ∧ Kp lo p w w'

set_option maxRecDepth 100000 in
set_option maxHeartbeats 4000000 in
theorem take_remEnd (p lo : Nat) (s : Sp) (f : Nat × Nat) (k r : Nat) (w : World) (hS : SB w p lo s.ws s.wi s.pl f) (hp : p < lo) (hlo : lo ≤ w.heap.size) (hg : Good s k) (hk : k ≤ 50000) (hw : s.wi = 2) (hr : r = 10) :
    Calls Tryd.prog 18 #[.pointer (some ⟨p, 0, none⟩), .int .i32 (r : Int)] w fun e w' => TkPost lo p w (tk s r) e w' := by
  obtain ⟨Q, hQ⟩ : ∃ Q : Ending → World → Prop, Q = fun e w' => TkPost lo p w (tk s r) e w' := ⟨_, rfl⟩
  rw [← hQ]
  have HQ := Lib.hid hQ
  clear hQ
  obtain ⟨⟨z1, z2, z3, -, -⟩, -, hpw⟩ := hS.cells
  have hB := fun W => behind_any s.pl r W (by have := hg.small; omega)
  obtain ⟨P1, hP1⟩ : ∃ P, P = bh s.pl r := ⟨_, rfl⟩
  rw [← hP1] at hB
  have HB := Lib.hid hB
  have HP1 := Lib.hid hP1
  clear hP1 hB
  have h1 := heap_alloc_new w (.cells #[.int .i64 (s.pl.1 : Int), .int .i64 (s.pl.2 : Int)] 50)
  have hb : Below w.heap.size w (w.alloc (.cells #[.int .i64 (s.pl.1 : Int), .int .i64 (s.pl.2 : Int)] 50)) := (Below.refl _ _).alloc (Nat.le_refl _) _
  have hsz : (w.alloc (.cells #[.int .i64 (s.pl.1 : Int), .int .i64 (s.pl.2 : Int)] 50)).heap.size = w.heap.size + 1 := by simp
  have HH := Lib.hid (And.intro hS (And.intro hp (And.intro hlo (And.intro hg (And.intro hk hpw)))))
  clear hS hp hlo hg hk hpw
  have hT : tk s r = .ok ⟨s.ws, 0, bh s.pl r⟩ := by unfold tk; rw [if_pos hw, if_pos hr]
  rw [hT] at HQ
  have hwI : (s.wi : Int) = 2 := by omega
  have hrb : ((r : Int) == 10) = true := beq_iff_eq.2 (by omega)
  clear hw hr hT
  go_enter Tryd.func18, Tryd.ntmps18
  go_upto_region 2 with (fail)
  obtain ⟨n, hn⟩ : ∃ n, n = w.heap.size := ⟨_, rfl⟩
  rw [← hn] at h1 ⊢
  generalize w.alloc (.cells #[.int .i64 (s.pl.1 : Int), .int .i64 (s.pl.2 : Int)] 50) = W at h1 hb hsz ⊢
  clear z1 z2 z3
  have hS1 := HH.out.1.below hb
  have hpn : p < n := by rw [hn]; exact HH.out.2.2.2.2.2
  have hlon : lo ≤ n := by rw [hn]; exact HH.out.2.2.1
  have hbn : Below n w W := by rw [hn]; exact hb
  have hWn : W.heap.size = n + 1 := by rw [hn]; exact hsz
  have d0 : W.cell? ⟨n, 0, none⟩ = some (.int .i64 (s.pl.1 : Int)) := cell_of_row W n 0 _ _ _ h1
  have d1 : W.cell? ⟨n, 1, none⟩ = some (.int .i64 (s.pl.2 : Int)) := cell_of_row W n 1 _ _ _ h1
  clear hb hsz hn
  go_wp2_with (fail)
  refine (HB.out _).mono ?_
  rintro e w2 ⟨rfl, hb2⟩
  have hS2 := hS1.below hb2
  obtain ⟨⟨-, y2, y3, -, -⟩, ⟨-, -, v2, v3, -, -⟩, hp2⟩ := hS2.cells
  have h2 := (hb2.block n (by omega)).trans h1
  have hs2 := hb2.size
  clear d0 d1 h1
  have hS3 := hS2.place HH.out.2.1 P1
  have hk3 : Kp lo p w ((w2.setCell ⟨p, 2, none⟩ (.int .i64 (P1.1 : Int))).setCell ⟨p, 3, none⟩ (.int .i64 (P1.2 : Int))) := (((Kp.of_below (p := p) hbn hlon).trans (Kp.of_below hb2 (by omega))).setP 2 _).setP 3 _
  have h3 : ((w2.setCell ⟨p, 2, none⟩ (.int .i64 (P1.1 : Int))).setCell ⟨p, 3, none⟩ (.int .i64 (P1.2 : Int))).heap[n]? = some (.cells #[.int .i64 (s.pl.1 : Int), .int .i64 (s.pl.2 : Int)] 50 (0, 0)) := ((Below.heap_setCell _ _ _ _ (by show n ≠ p; omega)).trans (Below.heap_setCell _ _ _ _ (by show n ≠ p; omega))).trans h2
  have hs3 : n < ((w2.setCell ⟨p, 2, none⟩ (.int .i64 (P1.1 : Int))).setCell ⟨p, 3, none⟩ (.int .i64 (P1.2 : Int))).heap.size := by simp; omega
  clear hS1 hS2 hb2 hbn h2 hWn hs2 hp2
  go_upto_region 3 with (fail)
  clear y2 y3 v2 v3
  generalize ((w2.setCell ⟨p, 2, none⟩ (.int .i64 (P1.1 : Int))).setCell ⟨p, 3, none⟩ (.int .i64 (P1.2 : Int))) = W3 at hS3 hk3 h3 hs3 ⊢
  obtain ⟨⟨z1, -, -, -, -⟩, ⟨-, v1, -, -, -, -⟩, hp3⟩ := hS3.cells
  have c0 : W3.cell? ⟨n, 0, none⟩ = some (.int .i64 (s.pl.1 : Int)) := cell_of_row W3 n 0 _ _ _ h3
  have c1 : W3.cell? ⟨n, 1, none⟩ = some (.int .i64 (s.pl.2 : Int)) := cell_of_row W3 n 1 _ _ _ h3
  have c0' : (W3.setCell ⟨p, 1, none⟩ (.int .i64 0)).cell? ⟨n, 0, none⟩ = some (.int .i64 (s.pl.1 : Int)) := (World.cell?_setCell_other W3 _ _ _ (by intro e; have e2 := congrArg Addr.block e; simp at e2; omega)).trans c0
  have c1' : (W3.setCell ⟨p, 1, none⟩ (.int .i64 0)).cell? ⟨n, 1, none⟩ = some (.int .i64 (s.pl.2 : Int)) := (World.cell?_setCell_other W3 _ _ _ (by intro e; have e2 := congrArg Addr.block e; simp at e2; omega)).trans c1
  have HZ := Lib.hid (And.intro (hS3.within HH.out.2.1 0) (hk3.setP 1 (.int .i64 0)))
  clear hS3 hk3 h3 hs3 hp3 c0 c1 c0' c1'
  go_wp2_with (fail)
  rw [HQ.out]
  exact ⟨⟨rfl, f, by rw [← HP1.out]; exact HZ.out.1⟩, HZ.out.2⟩

set_option maxRecDepth 100000 in
set_option maxHeartbeats 4000000 in
theorem take_remOn (p lo : Nat) (s : Sp) (f : Nat × Nat) (k r : Nat) (w : World) (hS : SB w p lo s.ws s.wi s.pl f) (hp : p < lo) (hlo : lo ≤ w.heap.size) (hg : Good s k) (hk : k ≤ 50000) (hw : s.wi = 2) (hr : r ≠ 10) :
    Calls Tryd.prog 18 #[.pointer (some ⟨p, 0, none⟩), .int .i32 (r : Int)] w fun e w' => TkPost lo p w (tk s r) e w' := by
  obtain ⟨Q, hQ⟩ : ∃ Q : Ending → World → Prop, Q = fun e w' => TkPost lo p w (tk s r) e w' := ⟨_, rfl⟩
  rw [← hQ]
  have HQ := Lib.hid hQ
  clear hQ
  obtain ⟨⟨z1, z2, z3, -, -⟩, -, hpw⟩ := hS.cells
  have hB := fun W => behind_any s.pl r W (by have := hg.small; omega)
  obtain ⟨P1, hP1⟩ : ∃ P, P = bh s.pl r := ⟨_, rfl⟩
  rw [← hP1] at hB
  have HB := Lib.hid hB
  have HP1 := Lib.hid hP1
  clear hP1 hB
  have h1 := heap_alloc_new w (.cells #[.int .i64 (s.pl.1 : Int), .int .i64 (s.pl.2 : Int)] 50)
  have hb : Below w.heap.size w (w.alloc (.cells #[.int .i64 (s.pl.1 : Int), .int .i64 (s.pl.2 : Int)] 50)) := (Below.refl _ _).alloc (Nat.le_refl _) _
  have hsz : (w.alloc (.cells #[.int .i64 (s.pl.1 : Int), .int .i64 (s.pl.2 : Int)] 50)).heap.size = w.heap.size + 1 := by simp
  have HH := Lib.hid (And.intro hS (And.intro hp (And.intro hlo (And.intro hg (And.intro hk hpw)))))
  clear hS hp hlo hg hk hpw
  have hT : tk s r = .ok ⟨s.ws, 2, bh s.pl r⟩ := by unfold tk; rw [if_pos hw, if_neg hr]
  rw [hT] at HQ
  have hwI : (s.wi : Int) = 2 := by omega
  have hrb : ((r : Int) == 10) = false := by rw [beq_eq_false_iff_ne]; omega
  have HW := Lib.hid hw
  clear hw hr hT
  go_enter Tryd.func18, Tryd.ntmps18
  go_upto_region 2 with (fail)
  obtain ⟨n, hn⟩ : ∃ n, n = w.heap.size := ⟨_, rfl⟩
  rw [← hn] at h1 ⊢
  generalize w.alloc (.cells #[.int .i64 (s.pl.1 : Int), .int .i64 (s.pl.2 : Int)] 50) = W at h1 hb hsz ⊢
  clear z1 z2 z3
  have hS1 := HH.out.1.below hb
  have hpn : p < n := by rw [hn]; exact HH.out.2.2.2.2.2
  have hlon : lo ≤ n := by rw [hn]; exact HH.out.2.2.1
  have hbn : Below n w W := by rw [hn]; exact hb
  have hWn : W.heap.size = n + 1 := by rw [hn]; exact hsz
  have d0 : W.cell? ⟨n, 0, none⟩ = some (.int .i64 (s.pl.1 : Int)) := cell_of_row W n 0 _ _ _ h1
  have d1 : W.cell? ⟨n, 1, none⟩ = some (.int .i64 (s.pl.2 : Int)) := cell_of_row W n 1 _ _ _ h1
  clear hb hsz hn
  go_wp2_with (fail)
  refine (HB.out _).mono ?_
  rintro e w2 ⟨rfl, hb2⟩
  have hS2 := hS1.below hb2
  obtain ⟨⟨-, y2, y3, -, -⟩, ⟨-, -, v2, v3, -, -⟩, hp2⟩ := hS2.cells
  have h2 := (hb2.block n (by omega)).trans h1
  have hs2 := hb2.size
  clear d0 d1 h1
  have hS3 := hS2.place HH.out.2.1 P1
  have hk3 : Kp lo p w ((w2.setCell ⟨p, 2, none⟩ (.int .i64 (P1.1 : Int))).setCell ⟨p, 3, none⟩ (.int .i64 (P1.2 : Int))) := (((Kp.of_below (p := p) hbn hlon).trans (Kp.of_below hb2 (by omega))).setP 2 _).setP 3 _
  have h3 : ((w2.setCell ⟨p, 2, none⟩ (.int .i64 (P1.1 : Int))).setCell ⟨p, 3, none⟩ (.int .i64 (P1.2 : Int))).heap[n]? = some (.cells #[.int .i64 (s.pl.1 : Int), .int .i64 (s.pl.2 : Int)] 50 (0, 0)) := ((Below.heap_setCell _ _ _ _ (by show n ≠ p; omega)).trans (Below.heap_setCell _ _ _ _ (by show n ≠ p; omega))).trans h2
  have hs3 : n < ((w2.setCell ⟨p, 2, none⟩ (.int .i64 (P1.1 : Int))).setCell ⟨p, 3, none⟩ (.int .i64 (P1.2 : Int))).heap.size := by simp; omega
  clear hS1 hS2 hb2 hbn h2 hWn hs2 hp2
  go_upto_region 3 with (fail)
  clear y2 y3 v2 v3
  generalize ((w2.setCell ⟨p, 2, none⟩ (.int .i64 (P1.1 : Int))).setCell ⟨p, 3, none⟩ (.int .i64 (P1.2 : Int))) = W3 at hS3 hk3 h3 hs3 ⊢
  obtain ⟨⟨z1, -, -, -, -⟩, ⟨-, v1, -, -, -, -⟩, hp3⟩ := hS3.cells
  have c0 : W3.cell? ⟨n, 0, none⟩ = some (.int .i64 (s.pl.1 : Int)) := cell_of_row W3 n 0 _ _ _ h3
  have c1 : W3.cell? ⟨n, 1, none⟩ = some (.int .i64 (s.pl.2 : Int)) := cell_of_row W3 n 1 _ _ _ h3
  have c0' : (W3.setCell ⟨p, 1, none⟩ (.int .i64 0)).cell? ⟨n, 0, none⟩ = some (.int .i64 (s.pl.1 : Int)) := (World.cell?_setCell_other W3 _ _ _ (by intro e; have e2 := congrArg Addr.block e; simp at e2; omega)).trans c0
  have c1' : (W3.setCell ⟨p, 1, none⟩ (.int .i64 0)).cell? ⟨n, 1, none⟩ = some (.int .i64 (s.pl.2 : Int)) := (World.cell?_setCell_other W3 _ _ _ (by intro e; have e2 := congrArg Addr.block e; simp at e2; omega)).trans c1
  have HZ := Lib.hid (And.intro hS3 hk3)
  clear hS3 hk3 h3 hs3 hp3 c0 c1 c0' c1'
  go_wp2_with (fail)
  rw [HQ.out]
  exact ⟨⟨rfl, f, by rw [← HP1.out]; have := HZ.out.1; rw [HW.out] at this; exact this⟩, HZ.out.2⟩

set_option maxRecDepth 100000 in
set_option maxHeartbeats 4000000 in
theorem take_let (p lo : Nat) (s : Sp) (f : Nat × Nat) (k r : Nat) (w : World) (hS : SB w p lo s.ws s.wi s.pl f) (hp : p < lo) (hlo : lo ≤ w.heap.size) (hg : Good s k) (hk : k ≤ 50000) (hw : s.wi ≠ 2) (hr : isLet r) :
    Calls Tryd.prog 18 #[.pointer (some ⟨p, 0, none⟩), .int .i32 (r : Int)] w fun e w' => TkPost lo p w (tk s r) e w' := by
  obtain ⟨Q, hQ⟩ : ∃ Q : Ending → World → Prop, Q = fun e w' => TkPost lo p w (tk s r) e w' := ⟨_, rfl⟩
  rw [← hQ]
  have HQ := Lib.hid hQ
  clear hQ
  obtain ⟨⟨z1, z2, z3, -, -⟩, -, hpw⟩ := hS.cells
  have hB := fun W => behind_any s.pl r W (by have := hg.small; omega)
  obtain ⟨P1, hP1⟩ : ∃ P, P = bh s.pl r := ⟨_, rfl⟩
  rw [← hP1] at hB
  have HB := Lib.hid hB
  have HP1 := Lib.hid hP1
  clear hP1 hB
  have h1 := heap_alloc_new w (.cells #[.int .i64 (s.pl.1 : Int), .int .i64 (s.pl.2 : Int)] 50)
  have hb : Below w.heap.size w (w.alloc (.cells #[.int .i64 (s.pl.1 : Int), .int .i64 (s.pl.2 : Int)] 50)) := (Below.refl _ _).alloc (Nat.le_refl _) _
  have hsz : (w.alloc (.cells #[.int .i64 (s.pl.1 : Int), .int .i64 (s.pl.2 : Int)] 50)).heap.size = w.heap.size + 1 := by simp
  have HH := Lib.hid (And.intro hS (And.intro hp (And.intro hlo (And.intro hg (And.intro hk hpw)))))
  clear hS hp hlo hg hk hpw
  have hT : tk s r = letS s r := by unfold tk; rw [if_neg hw, if_pos hr]
  rw [hT] at HQ
  have hwb : ((s.wi : Int) == 2) = false := by rw [beq_eq_false_iff_ne]; omega
  have hLL := fun W => isLetter_any r W
  simp only [decide_eq_true hr] at hLL
  have HLL := Lib.hid hLL
  have HR := Lib.hid hr
  clear hw hr hT hLL
  go_enter Tryd.func18, Tryd.ntmps18
  go_upto_region 2 with (fail)
  obtain ⟨n, hn⟩ : ∃ n, n = w.heap.size := ⟨_, rfl⟩
  rw [← hn] at h1 ⊢
  generalize w.alloc (.cells #[.int .i64 (s.pl.1 : Int), .int .i64 (s.pl.2 : Int)] 50) = W at h1 hb hsz ⊢
  clear z1 z2 z3
  have hS1 := HH.out.1.below hb
  have hpn : p < n := by rw [hn]; exact HH.out.2.2.2.2.2
  have hlon : lo ≤ n := by rw [hn]; exact HH.out.2.2.1
  have hbn : Below n w W := by rw [hn]; exact hb
  have hWn : W.heap.size = n + 1 := by rw [hn]; exact hsz
  have d0 : W.cell? ⟨n, 0, none⟩ = some (.int .i64 (s.pl.1 : Int)) := cell_of_row W n 0 _ _ _ h1
  have d1 : W.cell? ⟨n, 1, none⟩ = some (.int .i64 (s.pl.2 : Int)) := cell_of_row W n 1 _ _ _ h1
  clear hb hsz hn
  go_wp2_with (fail)
  refine (HB.out _).mono ?_
  rintro e w2 ⟨rfl, hb2⟩
  have hS2 := hS1.below hb2
  obtain ⟨⟨-, y2, y3, -, -⟩, ⟨-, -, v2, v3, -, -⟩, hp2⟩ := hS2.cells
  have h2 := (hb2.block n (by omega)).trans h1
  have hs2 := hb2.size
  clear d0 d1 h1
  have hS3 := hS2.place HH.out.2.1 P1
  have hk3 : Kp lo p w ((w2.setCell ⟨p, 2, none⟩ (.int .i64 (P1.1 : Int))).setCell ⟨p, 3, none⟩ (.int .i64 (P1.2 : Int))) := (((Kp.of_below (p := p) hbn hlon).trans (Kp.of_below hb2 (by omega))).setP 2 _).setP 3 _
  have h3 : ((w2.setCell ⟨p, 2, none⟩ (.int .i64 (P1.1 : Int))).setCell ⟨p, 3, none⟩ (.int .i64 (P1.2 : Int))).heap[n]? = some (.cells #[.int .i64 (s.pl.1 : Int), .int .i64 (s.pl.2 : Int)] 50 (0, 0)) := ((Below.heap_setCell _ _ _ _ (by show n ≠ p; omega)).trans (Below.heap_setCell _ _ _ _ (by show n ≠ p; omega))).trans h2
  have hs3 : n < ((w2.setCell ⟨p, 2, none⟩ (.int .i64 (P1.1 : Int))).setCell ⟨p, 3, none⟩ (.int .i64 (P1.2 : Int))).heap.size := by simp; omega
  clear hS1 hS2 hb2 hbn h2 hWn hs2 hp2
  go_upto_region 3 with (fail)
  clear y2 y3 v2 v3
  generalize ((w2.setCell ⟨p, 2, none⟩ (.int .i64 (P1.1 : Int))).setCell ⟨p, 3, none⟩ (.int .i64 (P1.2 : Int))) = W3 at hS3 hk3 h3 hs3 ⊢
  obtain ⟨⟨z1, -, -, -, -⟩, ⟨-, v1, -, -, -, -⟩, hp3⟩ := hS3.cells
  have c0 : W3.cell? ⟨n, 0, none⟩ = some (.int .i64 (s.pl.1 : Int)) := cell_of_row W3 n 0 _ _ _ h3
  have c1 : W3.cell? ⟨n, 1, none⟩ = some (.int .i64 (s.pl.2 : Int)) := cell_of_row W3 n 1 _ _ _ h3
  have c0' : (W3.setCell ⟨p, 1, none⟩ (.int .i64 0)).cell? ⟨n, 0, none⟩ = some (.int .i64 (s.pl.1 : Int)) := (World.cell?_setCell_other W3 _ _ _ (by intro e; have e2 := congrArg Addr.block e; simp at e2; omega)).trans c0
  have c1' : (W3.setCell ⟨p, 1, none⟩ (.int .i64 0)).cell? ⟨n, 1, none⟩ = some (.int .i64 (s.pl.2 : Int)) := (World.cell?_setCell_other W3 _ _ _ (by intro e; have e2 := congrArg Addr.block e; simp at e2; omega)).trans c1
  obtain ⟨o, c, hoc, hc16⟩ : ∃ (o : List Wd) (c : Wd), ((s.wi = 1 ∧ s.ws = o ++ [c]) ∨ (s.wi ≠ 1 ∧ o = s.ws ∧ c = ⟨true, [], s.pl.1, s.pl.2⟩)) ∧ c.tx.length ≤ 16 := by
    by_cases h1 : s.wi = 1
    · obtain ⟨o, c, h2, _⟩ := HH.out.2.2.2.1.open_ h1
      exact ⟨o, c, .inl ⟨h1, h2⟩, (HH.out.2.2.2.1.txt c (by rw [h2]; simp)).1⟩
    · exact ⟨s.ws, ⟨true, [], s.pl.1, s.pl.2⟩, .inr ⟨h1, rfl, rfl⟩, by simp⟩
  have hlt := letter_any p lo s.ws o c s.wi P1 f s.pl r W3 hS3 HH.out.2.1 (by omega) (by have := HH.out.2.2.2.1.len; have := HH.out.2.2.2.2.1; omega) HR.out hoc hc16
  have HLT := Lib.hid hlt
  have HK := Lib.hid hk3
  have HOC := Lib.hid hoc
  have HL := Lib.hid (HLL.out W3)
  clear hS3 hk3 h3 hs3 hp3 c0' c1' hlt hoc hc16
  go_wp2_with (first
    | (go_at_call 25; (with_reducible refine HL.out.mono ?_); rintro e w' ⟨rfl, rfl⟩)
    | (go_at_call 26; (with_reducible refine HLT.out.mono ?_); rintro e w' ⟨h1, h2⟩; split at h1; all_goals (obtain ⟨rfl, h3⟩ := h1)))
  · rename_i h16
    rw [HQ.out]
    refine ⟨?_, HK.out.trans h2⟩
    have hT : letS s r = .error (c.ln, c.co) := by
      rcases HOC.out with ⟨a, b⟩ | ⟨_, _, b⟩
      · unfold letS
        rw [if_pos a, b, List.getLast?_concat]
        simp only
        rw [if_pos h16]
      · rw [b] at h16; simp at h16
    rw [hT]
    exact ⟨rfl, _, _, _, h3⟩
  · rename_i h16
    rw [HQ.out]
    refine ⟨?_, HK.out.trans h2⟩
    have hT : letS s r = .ok ⟨o ++ [⟨c.nm, c.tx ++ [UInt8.ofNat r], c.ln, c.co⟩], 1, bh s.pl r⟩ := by
      rcases HOC.out with ⟨a, b⟩ | ⟨a, b, b2⟩
      · unfold letS
        rw [if_pos a, b, List.getLast?_concat]
        simp only [List.dropLast_concat]
        rw [if_neg h16]
      · unfold letS
        rw [if_neg a, b, b2]
        rfl
    rw [hT, ← HP1.out]
    exact ⟨rfl, f, h3⟩

set_option maxRecDepth 100000 in
set_option maxHeartbeats 4000000 in
theorem take_hash (p lo : Nat) (s : Sp) (f : Nat × Nat) (k r : Nat) (w : World) (hS : SB w p lo s.ws s.wi s.pl f) (hp : p < lo) (hlo : lo ≤ w.heap.size) (hg : Good s k) (hk : k ≤ 50000) (hw : s.wi ≠ 2) (hr : ¬ isLet r) (h35 : r = 35) :
    Calls Tryd.prog 18 #[.pointer (some ⟨p, 0, none⟩), .int .i32 (r : Int)] w fun e w' => TkPost lo p w (tk s r) e w' := by
  obtain ⟨Q, hQ⟩ : ∃ Q : Ending → World → Prop, Q = fun e w' => TkPost lo p w (tk s r) e w' := ⟨_, rfl⟩
  rw [← hQ]
  have HQ := Lib.hid hQ
  clear hQ
  obtain ⟨⟨z1, z2, z3, -, -⟩, -, hpw⟩ := hS.cells
  have hB := fun W => behind_any s.pl r W (by have := hg.small; omega)
  obtain ⟨P1, hP1⟩ : ∃ P, P = bh s.pl r := ⟨_, rfl⟩
  rw [← hP1] at hB
  have HB := Lib.hid hB
  have HP1 := Lib.hid hP1
  clear hP1 hB
  have h1 := heap_alloc_new w (.cells #[.int .i64 (s.pl.1 : Int), .int .i64 (s.pl.2 : Int)] 50)
  have hb : Below w.heap.size w (w.alloc (.cells #[.int .i64 (s.pl.1 : Int), .int .i64 (s.pl.2 : Int)] 50)) := (Below.refl _ _).alloc (Nat.le_refl _) _
  have hsz : (w.alloc (.cells #[.int .i64 (s.pl.1 : Int), .int .i64 (s.pl.2 : Int)] 50)).heap.size = w.heap.size + 1 := by simp
  have HH := Lib.hid (And.intro hS (And.intro hp (And.intro hlo (And.intro hg (And.intro hk hpw)))))
  clear hS hp hlo hg hk hpw
  have hT : tk s r = .ok ⟨s.ws, 2, bh s.pl r⟩ := by unfold tk; rw [if_neg hw, if_neg hr, if_pos h35]
  rw [hT] at HQ
  have hwb : ((s.wi : Int) == 2) = false := by rw [beq_eq_false_iff_ne]; omega
  have hLL := fun W => isLetter_any r W
  simp only [decide_eq_false hr] at hLL
  have HLL := Lib.hid hLL
  clear hLL
  have h35b : ((r : Int) == 35) = true := beq_iff_eq.2 (by omega)
  clear hw hr hT h35
  go_enter Tryd.func18, Tryd.ntmps18
  go_upto_region 2 with (fail)
  obtain ⟨n, hn⟩ : ∃ n, n = w.heap.size := ⟨_, rfl⟩
  rw [← hn] at h1 ⊢
  generalize w.alloc (.cells #[.int .i64 (s.pl.1 : Int), .int .i64 (s.pl.2 : Int)] 50) = W at h1 hb hsz ⊢
  clear z1 z2 z3
  have hS1 := HH.out.1.below hb
  have hpn : p < n := by rw [hn]; exact HH.out.2.2.2.2.2
  have hlon : lo ≤ n := by rw [hn]; exact HH.out.2.2.1
  have hbn : Below n w W := by rw [hn]; exact hb
  have hWn : W.heap.size = n + 1 := by rw [hn]; exact hsz
  have d0 : W.cell? ⟨n, 0, none⟩ = some (.int .i64 (s.pl.1 : Int)) := cell_of_row W n 0 _ _ _ h1
  have d1 : W.cell? ⟨n, 1, none⟩ = some (.int .i64 (s.pl.2 : Int)) := cell_of_row W n 1 _ _ _ h1
  clear hb hsz hn
  go_wp2_with (fail)
  refine (HB.out _).mono ?_
  rintro e w2 ⟨rfl, hb2⟩
  have hS2 := hS1.below hb2
  obtain ⟨⟨-, y2, y3, -, -⟩, ⟨-, -, v2, v3, -, -⟩, hp2⟩ := hS2.cells
  have h2 := (hb2.block n (by omega)).trans h1
  have hs2 := hb2.size
  clear d0 d1 h1
  have hS3 := hS2.place HH.out.2.1 P1
  have hk3 : Kp lo p w ((w2.setCell ⟨p, 2, none⟩ (.int .i64 (P1.1 : Int))).setCell ⟨p, 3, none⟩ (.int .i64 (P1.2 : Int))) := (((Kp.of_below (p := p) hbn hlon).trans (Kp.of_below hb2 (by omega))).setP 2 _).setP 3 _
  have h3 : ((w2.setCell ⟨p, 2, none⟩ (.int .i64 (P1.1 : Int))).setCell ⟨p, 3, none⟩ (.int .i64 (P1.2 : Int))).heap[n]? = some (.cells #[.int .i64 (s.pl.1 : Int), .int .i64 (s.pl.2 : Int)] 50 (0, 0)) := ((Below.heap_setCell _ _ _ _ (by show n ≠ p; omega)).trans (Below.heap_setCell _ _ _ _ (by show n ≠ p; omega))).trans h2
  have hs3 : n < ((w2.setCell ⟨p, 2, none⟩ (.int .i64 (P1.1 : Int))).setCell ⟨p, 3, none⟩ (.int .i64 (P1.2 : Int))).heap.size := by simp; omega
  clear hS1 hS2 hb2 hbn h2 hWn hs2 hp2
  go_upto_region 3 with (fail)
  clear y2 y3 v2 v3
  generalize ((w2.setCell ⟨p, 2, none⟩ (.int .i64 (P1.1 : Int))).setCell ⟨p, 3, none⟩ (.int .i64 (P1.2 : Int))) = W3 at hS3 hk3 h3 hs3 ⊢
  obtain ⟨⟨z1, -, -, -, -⟩, ⟨-, v1, -, -, -, -⟩, hp3⟩ := hS3.cells
  have c0 : W3.cell? ⟨n, 0, none⟩ = some (.int .i64 (s.pl.1 : Int)) := cell_of_row W3 n 0 _ _ _ h3
  have c1 : W3.cell? ⟨n, 1, none⟩ = some (.int .i64 (s.pl.2 : Int)) := cell_of_row W3 n 1 _ _ _ h3
  have c0' : (W3.setCell ⟨p, 1, none⟩ (.int .i64 0)).cell? ⟨n, 0, none⟩ = some (.int .i64 (s.pl.1 : Int)) := (World.cell?_setCell_other W3 _ _ _ (by intro e; have e2 := congrArg Addr.block e; simp at e2; omega)).trans c0
  have c1' : (W3.setCell ⟨p, 1, none⟩ (.int .i64 0)).cell? ⟨n, 1, none⟩ = some (.int .i64 (s.pl.2 : Int)) := (World.cell?_setCell_other W3 _ _ _ (by intro e; have e2 := congrArg Addr.block e; simp at e2; omega)).trans c1
  have HZ := Lib.hid (And.intro (hS3.within HH.out.2.1 2) (hk3.setP 1 (.int .i64 2)))
  have HL := Lib.hid (HLL.out W3)
  clear hS3 hk3 h3 hs3 hp3 c0 c1 c0' c1'
  go_wp2_with (go_at_call 25; (with_reducible refine HL.out.mono ?_); rintro e w' ⟨rfl, rfl⟩)
  rw [HQ.out]
  exact ⟨⟨rfl, f, by rw [← HP1.out]; exact HZ.out.1⟩, HZ.out.2⟩

set_option maxRecDepth 100000 in
set_option maxHeartbeats 4000000 in
theorem take_blank (p lo : Nat) (s : Sp) (f : Nat × Nat) (k r : Nat) (w : World) (hS : SB w p lo s.ws s.wi s.pl f) (hp : p < lo) (hlo : lo ≤ w.heap.size) (hg : Good s k) (hk : k ≤ 50000) (hw : s.wi ≠ 2) (hr : ¬ isLet r) (h35 : r ≠ 35) (hbk : isBlk r) :
    Calls Tryd.prog 18 #[.pointer (some ⟨p, 0, none⟩), .int .i32 (r : Int)] w fun e w' => TkPost lo p w (tk s r) e w' := by
  obtain ⟨Q, hQ⟩ : ∃ Q : Ending → World → Prop, Q = fun e w' => TkPost lo p w (tk s r) e w' := ⟨_, rfl⟩
  rw [← hQ]
  have HQ := Lib.hid hQ
  clear hQ
  obtain ⟨⟨z1, z2, z3, -, -⟩, -, hpw⟩ := hS.cells
  have hB := fun W => behind_any s.pl r W (by have := hg.small; omega)
  obtain ⟨P1, hP1⟩ : ∃ P, P = bh s.pl r := ⟨_, rfl⟩
  rw [← hP1] at hB
  have HB := Lib.hid hB
  have HP1 := Lib.hid hP1
  clear hP1 hB
  have h1 := heap_alloc_new w (.cells #[.int .i64 (s.pl.1 : Int), .int .i64 (s.pl.2 : Int)] 50)
  have hb : Below w.heap.size w (w.alloc (.cells #[.int .i64 (s.pl.1 : Int), .int .i64 (s.pl.2 : Int)] 50)) := (Below.refl _ _).alloc (Nat.le_refl _) _
  have hsz : (w.alloc (.cells #[.int .i64 (s.pl.1 : Int), .int .i64 (s.pl.2 : Int)] 50)).heap.size = w.heap.size + 1 := by simp
  have HH := Lib.hid (And.intro hS (And.intro hp (And.intro hlo (And.intro hg (And.intro hk hpw)))))
  clear hS hp hlo hg hk hpw
  have hT : tk s r = .ok ⟨s.ws, 0, bh s.pl r⟩ := by unfold tk; rw [if_neg hw, if_neg hr, if_neg h35, if_pos hbk]
  rw [hT] at HQ
  have hwb : ((s.wi : Int) == 2) = false := by rw [beq_eq_false_iff_ne]; omega
  have hLL := fun W => isLetter_any r W
  simp only [decide_eq_false hr] at hLL
  have HLL := Lib.hid hLL
  clear hLL
  have h35b : ((r : Int) == 35) = false := by rw [beq_eq_false_iff_ne]; omega
  have hBB := fun W => isBlank_any r W
  simp only [decide_eq_true hbk] at hBB
  have HBB := Lib.hid hBB
  clear hw hr hT h35 hBB hbk
  go_enter Tryd.func18, Tryd.ntmps18
  go_upto_region 2 with (fail)
  obtain ⟨n, hn⟩ : ∃ n, n = w.heap.size := ⟨_, rfl⟩
  rw [← hn] at h1 ⊢
  generalize w.alloc (.cells #[.int .i64 (s.pl.1 : Int), .int .i64 (s.pl.2 : Int)] 50) = W at h1 hb hsz ⊢
  clear z1 z2 z3
  have hS1 := HH.out.1.below hb
  have hpn : p < n := by rw [hn]; exact HH.out.2.2.2.2.2
  have hlon : lo ≤ n := by rw [hn]; exact HH.out.2.2.1
  have hbn : Below n w W := by rw [hn]; exact hb
  have hWn : W.heap.size = n + 1 := by rw [hn]; exact hsz
  have d0 : W.cell? ⟨n, 0, none⟩ = some (.int .i64 (s.pl.1 : Int)) := cell_of_row W n 0 _ _ _ h1
  have d1 : W.cell? ⟨n, 1, none⟩ = some (.int .i64 (s.pl.2 : Int)) := cell_of_row W n 1 _ _ _ h1
  clear hb hsz hn
  go_wp2_with (fail)
  refine (HB.out _).mono ?_
  rintro e w2 ⟨rfl, hb2⟩
  have hS2 := hS1.below hb2
  obtain ⟨⟨-, y2, y3, -, -⟩, ⟨-, -, v2, v3, -, -⟩, hp2⟩ := hS2.cells
  have h2 := (hb2.block n (by omega)).trans h1
  have hs2 := hb2.size
  clear d0 d1 h1
  have hS3 := hS2.place HH.out.2.1 P1
  have hk3 : Kp lo p w ((w2.setCell ⟨p, 2, none⟩ (.int .i64 (P1.1 : Int))).setCell ⟨p, 3, none⟩ (.int .i64 (P1.2 : Int))) := (((Kp.of_below (p := p) hbn hlon).trans (Kp.of_below hb2 (by omega))).setP 2 _).setP 3 _
  have h3 : ((w2.setCell ⟨p, 2, none⟩ (.int .i64 (P1.1 : Int))).setCell ⟨p, 3, none⟩ (.int .i64 (P1.2 : Int))).heap[n]? = some (.cells #[.int .i64 (s.pl.1 : Int), .int .i64 (s.pl.2 : Int)] 50 (0, 0)) := ((Below.heap_setCell _ _ _ _ (by show n ≠ p; omega)).trans (Below.heap_setCell _ _ _ _ (by show n ≠ p; omega))).trans h2
  have hs3 : n < ((w2.setCell ⟨p, 2, none⟩ (.int .i64 (P1.1 : Int))).setCell ⟨p, 3, none⟩ (.int .i64 (P1.2 : Int))).heap.size := by simp; omega
  clear hS1 hS2 hb2 hbn h2 hWn hs2 hp2
  go_upto_region 3 with (fail)
  clear y2 y3 v2 v3
  generalize ((w2.setCell ⟨p, 2, none⟩ (.int .i64 (P1.1 : Int))).setCell ⟨p, 3, none⟩ (.int .i64 (P1.2 : Int))) = W3 at hS3 hk3 h3 hs3 ⊢
  obtain ⟨⟨z1, -, -, -, -⟩, ⟨-, v1, -, -, -, -⟩, hp3⟩ := hS3.cells
  have c0 : W3.cell? ⟨n, 0, none⟩ = some (.int .i64 (s.pl.1 : Int)) := cell_of_row W3 n 0 _ _ _ h3
  have c1 : W3.cell? ⟨n, 1, none⟩ = some (.int .i64 (s.pl.2 : Int)) := cell_of_row W3 n 1 _ _ _ h3
  have c0' : (W3.setCell ⟨p, 1, none⟩ (.int .i64 0)).cell? ⟨n, 0, none⟩ = some (.int .i64 (s.pl.1 : Int)) := (World.cell?_setCell_other W3 _ _ _ (by intro e; have e2 := congrArg Addr.block e; simp at e2; omega)).trans c0
  have c1' : (W3.setCell ⟨p, 1, none⟩ (.int .i64 0)).cell? ⟨n, 1, none⟩ = some (.int .i64 (s.pl.2 : Int)) := (World.cell?_setCell_other W3 _ _ _ (by intro e; have e2 := congrArg Addr.block e; simp at e2; omega)).trans c1
  have HZ := Lib.hid (And.intro (hS3.within HH.out.2.1 0) (hk3.setP 1 (.int .i64 0)))
  have HL := Lib.hid (HLL.out W3)
  clear hS3 hk3 h3 hs3 hp3 c0 c1 c0' c1'
  go_wp2_with (first
    | (go_at_call 25; (with_reducible refine HL.out.mono ?_); rintro e w' ⟨rfl, rfl⟩)
    | (go_at_call 27; (with_reducible refine (HBB.out _).mono ?_); rintro e w' ⟨rfl, rfl⟩))
  rw [HQ.out]
  exact ⟨⟨rfl, f, by rw [← HP1.out]; exact HZ.out.1⟩, HZ.out.2⟩

set_option maxRecDepth 100000 in
set_option maxHeartbeats 4000000 in
theorem take_none (p lo : Nat) (s : Sp) (f : Nat × Nat) (k r : Nat) (w : World) (hS : SB w p lo s.ws s.wi s.pl f) (hp : p < lo) (hlo : lo ≤ w.heap.size) (hg : Good s k) (hk : k ≤ 50000) (hw : s.wi ≠ 2) (hr : ¬ isLet r) (h35 : r ≠ 35) (hbk : ¬ isBlk r) (hsg : sgn r = []) :
    Calls Tryd.prog 18 #[.pointer (some ⟨p, 0, none⟩), .int .i32 (r : Int)] w fun e w' => TkPost lo p w (tk s r) e w' := by
  obtain ⟨Q, hQ⟩ : ∃ Q : Ending → World → Prop, Q = fun e w' => TkPost lo p w (tk s r) e w' := ⟨_, rfl⟩
  rw [← hQ]
  have HQ := Lib.hid hQ
  clear hQ
  obtain ⟨⟨z1, z2, z3, -, -⟩, -, hpw⟩ := hS.cells
  have hB := fun W => behind_any s.pl r W (by have := hg.small; omega)
  obtain ⟨P1, hP1⟩ : ∃ P, P = bh s.pl r := ⟨_, rfl⟩
  rw [← hP1] at hB
  have HB := Lib.hid hB
  have HP1 := Lib.hid hP1
  clear hP1 hB
  have h1 := heap_alloc_new w (.cells #[.int .i64 (s.pl.1 : Int), .int .i64 (s.pl.2 : Int)] 50)
  have hb : Below w.heap.size w (w.alloc (.cells #[.int .i64 (s.pl.1 : Int), .int .i64 (s.pl.2 : Int)] 50)) := (Below.refl _ _).alloc (Nat.le_refl _) _
  have hsz : (w.alloc (.cells #[.int .i64 (s.pl.1 : Int), .int .i64 (s.pl.2 : Int)] 50)).heap.size = w.heap.size + 1 := by simp
  have HH := Lib.hid (And.intro hS (And.intro hp (And.intro hlo (And.intro hg (And.intro hk hpw)))))
  clear hS hp hlo hg hk hpw
  have hT : tk s r = .error s.pl := by unfold tk; rw [if_neg hw, if_neg hr, if_neg h35, if_neg hbk, if_pos hsg]
  rw [hT] at HQ
  have hwb : ((s.wi : Int) == 2) = false := by rw [beq_eq_false_iff_ne]; omega
  have hLL := fun W => isLetter_any r W
  simp only [decide_eq_false hr] at hLL
  have HLL := Lib.hid hLL
  clear hLL
  have h35b : ((r : Int) == 35) = false := by rw [beq_eq_false_iff_ne]; omega
  have hBB := fun W => isBlank_any r W
  simp only [decide_eq_false hbk] at hBB
  have HBB := Lib.hid hBB
  have HSG := Lib.hid hsg
  clear hw hr hT h35 hBB hbk hsg
  go_enter Tryd.func18, Tryd.ntmps18
  go_upto_region 2 with (fail)
  obtain ⟨n, hn⟩ : ∃ n, n = w.heap.size := ⟨_, rfl⟩
  rw [← hn] at h1 ⊢
  generalize w.alloc (.cells #[.int .i64 (s.pl.1 : Int), .int .i64 (s.pl.2 : Int)] 50) = W at h1 hb hsz ⊢
  clear z1 z2 z3
  have hS1 := HH.out.1.below hb
  have hpn : p < n := by rw [hn]; exact HH.out.2.2.2.2.2
  have hlon : lo ≤ n := by rw [hn]; exact HH.out.2.2.1
  have hbn : Below n w W := by rw [hn]; exact hb
  have hWn : W.heap.size = n + 1 := by rw [hn]; exact hsz
  have d0 : W.cell? ⟨n, 0, none⟩ = some (.int .i64 (s.pl.1 : Int)) := cell_of_row W n 0 _ _ _ h1
  have d1 : W.cell? ⟨n, 1, none⟩ = some (.int .i64 (s.pl.2 : Int)) := cell_of_row W n 1 _ _ _ h1
  clear hb hsz hn
  go_wp2_with (fail)
  refine (HB.out _).mono ?_
  rintro e w2 ⟨rfl, hb2⟩
  have hS2 := hS1.below hb2
  obtain ⟨⟨-, y2, y3, -, -⟩, ⟨-, -, v2, v3, -, -⟩, hp2⟩ := hS2.cells
  have h2 := (hb2.block n (by omega)).trans h1
  have hs2 := hb2.size
  clear d0 d1 h1
  have hS3 := hS2.place HH.out.2.1 P1
  have hk3 : Kp lo p w ((w2.setCell ⟨p, 2, none⟩ (.int .i64 (P1.1 : Int))).setCell ⟨p, 3, none⟩ (.int .i64 (P1.2 : Int))) := (((Kp.of_below (p := p) hbn hlon).trans (Kp.of_below hb2 (by omega))).setP 2 _).setP 3 _
  have h3 : ((w2.setCell ⟨p, 2, none⟩ (.int .i64 (P1.1 : Int))).setCell ⟨p, 3, none⟩ (.int .i64 (P1.2 : Int))).heap[n]? = some (.cells #[.int .i64 (s.pl.1 : Int), .int .i64 (s.pl.2 : Int)] 50 (0, 0)) := ((Below.heap_setCell _ _ _ _ (by show n ≠ p; omega)).trans (Below.heap_setCell _ _ _ _ (by show n ≠ p; omega))).trans h2
  have hs3 : n < ((w2.setCell ⟨p, 2, none⟩ (.int .i64 (P1.1 : Int))).setCell ⟨p, 3, none⟩ (.int .i64 (P1.2 : Int))).heap.size := by simp; omega
  clear hS1 hS2 hb2 hbn h2 hWn hs2 hp2
  go_upto_region 3 with (fail)
  clear y2 y3 v2 v3
  generalize ((w2.setCell ⟨p, 2, none⟩ (.int .i64 (P1.1 : Int))).setCell ⟨p, 3, none⟩ (.int .i64 (P1.2 : Int))) = W3 at hS3 hk3 h3 hs3 ⊢
  obtain ⟨⟨z1, -, -, -, -⟩, ⟨-, v1, -, -, -, -⟩, hp3⟩ := hS3.cells
  have c0 : W3.cell? ⟨n, 0, none⟩ = some (.int .i64 (s.pl.1 : Int)) := cell_of_row W3 n 0 _ _ _ h3
  have c1 : W3.cell? ⟨n, 1, none⟩ = some (.int .i64 (s.pl.2 : Int)) := cell_of_row W3 n 1 _ _ _ h3
  have c0' : (W3.setCell ⟨p, 1, none⟩ (.int .i64 0)).cell? ⟨n, 0, none⟩ = some (.int .i64 (s.pl.1 : Int)) := (World.cell?_setCell_other W3 _ _ _ (by intro e; have e2 := congrArg Addr.block e; simp at e2; omega)).trans c0
  have c1' : (W3.setCell ⟨p, 1, none⟩ (.int .i64 0)).cell? ⟨n, 1, none⟩ = some (.int .i64 (s.pl.2 : Int)) := (World.cell?_setCell_other W3 _ _ _ (by intro e; have e2 := congrArg Addr.block e; simp at e2; omega)).trans c1
  have hsn := sign_no p lo s.ws 0 P1 f s.pl r (W3.setCell ⟨p, 1, none⟩ (.int .i64 0)) (hS3.within HH.out.2.1 0) HH.out.2.1 (by simp; omega) HSG.out
  have HSN := Lib.hid hsn
  have HK := Lib.hid (hk3.setP 1 (.int .i64 0))
  have HL := Lib.hid (HLL.out W3)
  clear hS3 hk3 h3 hs3 hp3 hsn c0 c1
  go_wp2_with (first
    | (go_at_call 25; (with_reducible refine HL.out.mono ?_); rintro e w' ⟨rfl, rfl⟩)
    | (go_at_call 27; (with_reducible refine (HBB.out _).mono ?_); rintro e w' ⟨rfl, rfl⟩)
    | (go_at_call 28; (with_reducible refine HSN.out.mono ?_); rintro e w' ⟨rfl, h1, h2⟩))
  rw [HQ.out]
  exact ⟨⟨rfl, _, _, _, h1⟩, HK.out.trans h2⟩

set_option maxRecDepth 100000 in
set_option maxHeartbeats 4000000 in
theorem take_sign (p lo : Nat) (s : Sp) (f : Nat × Nat) (k r : Nat) (w : World) (hS : SB w p lo s.ws s.wi s.pl f) (hp : p < lo) (hlo : lo ≤ w.heap.size) (hg : Good s k) (hk : k ≤ 50000) (hw : s.wi ≠ 2) (hr : ¬ isLet r) (h35 : r ≠ 35) (hbk : ¬ isBlk r) (hsg : sgn r ≠ []) :
    Calls Tryd.prog 18 #[.pointer (some ⟨p, 0, none⟩), .int .i32 (r : Int)] w fun e w' => TkPost lo p w (tk s r) e w' := by
  obtain ⟨Q, hQ⟩ : ∃ Q : Ending → World → Prop, Q = fun e w' => TkPost lo p w (tk s r) e w' := ⟨_, rfl⟩
  rw [← hQ]
  have HQ := Lib.hid hQ
  clear hQ
  obtain ⟨⟨z1, z2, z3, -, -⟩, -, hpw⟩ := hS.cells
  have hB := fun W => behind_any s.pl r W (by have := hg.small; omega)
  obtain ⟨P1, hP1⟩ : ∃ P, P = bh s.pl r := ⟨_, rfl⟩
  rw [← hP1] at hB
  have HB := Lib.hid hB
  have HP1 := Lib.hid hP1
  clear hP1 hB
  have h1 := heap_alloc_new w (.cells #[.int .i64 (s.pl.1 : Int), .int .i64 (s.pl.2 : Int)] 50)
  have hb : Below w.heap.size w (w.alloc (.cells #[.int .i64 (s.pl.1 : Int), .int .i64 (s.pl.2 : Int)] 50)) := (Below.refl _ _).alloc (Nat.le_refl _) _
  have hsz : (w.alloc (.cells #[.int .i64 (s.pl.1 : Int), .int .i64 (s.pl.2 : Int)] 50)).heap.size = w.heap.size + 1 := by simp
  have HH := Lib.hid (And.intro hS (And.intro hp (And.intro hlo (And.intro hg (And.intro hk hpw)))))
  clear hS hp hlo hg hk hpw
  have hT : tk s r = .ok ⟨s.ws ++ [⟨false, sgn r, s.pl.1, s.pl.2⟩], 0, bh s.pl r⟩ := by unfold tk; rw [if_neg hw, if_neg hr, if_neg h35, if_neg hbk, if_neg hsg]
  rw [hT] at HQ
  have hwb : ((s.wi : Int) == 2) = false := by rw [beq_eq_false_iff_ne]; omega
  have hLL := fun W => isLetter_any r W
  simp only [decide_eq_false hr] at hLL
  have HLL := Lib.hid hLL
  clear hLL
  have h35b : ((r : Int) == 35) = false := by rw [beq_eq_false_iff_ne]; omega
  have hBB := fun W => isBlank_any r W
  simp only [decide_eq_false hbk] at hBB
  have HBB := Lib.hid hBB
  have HSG := Lib.hid hsg
  clear hw hr hT h35 hBB hbk hsg
  go_enter Tryd.func18, Tryd.ntmps18
  go_upto_region 2 with (fail)
  obtain ⟨n, hn⟩ : ∃ n, n = w.heap.size := ⟨_, rfl⟩
  rw [← hn] at h1 ⊢
  generalize w.alloc (.cells #[.int .i64 (s.pl.1 : Int), .int .i64 (s.pl.2 : Int)] 50) = W at h1 hb hsz ⊢
  clear z1 z2 z3
  have hS1 := HH.out.1.below hb
  have hpn : p < n := by rw [hn]; exact HH.out.2.2.2.2.2
  have hlon : lo ≤ n := by rw [hn]; exact HH.out.2.2.1
  have hbn : Below n w W := by rw [hn]; exact hb
  have hWn : W.heap.size = n + 1 := by rw [hn]; exact hsz
  have d0 : W.cell? ⟨n, 0, none⟩ = some (.int .i64 (s.pl.1 : Int)) := cell_of_row W n 0 _ _ _ h1
  have d1 : W.cell? ⟨n, 1, none⟩ = some (.int .i64 (s.pl.2 : Int)) := cell_of_row W n 1 _ _ _ h1
  clear hb hsz hn
  go_wp2_with (fail)
  refine (HB.out _).mono ?_
  rintro e w2 ⟨rfl, hb2⟩
  have hS2 := hS1.below hb2
  obtain ⟨⟨-, y2, y3, -, -⟩, ⟨-, -, v2, v3, -, -⟩, hp2⟩ := hS2.cells
  have h2 := (hb2.block n (by omega)).trans h1
  have hs2 := hb2.size
  clear d0 d1 h1
  have hS3 := hS2.place HH.out.2.1 P1
  have hk3 : Kp lo p w ((w2.setCell ⟨p, 2, none⟩ (.int .i64 (P1.1 : Int))).setCell ⟨p, 3, none⟩ (.int .i64 (P1.2 : Int))) := (((Kp.of_below (p := p) hbn hlon).trans (Kp.of_below hb2 (by omega))).setP 2 _).setP 3 _
  have h3 : ((w2.setCell ⟨p, 2, none⟩ (.int .i64 (P1.1 : Int))).setCell ⟨p, 3, none⟩ (.int .i64 (P1.2 : Int))).heap[n]? = some (.cells #[.int .i64 (s.pl.1 : Int), .int .i64 (s.pl.2 : Int)] 50 (0, 0)) := ((Below.heap_setCell _ _ _ _ (by show n ≠ p; omega)).trans (Below.heap_setCell _ _ _ _ (by show n ≠ p; omega))).trans h2
  have hs3 : n < ((w2.setCell ⟨p, 2, none⟩ (.int .i64 (P1.1 : Int))).setCell ⟨p, 3, none⟩ (.int .i64 (P1.2 : Int))).heap.size := by simp; omega
  clear hS1 hS2 hb2 hbn h2 hWn hs2 hp2
  go_upto_region 3 with (fail)
  clear y2 y3 v2 v3
  generalize ((w2.setCell ⟨p, 2, none⟩ (.int .i64 (P1.1 : Int))).setCell ⟨p, 3, none⟩ (.int .i64 (P1.2 : Int))) = W3 at hS3 hk3 h3 hs3 ⊢
  obtain ⟨⟨z1, -, -, -, -⟩, ⟨-, v1, -, -, -, -⟩, hp3⟩ := hS3.cells
  have c0 : W3.cell? ⟨n, 0, none⟩ = some (.int .i64 (s.pl.1 : Int)) := cell_of_row W3 n 0 _ _ _ h3
  have c1 : W3.cell? ⟨n, 1, none⟩ = some (.int .i64 (s.pl.2 : Int)) := cell_of_row W3 n 1 _ _ _ h3
  have c0' : (W3.setCell ⟨p, 1, none⟩ (.int .i64 0)).cell? ⟨n, 0, none⟩ = some (.int .i64 (s.pl.1 : Int)) := (World.cell?_setCell_other W3 _ _ _ (by intro e; have e2 := congrArg Addr.block e; simp at e2; omega)).trans c0
  have c1' : (W3.setCell ⟨p, 1, none⟩ (.int .i64 0)).cell? ⟨n, 1, none⟩ = some (.int .i64 (s.pl.2 : Int)) := (World.cell?_setCell_other W3 _ _ _ (by intro e; have e2 := congrArg Addr.block e; simp at e2; omega)).trans c1
  have hsn := sign_yes p lo s.ws 0 P1 f s.pl r (W3.setCell ⟨p, 1, none⟩ (.int .i64 0)) (hS3.within HH.out.2.1 0) HH.out.2.1 (by simp; omega) (by have := HH.out.2.2.2.1.len; have := HH.out.2.2.2.2.1; omega) HSG.out
  have HSN := Lib.hid hsn
  have HK := Lib.hid (hk3.setP 1 (.int .i64 0))
  have HL := Lib.hid (HLL.out W3)
  clear hS3 hk3 h3 hs3 hp3 hsn c0 c1
  go_wp2_with (first
    | (go_at_call 25; (with_reducible refine HL.out.mono ?_); rintro e w' ⟨rfl, rfl⟩)
    | (go_at_call 27; (with_reducible refine (HBB.out _).mono ?_); rintro e w' ⟨rfl, rfl⟩)
    | (go_at_call 28; (with_reducible refine HSN.out.mono ?_); rintro e w' ⟨rfl, h1, h2⟩))
  rw [HQ.out]
  exact ⟨⟨rfl, f, by rw [← HP1.out]; exact h1⟩, HK.out.trans h2⟩

theorem take_any (p lo : Nat) (s : Sp) (f : Nat × Nat) (k r : Nat) (w : World) (hS : SB w p lo s.ws s.wi s.pl f) (hp : p < lo) (hlo : lo ≤ w.heap.size) (hg : Good s k) (hk : k ≤ 50000) :
    Calls Tryd.prog 18 #[.pointer (some ⟨p, 0, none⟩), .int .i32 (r : Int)] w fun e w' => TkPost lo p w (tk s r) e w' := by
  by_cases hw : s.wi = 2
  · by_cases hr : r = 10
    · exact take_remEnd p lo s f k r w hS hp hlo hg hk hw hr
    · exact take_remOn p lo s f k r w hS hp hlo hg hk hw hr
  · by_cases hr : isLet r
    · exact take_let p lo s f k r w hS hp hlo hg hk hw hr
    · by_cases h35 : r = 35
      · exact take_hash p lo s f k r w hS hp hlo hg hk hw hr h35
      · by_cases hbk : isBlk r
        · exact take_blank p lo s f k r w hS hp hlo hg hk hw hr h35 hbk
        · by_cases hsg : sgn r = []
          · exact take_none p lo s f k r w hS hp hlo hg hk hw hr h35 hbk hsg
          · exact take_sign p lo s f k r w hS hp hlo hg hk hw hr h35 hbk hsg
end Go.Proofs.YtfgojbfdjbochaaDoor
