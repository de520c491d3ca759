/- The document's image: Save, plainly, and where it is refused. -/
import Derived.Test.YtdjcpjfomgfjlaaJnF
import Derived.Test.YtdjcpjfomgfjlaaImgU
import Derived.Test.YtdjcpjfomgfjlaaImgK
namespace Go.Proofs.Ytdjcpjfomgfjlaa
open Go.RowKit Go.Maps

theorem seqI_counts (g : Nat → List UInt8) (first count : Nat) : seqI (imgOf g first count) = (countsR g first count).2.1 := by
  rw [seqI_of]
  unfold countsR
  split
  · rename_i h
    unfold hdC
    split
    · exact h.1
    · exact h.2
  · rfl
theorem to_eq (g : Nat → List UInt8) (first count : Nat) : areaO g first count = if 0 < (countsR g first count).2.1 ∧ (countsR g first count).1 = first then first + count else first := by
  unfold countsR areaO areaC hdC pick
  by_cases h1 : 0 < seqO (hdA g first count) ∧ seqO (hdB g first count) ≤ seqO (hdA g first count)
  · have h2 : ¬ (seqO (hdA g first count) = 0 ∧ seqO (hdB g first count) = 0) := by omega
    rw [if_neg h2]
    simp only [decide_eq_true h1, if_true]
    rw [if_pos ⟨h1.1, trivial⟩]
  · simp only [decide_eq_false h1]
    by_cases h2 : seqO (hdA g first count) = 0 ∧ seqO (hdB g first count) = 0
    · simp [h2]
    · simp [h2]
theorem save_three (o s : Nat) (d : List UInt8) : saveOps o s d = (wrs o [zero64] ++ [none]) ++ ((wrs (o + 1) (chunks d) ++ [none]) ++ (wrs o [headI s d.length] ++ [none])) := by
  simp [saveOps, wrs]
section
variable {w wr w' : World} {X : List Nat} {M : DM} {T : Nat} {v : Value}
theorem RefV.rcounts {A1 A2 A3 : Option Addr} {n1 n2 n3 c1 c2 c3 : Nat} {s l : Int} (hv : RefV wr X (refOf M) (.agg #[.slice A1 n1 c1, .slice A2 n2 c2, .slice A3 n3 c3, .int .i64 s, .int .i64 l])) (hful : M.full) {first count : Nat} (hfit : first + 2 * count ≤ M.size) (hN : M.size ≤ 4096) (hc2 : 2 ≤ count) :
    Calls Try.prog 64 #[.agg #[.slice A1 n1 c1, .slice A2 n2 c2, .slice A3 n3 c3, .int .i64 s, .int .i64 l], .int .i64 (first : Int), .int .i64 (count : Int)] wr fun e w' => e = .returned (countsV (countsR M.get first count)) ∧ Below wr.heap.size wr w' := by
  obtain ⟨B1, B2, B3, d1, d2, d3, he, h1, h2, h3⟩ := hv
  have hn : n2 = M.size ∧ A2 = B2 ∧ c2 = d2 := by
    have he' := he
    simp only [Value.agg.injEq] at he'
    have h2 := congrArg (fun a : Array Value => a[1]?) he'
    simp at h2
    exact ⟨h2.2.1.trans (refOf_len M), h2.1, h2.2.2⟩
  obtain ⟨rfl, rfl, rfl⟩ := hn
  exact rcounts_any M.get M.size first count _ _ s l A2 c2 wr.heap.size wr h2.1 (Nat.le_refl _) (fun i hi => (hful i hi).2) hfit hN hc2
end
theorem resSv {w : World} {b : Nat} {v0 v1 v2 v3 v4 : Value} (h : w.heap[b]? = some (.cells #[v0, v1, v2, v3, v4] 33 (0, 0))) (tmps : Array Value) (h2 : tmps.getD 10 undef = .pointer (some ⟨b, 0, none⟩)) :
    (results Try.f32 tmps).run Try.prog w = .ok (.tuple #[.agg #[v0, v1, v2, v3, v4], tmps.getD 11 undef]) w := by
  have e0 : w.cell? ⟨b, 0, none⟩ = some v0 := cell_of_row w b 0 _ _ _ h
  have e1 : w.cell? ⟨b, 1, none⟩ = some v1 := cell_of_row w b 1 _ _ _ h
  have e2 : w.cell? ⟨b, 2, none⟩ = some v2 := cell_of_row w b 2 _ _ _ h
  have e3 : w.cell? ⟨b, 3, none⟩ = some v3 := cell_of_row w b 3 _ _ _ h
  have e4 : w.cell? ⟨b, 4, none⟩ = some v4 := cell_of_row w b 4 _ _ _ h
  have h2' := h2
  simp only [Array.getD_eq_getD_getElem?] at h2'
  simp [results, Try.results32, go_sem, h2', e0, e1, e2, e3, e4]
/-- A Save that is refused. -/
def saveBad (M : DM) (first count : Nat) (s : Int) (d : List UInt8) : Prop := s < 1 ∨ 4611686018427387904 < s ∨ s ≤ (seqI (imgOf M.get first count) : Int) ∨ roomI count < d.length
set_option maxRecDepth 100000 in
set_option maxHeartbeats 4000000 in
theorem rsave_bad (w : World) (X : List Nat) (M : DM) (v : Value) (hv : RefV w X (refOf M) v) (hz : M.size ≤ 4096) (hful : M.full) (first count : Nat) (hfit : first + 2 * count ≤ M.size) (hc2 : 2 ≤ count) (s : Int) (d : List UInt8) (hbad : saveBad M first count s d) :
    Calls Try.prog 32 #[v, .int .i64 (first : Int), .int .i64 (count : Int), .int .i64 s, .string ⟨d.toArray⟩] w fun e w' => ∃ v', e = .returned (.tuple #[v', .int .i64 (saveR M first count s d).1]) ∧ RefV w' X (refOf (saveR M first count s d).2) v' ∧ Below w.heap.size w w' := by
  have hv' := hv
  obtain ⟨A1, A2, A3, c1, c2, c3, rfl, _, _, _⟩ := hv'
  obtain ⟨n1, hn1⟩ : ∃ n, n = (refOf M).sure.length := ⟨_, rfl⟩
  obtain ⟨n2, hn2⟩ : ∃ n, n = (refOf M).now.length := ⟨_, rfl⟩
  obtain ⟨n3, hn3⟩ : ∃ n, n = (refOf M).fresh.length := ⟨_, rfl⟩
  obtain ⟨sx, hsx⟩ : ∃ n, n = (refOf M).steps := ⟨_, rfl⟩
  obtain ⟨lx, hlx⟩ : ∃ n, n = (refOf M).left := ⟨_, rfl⟩
  rw [← hn1, ← hn2, ← hn3, ← hsx, ← hlx] at hv ⊢
  have h2 := RBox.new hv (by omega)
  obtain ⟨Rz, hRz⟩ : ∃ Rz, Rz = saveR M first count s d := ⟨_, rfl⟩
  rw [← hRz]
  unfold saveBad at hbad
  unfold saveR at hRz
  rw [seqI_counts] at hbad hRz
  have hct := fun (W : World) (P1 P2 P3 : Option Addr) (p1 p2 p3 e1 e2 e3 : Nat) (s l : Int) (h : RefV W (w.heap.size :: (w.heap.size + 1) :: X) (refOf M) (.agg #[.slice P1 p1 e1, .slice P2 p2 e2, .slice P3 p3 e3, .int .i64 s, .int .i64 l])) => h.rcounts hful hfit hz hc2
  generalize countsR M.get first count = K at hbad hRz hct
  obtain ⟨k1, k2, k3⟩ := K
  unfold countsV at hct
  dsimp only at hct hbad hRz
  have hcz : ∃ z : Int, Rz = (z, M) ∧ ((z = 1 ∧ s < 1) ∨ (z = 1 ∧ ¬ s < 1 ∧ 4611686018427387904 < s) ∨ (z = 2 ∧ ¬ s < 1 ∧ ¬ 4611686018427387904 < s ∧ s ≤ (k2 : Int)) ∨ (z = 3 ∧ ¬ s < 1 ∧ ¬ 4611686018427387904 < s ∧ ¬ s ≤ (k2 : Int) ∧ 64 * ((count : Int) - 1) < (d.length : Int))) := by
    by_cases q1 : s < 1 ∨ 4611686018427387904 < s
    · rw [if_pos q1] at hRz; exact ⟨1, hRz, by omega⟩
    · rw [if_neg q1] at hRz
      by_cases q2 : s ≤ (k2 : Int)
      · rw [if_pos q2] at hRz; exact ⟨2, hRz, by omega⟩
      · rw [if_neg q2] at hRz
        have q3 : roomI count < d.length := by rcases hbad with h | h | h | h <;> first | exact h | omega
        rw [if_pos q3] at hRz; exact ⟨3, hRz, by unfold roomI at q3; omega⟩
  obtain ⟨z, rfl, hcs⟩ := hcz
  have hcI : 2 ≤ (count : Int) ∧ (count : Int) ≤ 4096 := by omega
  obtain ⟨hca, hcb⟩ := hcI
  have HCT := Lib.hid hct
  clear hn1 hn2 hn3 hsx hlx hv hz hful hfit hc2 hbad hRz hct
  rcases hcs with ⟨rfl, g1⟩ | ⟨rfl, g1, g2⟩ | ⟨rfl, g1, g2, g3⟩ | ⟨rfl, g1, g2, g3, g4⟩
  all_goals
    go_enter Try.func32, Try.ntmps32
    go_upto_region 1 with (fail)
    generalize ((w.alloc (.cells #[.slice A1 n1 c1, .slice A2 n2 c2, .slice A3 n3 c3, .int .i64 sx, .int .i64 lx] 33)).alloc (.cells #[.slice none 0 0, .slice none 0 0, .slice none 0 0, .int .i64 0, .int .i64 0] 33)) = W2 at h2 ⊢
    obtain ⟨P1, P2, P3, p1, p2, p3, e1, e2, e3, sk, lk, hg, hvk⟩ := h2.box
    have HC := Lib.hid (HCT.out W2 _ _ _ _ _ _ _ _ _ _ _ hvk)
    have y0 := cell_of_row W2 (w.heap.size) 0 _ _ _ hg; have y1 := cell_of_row W2 (w.heap.size) 1 _ _ _ hg; have y2 := cell_of_row W2 (w.heap.size) 2 _ _ _ hg; have y3 := cell_of_row W2 (w.heap.size) 3 _ _ _ hg; have y4 := cell_of_row W2 (w.heap.size) 4 _ _ _ hg
    have H2 := Lib.hid h2
    clear hg hvk h2
    go_upto_region 2 with (go_at_call 64; (with_reducible refine HC.out.mono ?_); rintro e w3 ⟨rfl, hb3⟩)
    have h3 := H2.out.kept hb3
    obtain ⟨Q1, Q2, Q3, q1, q2, q3, f1, f2, f3, sq, lq, hgq, hvq⟩ := h3.box
    have hrs := h3.res
    have zz0 := cell_of_row w3 (w.heap.size) 0 _ _ _ hgq; have zz1 := cell_of_row w3 (w.heap.size) 1 _ _ _ hgq; have zz2 := cell_of_row w3 (w.heap.size) 2 _ _ _ hgq; have zz3 := cell_of_row w3 (w.heap.size) 3 _ _ _ hgq; have zz4 := cell_of_row w3 (w.heap.size) 4 _ _ _ hgq
    have m0 := cell_of_row w3 (w.heap.size + 1) 0 _ _ _ hrs; have m1 := cell_of_row w3 (w.heap.size + 1) 1 _ _ _ hrs; have m2 := cell_of_row w3 (w.heap.size + 1) 2 _ _ _ hrs; have m3 := cell_of_row w3 (w.heap.size + 1) 3 _ _ _ hrs; have m4 := cell_of_row w3 (w.heap.size + 1) 4 _ _ _ hrs
    have mf0 := frozen_of_row w3 (w.heap.size + 1) 0 _ _ hrs; have mf1 := frozen_of_row w3 (w.heap.size + 1) 1 _ _ hrs; have mf2 := frozen_of_row w3 (w.heap.size + 1) 2 _ _ hrs; have mf3 := frozen_of_row w3 (w.heap.size + 1) 3 _ _ hrs; have mf4 := frozen_of_row w3 (w.heap.size + 1) 4 _ _ hrs
    have HDN := Lib.hid (h3.done (Below.refl _ _) hvq)
    clear h3 hgq hvq hrs hb3 HC HCT
    go_wp2_with (fail)
    exact bodyPost_ret (resSv HDN.out.1 _ rfl) rfl ⟨_, rfl, HDN.out.2.1, HDN.out.2.2⟩
end Go.Proofs.Ytdjcpjfomgfjlaa
