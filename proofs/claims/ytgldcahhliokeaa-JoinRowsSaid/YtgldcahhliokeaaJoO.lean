/- A step's calls: Told, Tells. -/
import Derived.Test.YtgldcahhliokeaaJoN
import Derived.Test.YtgldcahhliokeaaJnD
namespace Go.Proofs.Ytgldcahhliokeaa
open Go.RowKit Go.Maps

theorem resTold {w : World} {b : Nat} {v0 v1 : Value} (h : w.heap[b]? = some (.cells #[v0, v1] 120 (0, 0))) (tmps : Array Value) (h2 : tmps.getD 4 undef = .pointer (some ⟨b, 0, none⟩)) :
    (results Try.f80 tmps).run Try.prog w = .ok (.agg #[v0, v1]) w := by
  have e0 : w.cell? ⟨b, 0, none⟩ = some v0 := cell_of_row w b 0 _ _ _ h
  have e1 : w.cell? ⟨b, 1, none⟩ = some v1 := cell_of_row w b 1 _ _ _ h
  have h2' := h2
  simp only [Array.getD_eq_getD_getElem?] at h2'
  simp [results, Try.results80, go_sem, h2', e0, e1]
theorem resTells {w : World} {b : Nat} {v0 v1 : Value} (h : w.heap[b]? = some (.cells #[v0, v1] 120 (0, 0))) (tmps : Array Value) (h2 : tmps.getD 4 undef = .pointer (some ⟨b, 0, none⟩)) :
    (results Try.f81 tmps).run Try.prog w = .ok (.agg #[v0, v1]) w := by
  have e0 : w.cell? ⟨b, 0, none⟩ = some v0 := cell_of_row w b 0 _ _ _ h
  have e1 : w.cell? ⟨b, 1, none⟩ = some v1 := cell_of_row w b 1 _ _ _ h
  have h2' := h2
  simp only [Array.getD_eq_getD_getElem?] at h2'
  simp [results, Try.results81, go_sem, h2', e0, e1]
theorem new3 (w : World) (a b c : Obj) : (((w.alloc a).alloc b).alloc c).heap[w.heap.size + 1 + 1]? = some c ∧ (((w.alloc a).alloc b).alloc c).heap[w.heap.size + 1]? = some b ∧ Below w.heap.size w (((w.alloc a).alloc b).alloc c) := by
  have h1 := heap_alloc_new ((w.alloc a).alloc b) c
  rw [alloc1_size, alloc1_size] at h1
  have h2 := two_new w a b
  refine ⟨h1, (Below.heap_alloc _ _ _ (heap_lt h2.2)).trans h2.2, ?_⟩
  exact (((Below.refl _ _).alloc (Nat.le_refl _) a).alloc (by simp) b).alloc (by simp; omega) c
set_option maxRecDepth 100000 in
set_option maxHeartbeats 1000000 in
theorem told_any (s : Stp) (e : Int × Int) (w : World) : Calls Try.prog 80 #[stV s, enV e] w fun e' w' => e' = .returned (enV (toldS s e)) ∧ Below w.heap.size w w' := by
  obtain ⟨x, y⟩ := e
  unfold toldS enV
  dsimp only
  by_cases h1 : s.kn ≤ s.fr <;> by_cases h2 : s.kn ≤ s.to
  · rw [if_pos h1, if_pos h2]
    have h1' : (s.kn : Int) ≤ (s.fr : Int) := by omega
    have h2' : (s.kn : Int) ≤ (s.to : Int) := by omega
    clear h1 h2
    go_enter Try.func80, Try.ntmps80
    go_wp2_with (fail)
    exact bodyPost_ret (resTold (new3 _ _ _ _).1 _ rfl) rfl ⟨rfl, (new3 _ _ _ _).2.2⟩
  · rw [if_pos h1, if_neg h2]
    have h1' : (s.kn : Int) ≤ (s.fr : Int) := by omega
    have h2' : ¬ (s.kn : Int) ≤ (s.to : Int) := by omega
    clear h1 h2
    go_enter Try.func80, Try.ntmps80
    go_wp2_with (fail)
    exact bodyPost_ret (resTold (new3 _ _ _ _).1 _ rfl) rfl ⟨rfl, (new3 _ _ _ _).2.2⟩
  · rw [if_neg h1, if_pos h2]
    have h1' : ¬ (s.kn : Int) ≤ (s.fr : Int) := by omega
    have h2' : (s.kn : Int) ≤ (s.to : Int) := by omega
    clear h1 h2
    go_enter Try.func80, Try.ntmps80
    go_wp2_with (fail)
    exact bodyPost_ret (resTold (new3 _ _ _ _).1 _ rfl) rfl ⟨rfl, (new3 _ _ _ _).2.2⟩
  · rw [if_neg h1, if_neg h2]
    have h1' : ¬ (s.kn : Int) ≤ (s.fr : Int) := by omega
    have h2' : ¬ (s.kn : Int) ≤ (s.to : Int) := by omega
    clear h1 h2
    go_enter Try.func80, Try.ntmps80
    go_wp2_with (fail)
    exact bodyPost_ret (resTold (new3 _ _ _ _).1 _ rfl) rfl ⟨rfl, (new3 _ _ _ _).2.2⟩
set_option maxRecDepth 100000 in
set_option maxHeartbeats 1000000 in
theorem tells_any (s : Stp) (t : TV) (w : World) (ht : t.Ok w) (hl : t.l.length = s.kn) : Calls Try.prog 81 #[stV s, .slice t.A t.l.length t.c] w fun e' w' => e' = .returned (enV (tellsS s t.l)) ∧ Below w.heap.size w w' := by
  unfold tellsS enV
  dsimp only
  have hb2 : Below w.heap.size w (((w.alloc (.cells #[.string ⟨s.lab.toArray⟩, .int .i64 (s.fr : Int), .int .i64 (s.to : Int), .int .i64 (s.kn : Int)] 99)).alloc (.cells #[.int .i64 0, .int .i64 0] 120)).alloc (.cells #[.int .i64 0, .int .i64 0] 120)) := (new3 _ _ _ _).2.2
  obtain ⟨n, hn⟩ : ∃ n, n = t.l.length := ⟨_, rfl⟩
  rw [← hn] at hl ⊢
  by_cases h1 : s.fr < s.kn <;> by_cases h2 : s.to < s.kn
  · rw [if_pos h1, if_pos h2]
    have h1' : (s.fr : Int) < (s.kn : Int) := by omega
    obtain ⟨b, o, hA, hbl, hc⟩ := ht.cell (k := s.fr) (by omega)
    have hd : t.l.getD s.fr 0 = t.l[s.fr]'(by omega) := by rw [List.getD_eq_getElem?_getD, List.getElem?_eq_getElem (by omega)]; rfl
    rw [hd]
    have c1 := fun W (hW : Below w.heap.size w W) => (hW.cell (p := ⟨b, o + s.fr, none⟩) hbl).trans hc
    generalize t.l[s.fr]'(by omega) = x1 at c1 ⊢
    have c1w := c1 _ (((Below.refl w.heap.size w).alloc (Nat.le_refl _) (.cells #[.string ⟨s.lab.toArray⟩, .int .i64 (s.fr : Int), .int .i64 (s.to : Int), .int .i64 (s.kn : Int)] 99)).alloc (by simp) (.cells #[.int .i64 0, .int .i64 0] 120))
    have c1v := c1 _ hb2
    have l1 : (s.fr : Int) < (n : Int) := by omega
    have h2' : (s.to : Int) < (s.kn : Int) := by omega
    obtain ⟨b', o', hA', hbl', hc'⟩ := ht.cell (k := s.to) (by omega)
    have hd' : t.l.getD s.to 0 = t.l[s.to]'(by omega) := by rw [List.getD_eq_getElem?_getD, List.getElem?_eq_getElem (by omega)]; rfl
    rw [hd']
    generalize t.l[s.to]'(by omega) = x2 at hc' ⊢
    have c2v := fun u v => (Below.cell (p := ⟨b', o' + s.to, none⟩) (w := w) (w' := ((w.alloc (.cells #[.string ⟨s.lab.toArray⟩, .int .i64 (s.fr : Int), .int .i64 (s.to : Int), .int .i64 (s.kn : Int)] 99)).alloc (.cells #[.int .i64 0, .int .i64 0] 120)).alloc (.cells #[u, v] 120)) (new3 _ _ _ _).2.2 hbl').trans hc'
    have l2 : (s.to : Int) < (n : Int) := by omega
    rw [hA] at hA' ⊢
    injection hA' with hA'
    injection hA' with e1 e2
    subst e1 e2
    have c2w := c2v (.int .i64 x1) (.int .i64 0)
    clear c1 hA hbl hc hd c2v hbl' hc' hd' h1 h2 hn hl hb2 ht
    go_enter Try.func81, Try.ntmps81
    go_wp2_with (fail)
    exact bodyPost_ret (resTells (new3 _ _ _ _).2.1 _ rfl) rfl ⟨rfl, (new3 _ _ _ _).2.2⟩
  · rw [if_pos h1, if_neg h2]
    have h1' : (s.fr : Int) < (s.kn : Int) := by omega
    obtain ⟨b, o, hA, hbl, hc⟩ := ht.cell (k := s.fr) (by omega)
    have hd : t.l.getD s.fr 0 = t.l[s.fr]'(by omega) := by rw [List.getD_eq_getElem?_getD, List.getElem?_eq_getElem (by omega)]; rfl
    rw [hd]
    have c1 := fun W (hW : Below w.heap.size w W) => (hW.cell (p := ⟨b, o + s.fr, none⟩) hbl).trans hc
    generalize t.l[s.fr]'(by omega) = x1 at c1 ⊢
    have c1w := c1 _ (((Below.refl w.heap.size w).alloc (Nat.le_refl _) (.cells #[.string ⟨s.lab.toArray⟩, .int .i64 (s.fr : Int), .int .i64 (s.to : Int), .int .i64 (s.kn : Int)] 99)).alloc (by simp) (.cells #[.int .i64 0, .int .i64 0] 120))
    have c1v := c1 _ hb2
    have l1 : (s.fr : Int) < (n : Int) := by omega
    have h2' : ¬ (s.to : Int) < (s.kn : Int) := by omega
    rw [hA]
    clear c1 hA hbl hc hd h1 h2 hn hl hb2 ht
    go_enter Try.func81, Try.ntmps81
    go_wp2_with (fail)
    exact bodyPost_ret (resTells (new3 _ _ _ _).2.1 _ rfl) rfl ⟨rfl, (new3 _ _ _ _).2.2⟩
  · rw [if_neg h1, if_pos h2]
    have h1' : ¬ (s.fr : Int) < (s.kn : Int) := by omega
    have h2' : (s.to : Int) < (s.kn : Int) := by omega
    obtain ⟨b', o', hA', hbl', hc'⟩ := ht.cell (k := s.to) (by omega)
    have hd' : t.l.getD s.to 0 = t.l[s.to]'(by omega) := by rw [List.getD_eq_getElem?_getD, List.getElem?_eq_getElem (by omega)]; rfl
    rw [hd']
    generalize t.l[s.to]'(by omega) = x2 at hc' ⊢
    have c2v := fun u v => (Below.cell (p := ⟨b', o' + s.to, none⟩) (w := w) (w' := ((w.alloc (.cells #[.string ⟨s.lab.toArray⟩, .int .i64 (s.fr : Int), .int .i64 (s.to : Int), .int .i64 (s.kn : Int)] 99)).alloc (.cells #[.int .i64 0, .int .i64 0] 120)).alloc (.cells #[u, v] 120)) (new3 _ _ _ _).2.2 hbl').trans hc'
    have l2 : (s.to : Int) < (n : Int) := by omega
    rw [hA']
    have c2w := c2v (.int .i64 0) (.int .i64 0)
    clear c2v hbl' hc' hd' hA' h1 h2 hn hl hb2 ht
    go_enter Try.func81, Try.ntmps81
    go_wp2_with (fail)
    exact bodyPost_ret (resTells (new3 _ _ _ _).2.1 _ rfl) rfl ⟨rfl, (new3 _ _ _ _).2.2⟩
  · rw [if_neg h1, if_neg h2]
    have h1' : ¬ (s.fr : Int) < (s.kn : Int) := by omega
    have h2' : ¬ (s.to : Int) < (s.kn : Int) := by omega
    clear h1 h2 hn hl hb2 ht
    go_enter Try.func81, Try.ntmps81
    go_wp2_with (fail)
    exact bodyPost_ret (resTells (new3 _ _ _ _).2.1 _ rfl) rfl ⟨rfl, (new3 _ _ _ _).2.2⟩
end Go.Proofs.Ytgldcahhliokeaa
