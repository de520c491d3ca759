/- The law's Same (layer 4): records against the document's. -/
import Derived.Test.YtdjcpjfomgfjlaaLogY
import Derived.Test.YtdjcpjfomgfjlaaLogN
namespace Go.Proofs.Ytdjcpjfomgfjlaa
open Go.RowKit Go.Maps

theorem recC_two (R : List RecR) : ∀ (i : Nat) (h : i < R.length), (recC R)[i * 2]? = some (.int .i64 (R[i].s : Int)) ∧ (recC R)[i * 2 + 1]? = some (.slice R[i].A R[i].d.length R[i].c) := by
  induction R with
  | nil => intro i h; cases h
  | cons a R ih =>
    intro i h
    cases i with
    | zero => exact ⟨rfl, rfl⟩
    | succ i =>
      have := ih i (by simpa using h)
      simp only [recC, List.flatMap_cons] at this ⊢
      rw [show (i + 1) * 2 = i * 2 + 1 + 1 by omega]
      simpa [RecR.cells] using this
theorem recs_at {w : World} {lo n c : Nat} {A : Option Addr} {rs : List Rec} (h : RecsAt w lo (.slice A n c) rs) {j : Nat} (hj : j < rs.length) : ∃ ab ao A1 c1, A = some ⟨ab, ao, none⟩ ∧ ab < w.heap.size ∧ w.cell? ⟨ab, ao + j * 2, none⟩ = some (.int .i64 (rs[j].1 : Int)) ∧ w.cell? ⟨ab, ao + j * 2 + 1, none⟩ = some (.slice A1 rs[j].2.length c1) ∧ Rd w w.heap.size A1 (u8s rs[j].2) := by
  obtain ⟨R, h1, h2, h4⟩ := h.ex
  obtain ⟨A', c', e, _, _, h3⟩ := own_shape h2
  cases e
  have hjR : j < R.length := by rw [← h1, List.length_map] at hj; exact hj
  obtain ⟨ab, ao, rfl, hab, hcc⟩ := h3 (by intro e; have := recC_len R; rw [e] at this; simp at this; omega)
  obtain ⟨hc0, hc1⟩ := recC_two R j hjR
  have e : rs[j] = (R[j].s, R[j].d) := by
    have : rs[j]? = some (R[j].s, R[j].d) := by rw [← h1, List.getElem?_map, List.getElem?_eq_getElem hjR]; rfl
    rw [List.getElem?_eq_getElem hj] at this
    exact Option.some.inj this
  rw [e]
  exact ⟨ab, ao, R[j].A, R[j].c, rfl, hab, hcc _ _ hc0, by rw [Nat.add_assoc]; exact hcc _ _ hc1, (h4 _ (List.getElem_mem hjR)).1⟩
set_option maxRecDepth 100000 in
set_option maxHeartbeats 2000000 in
theorem same4_any {w : World} {lo B : Nat} (rs : List Rec) (A : Option Addr) (c : Nat) (A' : Option Addr) (c' : Nat) (hP : RecsAt w lo (.slice A rs.length c) rs) (hS : Rd w B A' (recS rs)) (hn : rs.length ≤ 4096) (n : Nat) (hn2 : n = rs.length) :
    Calls Try.prog 22 #[.slice A n c, .slice A' n c'] w fun e w' => e = .returned (.bool true) ∧ Below w.heap.size w w' := by
  have HP := Lib.hid (And.intro hP (And.intro hS hn2))
  have hnI : (n : Int) ≤ 4096 := by omega
  clear hP hS hn hn2
  go_enter Try.func22, Try.ntmps22
  go_wp2_with (fail)
  go_loopw [5, 13] (fun _ i wr => ∃ k : Nat, k ≤ n ∧ i = .int .i64 (k : Int) ∧ ∃ m, wr = w.drewN m)
    (fun _ i _ => n - (intOf i).toNat)
  case atStart => exact ⟨0, by omega, rfl, 0, rfl⟩
  case round =>
    obtain ⟨k, hk, rfl, m, rfl⟩ := hrel
    by_cases hkM : k < n
    · have hkI : (k : Int) < (n : Int) := by omega
      have hkP : k < rs.length := by have := HP.out.2.2; omega
      obtain ⟨pb, po, A1, c1, rfl, _, d0, d1, hr1⟩ := recs_at HP.out.1 hkP
      obtain ⟨qb, qo, rfl, _, e0, e1⟩ := recS_at HP.out.2.1 hkP
      generalize rs[k] = x at d0 d1 hr1 e0 e1
      obtain ⟨s, d⟩ := x
      simp only at d0 d1 hr1 e0 e1
      have g0 : (w.drewN m).cell? ⟨pb, po + k * 2, none⟩ = some (.int .i64 (s : Int)) := d0
      have g1 : (w.drewN m).cell? ⟨pb, po + k * 2 + 1, none⟩ = some (.slice A1 d.length c1) := d1
      have g2 : (w.drewN m).cell? ⟨qb, qo + k * 2, none⟩ = some (.int .i64 (s : Int)) := e0
      have g3 : (w.drewN m).cell? ⟨qb, qo + k * 2 + 1, none⟩ = some (.string ⟨d.toArray⟩) := e1
      have hs1 : ∀ n, (convert 45 9 (.slice A1 d.length c1)).run Try.prog ((w.drewN m).drewN n) = .ok (.string ⟨d.toArray⟩) ((w.drewN m).drewN n) := fun n => strAt ((hr1.drewN m).drewN n) rfl
      have hbb : Below w.heap.size w (w.drewN m) := below_draws (Below.refl _ _) m
      have HX := Lib.hid (And.intro hkM hbb)
      have HE : ∀ j, ∃ m', (w.drewN m).drewN j = w.drewN m' := fun j => ⟨m + j, by simp [World.drewN, Nat.add_assoc]⟩
      have HE2 := Lib.hid HE
      clear hr1 d0 d1 e0 e1 hk hkM hkP hbb HE
      generalize w.drewN m = W at g0 g1 g2 g3 hs1 HX HE2 ⊢
      go_upto_region 6 with (fail)
      go_quiet (fail)
      go_wp2_with (fail)
      exact ⟨⟨k + 1, HX.out.1, by simp, HE2.out nq⟩, by simp [intOf]; have := HX.out.1; omega⟩
    · have hkI : ¬ (k : Int) < (n : Int) := by omega
      clear hk hkM
      go_wp2_with (fail)
      go_ret
      exact ⟨rfl, below_draws (Below.refl _ _) m⟩
end Go.Proofs.Ytdjcpjfomgfjlaa
