/- The document's image: Counts, Load. -/
import Derived.Test.YtdjcpjfomgfjlaaImgS
namespace Go.Proofs.Ytdjcpjfomgfjlaa
open Go.RowKit Go.Maps

/-- What Counts answers. -/
def countsR (g : Nat → List UInt8) (first count : Nat) : Nat × Nat × Nat :=
  if seqO (hdA g first count) = 0 ∧ seqO (hdB g first count) = 0 then (0, 0, 0) else (areaC g first count, seqO (hdC g first count), sizO (hdC g first count))
def countsV (x : Nat × Nat × Nat) : Value := .tuple #[.int .i64 (x.1 : Int), .int .i64 (x.2.1 : Int), .int .i64 (x.2.2 : Int)]
theorem resCounts (tmps : Array Value) (v6 v7 v8 : Value) (h6 : tmps.getD 6 undef = v6) (h7 : tmps.getD 7 undef = v7) (h8 : tmps.getD 8 undef = v8) (w : World) :
    (results Try.f64 tmps).run Try.prog w = .ok (.tuple #[v6, v7, v8]) w := by
  subst h6 h7 h8
  simp [results, Try.results64, go_sem]
theorem resLoadR (tmps : Array Value) (v6 v7 v8 : Value) (h6 : tmps.getD 6 undef = v6) (h7 : tmps.getD 7 undef = v7) (h8 : tmps.getD 8 undef = v8) (w : World) :
    (results Try.f34 tmps).run Try.prog w = .ok (.tuple #[v6, v7, v8]) w := by
  subst h6 h7 h8
  simp [results, Try.results34, go_sem]
set_option maxRecDepth 100000 in
set_option maxHeartbeats 2000000 in
theorem rcounts_any (g : Nat → List UInt8) (N first count : Nat) (s0 f0 : Value) (st lf : Int) (A : Option Addr) (c B : Nat) (w : World) (hr : Rd w B A (strs ((List.range N).map g))) (hB : B ≤ w.heap.size) (hg : ∀ i, i < N → (g i).length = 64) (hfit : first + 2 * count ≤ N) (hN : N ≤ 4096) (hc2 : 2 ≤ count) :
    Calls Try.prog 64 #[.agg #[s0, .slice A N c, f0, .int .i64 st, .int .i64 lf], .int .i64 (first : Int), .int .i64 (count : Int)] w fun e w' => e = .returned (countsV (countsR g first count)) ∧ Below w.heap.size w w' := by
  have hb0 : Below w.heap.size w (w.alloc (.cells #[s0, .slice A N c, f0, .int .i64 st, .int .i64 lf] 33)) := (Below.refl _ _).alloc (Nat.le_refl _) _
  have hg0 := heap_alloc_new w (.cells #[s0, .slice A N c, f0, .int .i64 st, .int .i64 lf] 33)
  have har1 := fun (W : World) (hW : Below w.heap.size w W) => rarea_any g N first count s0 f0 st lf A c B W (hr.below hW hB) (Nat.le_trans hB hW.size) hg (by omega) hN hc2 (by omega) _ rfl
  have har2 := fun (W : World) (hW : Below w.heap.size w W) => rarea_any g N (first + count) count s0 f0 st lf A c B W (hr.below hW hB) (Nat.le_trans hB hW.size) hg (by omega) hN hc2 (by omega) _ rfl
  obtain ⟨x, hx⟩ : ∃ x, x = hdA g first count := ⟨_, rfl⟩
  obtain ⟨y, hy⟩ : ∃ y, y = hdB g first count := ⟨_, rfl⟩
  have ex : ahd (roomI count) (g first) = x := hx.symm
  have ey : ahd (roomI count) (g (first + count)) = y := hy.symm
  rw [ex] at har1
  rw [ey, Int.natCast_add] at har2
  obtain ⟨P, hP⟩ : ∃ P, P = seqO x := ⟨_, rfl⟩
  obtain ⟨Q, hQ⟩ : ∃ Q, Q = seqO y := ⟨_, rfl⟩
  obtain ⟨p, hp⟩ : ∃ p, p = sizO x := ⟨_, rfl⟩
  obtain ⟨q, hq⟩ : ∃ q, q = sizO y := ⟨_, rfl⟩
  have hres : countsR g first count = if P = 0 ∧ Q = 0 then (0, 0, 0) else if Q ≤ P then (first, P, p) else (first + count, Q, q) := by
    unfold countsR areaC hdC
    rw [← hx, ← hy, ← hP, ← hQ]
    by_cases h0 : P = 0 ∧ Q = 0
    · rw [if_pos h0, if_pos h0]
    · rw [if_neg h0, if_neg h0]
      by_cases h1 : Q ≤ P
      · have hpk : pick x y = true := by unfold pick; rw [← hP, ← hQ]; exact decide_eq_true ⟨by omega, h1⟩
        rw [if_pos h1]; simp [hpk, ← hP, ← hp]
      · have hpk : pick x y = false := by unfold pick; rw [← hP, ← hQ]; exact decide_eq_false (fun h => h1 h.2)
        rw [if_neg h1]; simp [hpk, ← hQ, ← hq]
  rw [← hP, ← hp] at har1
  rw [← hQ, ← hq] at har2
  have HA1 := Lib.hid har1
  have HA2 := Lib.hid har2
  have HRS := Lib.hid hres
  have hfI : (first : Int) + (count : Int) ≤ 4096 := by omega
  have hf0 : (0 : Int) ≤ (first : Int) := by omega
  clear har1 har2 hres hx hy ex ey hP hQ hp hq hr hg hfit hB
  go_enter Try.func64, Try.ntmps64
  go_upto_region 1 with (fail)
  generalize w.alloc (.cells #[s0, .slice A N c, f0, .int .i64 st, .int .i64 lf] 33) = W0 at hb0 hg0 ⊢
  have x0 := cell_of_row W0 w.heap.size 0 _ _ _ hg0
  have x1 := cell_of_row W0 w.heap.size 1 _ _ _ hg0
  have x2 := cell_of_row W0 w.heap.size 2 _ _ _ hg0
  have x3 := cell_of_row W0 w.heap.size 3 _ _ _ hg0
  have x4 := cell_of_row W0 w.heap.size 4 _ _ _ hg0
  have HB := Lib.hid (And.intro hb0 hg0)
  clear hb0 hg0
  go_upto_region 2 with (go_at_call 82; (with_reducible refine (HA1.out _ HB.out.1).mono ?_); rintro e w1 ⟨rfl, hb1⟩)
  have hg1 := (hb1.block w.heap.size (heap_lt HB.out.2)).trans HB.out.2
  have hw1 : Below w.heap.size w w1 := HB.out.1.trans (lower' hb1 HB.out.1.size)
  clear x0 x1 x2 x3 x4
  have x0 := cell_of_row w1 w.heap.size 0 _ _ _ hg1
  have x1 := cell_of_row w1 w.heap.size 1 _ _ _ hg1
  have x2 := cell_of_row w1 w.heap.size 2 _ _ _ hg1
  have x3 := cell_of_row w1 w.heap.size 3 _ _ _ hg1
  have x4 := cell_of_row w1 w.heap.size 4 _ _ _ hg1
  have H1 := Lib.hid hw1
  clear hg1 hw1 hb1
  by_cases h0 : P = 0
  · by_cases h1 : Q = 0
    · subst h0 h1
      go_wp2_with (go_at_call 82; (with_reducible refine (HA2.out _ H1.out).mono ?_); rintro e w2 ⟨rfl, hb2⟩; have HB2 := Lib.hid hb2; clear hb2)
      exact bodyPost_ret (resCounts _ _ _ _ rfl rfl rfl _) rfl ⟨by rw [HRS.out]; rfl, H1.out.trans (lower' HB2.out H1.out.size)⟩
    · have e : countsR g first count = (first + count, Q, q) := by rw [HRS.out, if_neg (fun h => h1 h.2), if_neg (by omega)]
      subst h0
      have HE := Lib.hid e
      have hQI : ¬ (Q : Int) = 0 := by omega
      have hQb : ((Q : Int) == 0) = false := by rw [beq_eq_false_iff_ne]; exact hQI
      have hQ2 : ¬ (Q : Int) ≤ 0 := by omega
      clear e h1
      go_wp2_with (go_at_call 82; (with_reducible refine (HA2.out _ H1.out).mono ?_); rintro e w2 ⟨rfl, hb2⟩; have HB2 := Lib.hid hb2; clear hb2)
      exact bodyPost_ret (resCounts _ _ _ _ rfl rfl rfl _) rfl ⟨by rw [HE.out]; simp [countsV], H1.out.trans (lower' HB2.out H1.out.size)⟩
  · have hPI : ¬ (P : Int) = 0 := by omega
    have hPb : ((P : Int) == 0) = false := by rw [beq_eq_false_iff_ne]; exact hPI
    by_cases h2 : Q ≤ P
    · have e : countsR g first count = (first, P, p) := by rw [HRS.out, if_neg (fun h => h0 h.1), if_pos h2]
      have HE := Lib.hid e
      have h2I : (Q : Int) ≤ (P : Int) := by omega
      clear e h0 h2
      go_wp2_with (go_at_call 82; (with_reducible refine (HA2.out _ H1.out).mono ?_); rintro e w2 ⟨rfl, hb2⟩; have HB2 := Lib.hid hb2; clear hb2)
      exact bodyPost_ret (resCounts _ _ _ _ rfl rfl rfl _) rfl ⟨by rw [HE.out]; simp [countsV], H1.out.trans (lower' HB2.out H1.out.size)⟩
    · have e : countsR g first count = (first + count, Q, q) := by rw [HRS.out, if_neg (fun h => h0 h.1), if_neg h2]
      have HE := Lib.hid e
      have h2I : ¬ (Q : Int) ≤ (P : Int) := by omega
      clear e h0 h2
      go_wp2_with (go_at_call 82; (with_reducible refine (HA2.out _ H1.out).mono ?_); rintro e w2 ⟨rfl, hb2⟩; have HB2 := Lib.hid hb2; clear hb2)
      exact bodyPost_ret (resCounts _ _ _ _ rfl rfl rfl _) rfl ⟨by rw [HE.out]; simp [countsV], H1.out.trans (lower' HB2.out H1.out.size)⟩
theorem hdC_some' {g : Nat → List UInt8} {first count s n : Nat} (h : hdC g first count = some (s, n)) : 1 ≤ s ∧ s ≤ 4611686018427387904 ∧ n ≤ roomI count := by
  unfold hdC at h
  split at h
  · exact ⟨(ahd_some h).1, (ahd_some h).2.1, (ahd_some h).2.2.1⟩
  · exact ⟨(ahd_some h).1, (ahd_some h).2.1, (ahd_some h).2.2.1⟩
/-- What Load answers. -/
def loadV : Option (Nat × List UInt8) → Value
  | none => .tuple #[.int .i64 0, .string ⟨#[]⟩, .bool false]
  | some (s, d) => .tuple #[.int .i64 (s : Int), .string ⟨d.toArray⟩, .bool true]
theorem counts_none {g : Nat → List UInt8} {first count : Nat} (h : hdC g first count = none) : (countsR g first count).2.1 = 0 := by
  unfold countsR
  split
  · rfl
  · rw [h]; rfl
theorem counts_some {g : Nat → List UInt8} {first count s n : Nat} (h : hdC g first count = some (s, n)) : countsR g first count = (areaC g first count, s, n) := by
  have h1 := (hdC_some' h)
  unfold countsR
  rw [if_neg, h]
  · rfl
  · rintro ⟨h2, h3⟩
    unfold hdC at h
    split at h
    · rw [h] at h2; change s = 0 at h2; omega
    · rw [h] at h3; change s = 0 at h3; omega
set_option maxRecDepth 100000 in
set_option maxHeartbeats 2000000 in
theorem rload_any (g : Nat → List UInt8) (N first count : Nat) (s0 f0 : Value) (st lf : Int) (A : Option Addr) (c B : Nat) (w : World) (hr : Rd w B A (strs ((List.range N).map g))) (hB : B ≤ w.heap.size) (hg : ∀ i, i < N → (g i).length = 64) (hfit : first + 2 * count ≤ N) (hN : N ≤ 4096) (hc2 : 2 ≤ count) :
    Calls Try.prog 34 #[.agg #[s0, .slice A N c, f0, .int .i64 st, .int .i64 lf], .int .i64 (first : Int), .int .i64 (count : Int)] w fun e w' => e = .returned (loadV (imgOf g first count)) ∧ Below w.heap.size w w' := by
  have hb0 : Below w.heap.size w (w.alloc (.cells #[s0, .slice A N c, f0, .int .i64 st, .int .i64 lf] 33)) := (Below.refl _ _).alloc (Nat.le_refl _) _
  have hg0 := heap_alloc_new w (.cells #[s0, .slice A N c, f0, .int .i64 st, .int .i64 lf] 33)
  have hct := fun (W : World) (hW : Below w.heap.size w W) => rcounts_any g N first count s0 f0 st lf A c B W (hr.below hW hB) (Nat.le_trans hB hW.size) hg hfit hN hc2
  have hal : areaC g first count ≤ first + count := by unfold areaC; split <;> omega
  obtain ⟨X, hX⟩ : ∃ X, X = hdC g first count := ⟨_, rfl⟩
  have himg : imgOf g first count = imgAt g (areaC g first count) X := by rw [hX]; rfl
  have HR := Lib.hid (And.intro hr (And.intro hB hg))
  rw [himg]
  cases hXc : X with
  | none =>
    have hz : (countsR g first count).2.1 = 0 := counts_none (hX ▸ hXc)
    obtain ⟨K, hK⟩ : ∃ K, K = countsR g first count := ⟨_, rfl⟩
    rw [← hK] at hz hct
    unfold countsV at hct
    rw [hz] at hct
    obtain ⟨k1, hk1⟩ : ∃ k : Int, k = (K.1 : Int) := ⟨_, rfl⟩
    obtain ⟨k2, hk2⟩ : ∃ k : Int, k = (K.2.2 : Int) := ⟨_, rfl⟩
    rw [← hk1, ← hk2] at hct
    have HC := Lib.hid hct
    have HV := Lib.hid (show loadV (imgAt g (areaC g first count) none) = .tuple #[.int .i64 0, .string ⟨#[]⟩, .bool false] from rfl)
    clear hct hz hK hk1 hk2 himg hX hXc hr hg
    go_enter Try.func34, Try.ntmps34
    go_upto_region 1 with (fail)
    generalize w.alloc (.cells #[s0, .slice A N c, f0, .int .i64 st, .int .i64 lf] 33) = W0 at hb0 hg0 ⊢
    have x0 := cell_of_row W0 w.heap.size 0 _ _ _ hg0
    have x1 := cell_of_row W0 w.heap.size 1 _ _ _ hg0
    have x2 := cell_of_row W0 w.heap.size 2 _ _ _ hg0
    have x3 := cell_of_row W0 w.heap.size 3 _ _ _ hg0
    have x4 := cell_of_row W0 w.heap.size 4 _ _ _ hg0
    have HB := Lib.hid (And.intro hb0 hg0)
    clear hb0 hg0
    go_wp2_with (go_at_call 64; (with_reducible refine (HC.out _ HB.out.1).mono ?_); rintro e w1 ⟨rfl, hb1⟩; have HB1 := Lib.hid hb1; clear hb1)
    exact bodyPost_ret (resLoadR _ _ _ _ rfl rfl rfl _) rfl ⟨by rw [HV.out]; rfl, HB.out.1.trans (lower' HB1.out HB.out.1.size)⟩
  | some z =>
    obtain ⟨s, n⟩ := z
    have hcs := counts_some (hX ▸ hXc : hdC g first count = some (s, n))
    obtain ⟨hs1, hs2, hn⟩ := hdC_some' (hX ▸ hXc : hdC g first count = some (s, n))
    rw [hcs] at hct
    unfold countsV at hct
    obtain ⟨C, hC⟩ : ∃ C, C = areaC g first count := ⟨_, rfl⟩
    rw [← hC] at hct hal
    rw [← hC]
    have hroom : roomI count ≤ 262144 := by unfold roomI; omega
    have hsn : secs n < count := secs_room hn hc2
    have HC := Lib.hid hct
    have hs0 : ((s : Int) == 0) = false := by rw [beq_eq_false_iff_ne]; omega
    have hs0' : ¬ (s : Int) = 0 := by omega
    have HS := Lib.hid (And.intro hsn (And.intro hal hfit))
    have hnI : (n : Int) ≤ 262144 := by omega
    have hCI : (C : Int) + (secs n : Int) < (N : Int) := by omega
    have hNI : (N : Int) ≤ 4096 := by omega
    have hsnI : (secs n : Int) ≤ 4096 := by omega
    clear hct hcs himg hX hXc hr hg hs1 hs2 hn hsn hal hC hroom hfit
    go_enter Try.func34, Try.ntmps34
    go_upto_region 1 with (fail)
    generalize w.alloc (.cells #[s0, .slice A N c, f0, .int .i64 st, .int .i64 lf] 33) = W0 at hb0 hg0 ⊢
    have x0 := cell_of_row W0 w.heap.size 0 _ _ _ hg0
    have x1 := cell_of_row W0 w.heap.size 1 _ _ _ hg0
    have x2 := cell_of_row W0 w.heap.size 2 _ _ _ hg0
    have x3 := cell_of_row W0 w.heap.size 3 _ _ _ hg0
    have x4 := cell_of_row W0 w.heap.size 4 _ _ _ hg0
    have HB := Lib.hid (And.intro hb0 hg0)
    clear hb0 hg0
    go_upto_region 2 with (go_at_call 64; (with_reducible refine (HC.out _ HB.out.1).mono ?_); rintro e w1 ⟨rfl, hb1⟩)
    have hg1 := (hb1.block w.heap.size (heap_lt HB.out.2)).trans HB.out.2
    have hw1 : Below w.heap.size w w1 := HB.out.1.trans (lower' hb1 HB.out.1.size)
    have y1 := cell_of_row w1 w.heap.size 1 _ _ _ hg1
    have H1 := Lib.hid (And.intro hw1 (HR.out.1.below hw1 HR.out.2.1))
    clear hg1 hw1 hb1 x0 x1 x2 x3 x4
    go_wp2_with (fail)
    go_loop [9, 12] (fun a u => ∃ k : Nat, k ≤ secs n ∧ a = .int .i64 ((C : Int) + (k : Int)) ∧ u = .string ⟨(cat g (C + 1) k).toArray⟩) (fun a _ => secs n - (intOf a - (C : Int)).toNat)
    case atStart => exact ⟨0, by omega, by simp, rfl⟩
    case round =>
      obtain ⟨k, hk, rfl, rfl⟩ := hrel
      have hcl : (cat g (C + 1) k).length = 64 * k := cat_len (fun i hi => HR.out.2.2 _ (by have := HS.out; omega))
      have hkI : (k : Int) ≤ (secs n : Int) := by omega
      by_cases hkn : k < secs n
      · have hlt : ((cat g (C + 1) k).length : Int) < (n : Int) := by rw [hcl]; unfold secs at hkn; omega
        have hkN : (C : Int) + (k : Int) + 1 < (N : Int) := by omega
        have hk0 : (0 : Int) ≤ (C : Int) + (k : Int) + 1 := by omega
        have hkt : ((C : Int) + (k : Int) + 1).toNat = C + 1 + k := by omega
        obtain ⟨ab2, ao2, rfl, hab2, hc2'⟩ := H1.out.2.get (k := C + 1 + k) (by simp [strs]; omega)
        have hc3 : w1.cell? ⟨ab2, ao2 + (C + 1 + k), none⟩ = some (.string ⟨(g (C + 1 + k)).toArray⟩) := by rw [hc2']; simp [strs]
        have hns : ¬ 9223372036854775807 < (cat g (C + 1) k).length + (g (C + 1 + k)).length := by
          rw [hcl, HR.out.2.2 _ (by have := HS.out; omega)]
          omega
        clear hc2' hab2 hcl
        go_wp2
        exact ⟨⟨k + 1, hkn, by simp; omega, by rw [ba_app, cat_succ]⟩, by simp [intOf]; omega⟩
      · obtain rfl : k = secs n := by omega
        have hlt : ¬ ((cat g (C + 1) (secs n)).length : Int) < (n : Int) := by rw [hcl]; unfold secs; omega
        have hle : (n : Int) ≤ ((cat g (C + 1) (secs n)).length : Int) := by omega
        have hex := ba_take (cat g (C + 1) (secs n)) n
        have HV := Lib.hid (show loadV (imgAt g C (some (s, n))) = .tuple #[.int .i64 (s : Int), .string ⟨((cat g (C + 1) (secs n)).take n).toArray⟩, .bool true] from rfl)
        clear hcl hkn hk
        go_upto_region 8 with (fail)
        go_region
        all_goals
          go_wp2
          exact bodyPost_ret (resLoadR _ _ _ _ rfl rfl rfl _) rfl ⟨by rw [HV.out]; rfl, H1.out.1.drew⟩
end Go.Proofs.Ytdjcpjfomgfjlaa
