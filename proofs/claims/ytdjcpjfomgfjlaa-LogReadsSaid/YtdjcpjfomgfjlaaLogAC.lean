/- The document's log: wipe. -/
import Derived.Test.YtdjcpjfomgfjlaaLogAB
import Derived.Test.YtdjcpjfomgfjlaaImgV
import Derived.Test.YtdjcpjfomgfjlaaLogP
namespace Go.Proofs.Ytdjcpjfomgfjlaa
open Go.RowKit Go.Maps

theorem make_zero (w : World) : ∃ w5, (Instr.makeSlice 45 (.int .i64 64) (.int .i64 64)).run Try.prog w = .ok (.slice (some ⟨w.heap.size, 0, none⟩) 64 64) w5 ∧ Below w.heap.size w w5 ∧ (convert 45 9 (.slice (some ⟨w.heap.size, 0, none⟩) 64 64)).run Try.prog w5 = .ok (.string ⟨zero64.toArray⟩) w5 := by
  have h := make64 w
  refine ⟨_, h, (Below.refl _ _).alloc (Nat.le_refl _) _, ?_⟩
  exact strAt (n := 64) (c := 64) (Rd.new w (u8s zero64).toArray 5 (0, 0)) rfl
theorem resWipe {w : World} {b : Nat} {v0 v1 v2 v3 v4 : Value} (h : w.heap[b]? = some (.cells #[v0, v1, v2, v3, v4] 33 (0, 0))) (tmps : Array Value) (h2 : tmps.getD 4 undef = .pointer (some ⟨b, 0, none⟩)) :
    (results Try.f44 tmps).run Try.prog w = .ok (.tuple #[.agg #[v0, v1, v2, v3, v4], tmps.getD 5 undef]) w := by
  have e0 : w.cell? ⟨b, 0, none⟩ = some v0 := cell_of_row w b 0 _ _ _ h
  have e1 : w.cell? ⟨b, 1, none⟩ = some v1 := cell_of_row w b 1 _ _ _ h
  have e2 : w.cell? ⟨b, 2, none⟩ = some v2 := cell_of_row w b 2 _ _ _ h
  have e3 : w.cell? ⟨b, 3, none⟩ = some v3 := cell_of_row w b 3 _ _ _ h
  have e4 : w.cell? ⟨b, 4, none⟩ = some v4 := cell_of_row w b 4 _ _ _ h
  have h2' := h2
  simp only [Array.getD_eq_getD_getElem?] at h2'
  simp [results, Try.results44, go_sem, h2', e0, e1, e2, e3, e4]
theorem zeroOps_len (L : List Nat) : (zeroOps L).length = L.length := List.length_map _
set_option maxRecDepth 100000 in
set_option maxHeartbeats 4000000 in
theorem rwipe_any (w : World) (X : List Nat) (M : DM) (T : Nat) (v : Value) (hv : RefV w X (refOf M) v) (hk : M.Ok T) (hp : 0 < M.size) (hX : ∀ x ∈ X, x < w.heap.size) (A : Option Addr) (c B : Nat) (L : List Nat) (hst : M.steps + L.length ≤ 1000000000) (hr : Rd w B A (ints L)) (hB : B ≤ w.heap.size) (hat : ∀ i ∈ L, i < M.size) (hL : L.length ≤ 4096) :
    Calls Try.prog 44 #[v, .slice A L.length c] w fun e w' => ∃ v', e = .returned (.tuple #[v', .int .i64 (runOps (wipeOps L) M).1]) ∧ RefV w' X (refOf (runOps (wipeOps L) M).2) v' ∧ Below w.heap.size w w' := by
  have hv' := hv
  obtain ⟨A1, A2, A3, c1, c2, c3, rfl, _, _, _⟩ := hv'
  obtain ⟨n1, hn1⟩ : ∃ n, n = (refOf M).sure.length := ⟨_, rfl⟩
  obtain ⟨n2, hn2⟩ : ∃ n, n = (refOf M).now.length := ⟨_, rfl⟩
  obtain ⟨n3, hn3⟩ : ∃ n, n = (refOf M).fresh.length := ⟨_, rfl⟩
  obtain ⟨sx, hsx⟩ : ∃ n, n = (refOf M).steps := ⟨_, rfl⟩
  obtain ⟨lx, hlx⟩ : ∃ n, n = (refOf M).left := ⟨_, rfl⟩
  rw [← hn1, ← hn2, ← hn3, ← hsx, ← hlx] at hv ⊢
  have h2 := RBox.new hv hp
  have hLI : (L.length : Int) ≤ 4096 := by omega
  have HR := Lib.hid (And.intro hr (And.intro hB (And.intro hat (And.intro hk (And.intro hst hX)))))
  clear hn1 hn2 hn3 hsx hlx hv hr hB hat hk hp hst hX hL
  obtain ⟨Rz, hRz⟩ : ∃ Rz, Rz = runOps (wipeOps L) M := ⟨_, rfl⟩
  rw [← hRz]
  have HRZ := Lib.hid hRz
  clear hRz
  go_enter Try.func44, Try.ntmps44
  go_upto_region 2 with (fail)
  generalize ((w.alloc (.cells #[.slice A1 n1 c1, .slice A2 n2 c2, .slice A3 n3 c3, .int .i64 sx, .int .i64 lx] 33)).alloc (.cells #[.slice none 0 0, .slice none 0 0, .slice none 0 0, .int .i64 0, .int .i64 0] 33)) = W2 at h2 ⊢
  have H2 := Lib.hid h2
  clear h2
  go_wp2_with (fail)
  go_loopw [6, 7, 10] (fun cd _ a wr => ∃ (k : Nat) (Mk : DM), k ≤ L.length ∧ a = .int .i64 (k : Int) ∧ cd = .int .i64 0 ∧ runOps (zeroOps (L.take k)) M = (0, Mk) ∧ RBox w wr X Mk)
    (fun _ _ a _ => L.length - (intOf a).toNat)
  case atStart => exact ⟨0, M, by omega, rfl, rfl, rfl, H2.out⟩
  case round =>
    obtain ⟨k, Mk, hkl, rfl, rfl, hrun, hbx⟩ := hrel
    have hfa := runOps_facts (zeroOps (L.take k)) M
    rw [hrun, zeroOps_len, List.length_take] at hfa
    dsimp only at hfa
    have hok : Mk.Ok T := ⟨by rw [hfa.1]; exact HR.out.2.2.2.1.size, by have := HR.out.2.2.2.2.1; omega, Nat.le_trans hfa.2.2.1 HR.out.2.2.2.1.left, HR.out.2.2.2.1.T⟩
    obtain ⟨P1, P2, P3, p1, p2, p3, e1, e2, e3, sk, lk, hg, hvk⟩ := hbx.box
    have hXk : ∀ x ∈ w.heap.size :: (w.heap.size + 1) :: X, x < wr.heap.size := by
      intro x hx
      rcases List.mem_cons.1 hx with rfl | hx
      · exact heap_lt hg
      · rcases List.mem_cons.1 hx with rfl | hx
        · exact heap_lt hbx.res
        · exact Nat.lt_of_lt_of_le (HR.out.2.2.2.2.2 x hx) hbx.below.size
    by_cases hkn : k < L.length
    · have hkI : (k : Int) < (L.length : Int) := by omega
      obtain ⟨b, hbe⟩ : ∃ b, b = L[k] := ⟨_, rfl⟩
      have htk : L.take (k + 1) = L.take k ++ [b] := by rw [hbe]; exact List.take_succ_eq_append_getElem hkn
      have hki : b < Mk.size := by rw [hfa.1, hbe]; exact HR.out.2.2.1 _ (List.getElem_mem hkn)
      have hsn : zeroOps (L.take (k + 1)) = zeroOps (L.take k) ++ [some (b, zero64)] := by rw [htk]; simp [zeroOps]
      obtain ⟨ab, ao, rfl, hab, hcell⟩ := HR.out.1.get (k := k) (by rw [ints_len]; exact hkn)
      have hrow : ∀ w' : World, Below wr.heap.size wr w' → w'.cell? ⟨ab, ao + k, none⟩ = some (.int .i64 (b : Int)) := fun w' hb => by
        have h := hcell
        simp only [ints, List.getElem_map, ← hbe] at h
        rw [← h]
        exact (hbx.below.trans (lower' hb hbx.below.size)).cell (p := ⟨ab, ao + k, none⟩) (Nat.lt_of_lt_of_le hab HR.out.2.1)
      have hcells : ∀ w' : World, Below wr.heap.size wr w' → w'.cell? ⟨ab, ao + k, none⟩ = some (.int .i64 (b : Int)) ∧ w'.cell? ⟨w.heap.size, 0, none⟩ = some (.slice P1 p1 e1) ∧ w'.cell? ⟨w.heap.size, 1, none⟩ = some (.slice P2 p2 e2) ∧ w'.cell? ⟨w.heap.size, 2, none⟩ = some (.slice P3 p3 e3) ∧ w'.cell? ⟨w.heap.size, 3, none⟩ = some (.int .i64 sk) ∧ w'.cell? ⟨w.heap.size, 4, none⟩ = some (.int .i64 lk) := fun w' hb => by
        have g2 := (hb.block _ (heap_lt hg)).trans hg
        exact ⟨hrow w' hb, cell_of_row w' _ 0 _ _ _ g2, cell_of_row w' _ 1 _ _ _ g2, cell_of_row w' _ 2 _ _ _ g2, cell_of_row w' _ 3 _ _ _ g2, cell_of_row w' _ 4 _ _ _ g2⟩
      obtain ⟨cd, hcd⟩ : ∃ cd : Int, cd = if Mk.dead then 30 else 0 := ⟨_, rfl⟩
      obtain ⟨Mn, hMn⟩ : ∃ Mn, Mn = if Mk.dead then Mk else Mk.written b zero64 := ⟨_, rfl⟩
      have hwr : ∀ w5 : World, Below wr.heap.size wr w5 → Calls Try.prog 19 #[.agg #[.slice P1 p1 e1, .slice P2 p2 e2, .slice P3 p3 e3, .int .i64 sk, .int .i64 lk], .int .i64 (b : Int), .string ⟨zero64.toArray⟩] w5 fun e w' => ∃ B1 B2 B3 m1 m2 m3 d1 d2 d3 s l, e = .returned (.tuple #[.agg #[.slice B1 m1 d1, .slice B2 m2 d2, .slice B3 m3 d3, .int .i64 s, .int .i64 l], .int .i64 cd]) ∧ RefV w' (w.heap.size :: (w.heap.size + 1) :: X) (refOf Mn) (.agg #[.slice B1 m1 d1, .slice B2 m2 d2, .slice B3 m3 d3, .int .i64 s, .int .i64 l]) ∧ Below w5.heap.size w5 w' := fun w5 hb => by
        have h := (hvk.below hb).rwrite (wr := w5) hok (fun x hx => Nat.lt_of_lt_of_le (hXk x hx) hb.size) (b : Int) zero64
        rw [(write_eq hki rfl).1, (write_eq hki rfl).2, ← hcd, ← hMn] at h
        exact h
      have HW := Lib.hid hwr
      have KS := Lib.hid hcells
      have HX := Lib.hid (And.intro hbx (And.intro hkn hg))
      have HC := Lib.hid (And.intro hcd (And.intro hMn (And.intro hrun hsn)))
      obtain ⟨w5, hmk, hb5, hcv⟩ := make_zero wr.drew
      replace hcv : (convert 45 9 (.slice (some ⟨wr.heap.size, 0, none⟩) 64 64)).run Try.prog w5 = .ok (.string ⟨zero64.toArray⟩) w5 := hcv
      have hb5' : Below wr.heap.size wr w5 := ⟨hb5.os, hb5.tape, hb5.output, hb5.size, hb5.block⟩
      have HB5 := Lib.hid hb5'
      clear hwr hcells hrow hcell hbx hkn hg hcd hMn hrun hsn hfa hok hvk hXk hbe htk hki hb5 hb5'
      go_upto_region 5 with (fail)
      go_cut [6] from 13 to 23 (fun u w' => u = .int .i64 cd ∧ Hid (RBox w w' X Mn))
      case first =>
        have hS0 := KS.out wr.drew (Below.refl _ _).drew
        refine wp_region_M (fun j => decide (j < 8)) (fun w' => w'.cell? ⟨ab, ao + k, none⟩ = some (.int .i64 (b : Int)) ∧ w'.cell? ⟨w.heap.size, 0, none⟩ = some (.slice P1 p1 e1) ∧ w'.cell? ⟨w.heap.size, 1, none⟩ = some (.slice P2 p2 e2) ∧ w'.cell? ⟨w.heap.size, 2, none⟩ = some (.slice P3 p3 e3) ∧ w'.cell? ⟨w.heap.size, 3, none⟩ = some (.int .i64 sk) ∧ w'.cell? ⟨w.heap.size, 4, none⟩ = some (.int .i64 lk)) (by kernel_rfl) ?_
        refine wpAnyM_take (i := 0) (v := ?_) rfl (by kernel_rfl) (by kernel_rfl) (by kernel_rfl) (by kernel_rfl) (fun _ _ _ h => h) (Or.inl ⟨by rfl, ?_⟩) hS0 ?_
        rotate_left
        · intro w hSw; (try dsimp only at hSw); go_simp; (try with_reducible rfl)
        simp only [Act.put, List.getElem_toArray, List.getElem_cons_zero, List.getElem_cons_succ, List.setIfInBounds_toArray, List.set_cons_zero, List.set_cons_succ]
        refine wpAnyM_take (i := 1) (v := ?_) rfl (by kernel_rfl) (by kernel_rfl) (by kernel_rfl) (by kernel_rfl) (fun _ _ _ h => h) (Or.inl ⟨by rfl, ?_⟩) hS0 ?_
        rotate_left
        · intro w hSw; (try dsimp only at hSw); go_simp; (try with_reducible rfl)
        simp only [Act.put, List.getElem_toArray, List.getElem_cons_zero, List.getElem_cons_succ, List.setIfInBounds_toArray, List.set_cons_zero, List.set_cons_succ]
        refine wpAnyM_take (i := 2) (v := ?_) rfl (by kernel_rfl) (by kernel_rfl) (by kernel_rfl) (by kernel_rfl) (fun _ _ _ h => h) (Or.inl ⟨by rfl, ?_⟩) hS0 ?_
        rotate_left
        · intro w hSw; (try dsimp only at hSw); go_simp; (try with_reducible rfl)
        simp only [Act.put, List.getElem_toArray, List.getElem_cons_zero, List.getElem_cons_succ, List.setIfInBounds_toArray, List.set_cons_zero, List.set_cons_succ]
        refine wpAnyM_take (i := 3) (v := ?_) rfl (by kernel_rfl) (by kernel_rfl) (by kernel_rfl) (by kernel_rfl) (fun _ _ _ h => h) (Or.inl ⟨by rfl, ?_⟩) hS0 ?_
        rotate_left
        · intro w hSw; (try dsimp only at hSw); go_simp; (try with_reducible rfl)
        simp only [Act.put, List.getElem_toArray, List.getElem_cons_zero, List.getElem_cons_succ, List.setIfInBounds_toArray, List.set_cons_zero, List.set_cons_succ]
        refine wpAnyM_take (i := 4) (v := ?_) rfl (by kernel_rfl) (by kernel_rfl) (by kernel_rfl) (by kernel_rfl) (fun _ _ _ h => h) (Or.inl ⟨by rfl, ?_⟩) hS0 ?_
        rotate_left
        · intro w hSw; (try dsimp only at hSw); go_simp; (try with_reducible rfl)
        simp only [Act.put, List.getElem_toArray, List.getElem_cons_zero, List.getElem_cons_succ, List.setIfInBounds_toArray, List.set_cons_zero, List.set_cons_succ]
        refine wpAnyM_one (i := 5) (by kernel_rfl) rfl (fun K hK => ?_)
        go_simp
        refine hK.out _ _ (fun _ => KS.out _ HB5.out) ?_
        clear hK K
        refine wpAnyM_one (i := 6) (by kernel_rfl) rfl (fun K hK => ?_)
        go_simp
        refine hK.out _ _ (fun _ => KS.out _ HB5.out) ?_
        clear hK K
        refine wpAnyM_one (i := 7) (by kernel_rfl) rfl (fun K hK => ?_)
        go_simp
        go_wp2_with (go_at_call 19; (with_reducible refine (HW.out _ HB5.out).mono ?_); rintro e w9 ⟨B1, B2, B3, r1, r2, r3, f1, f2, f3, s9, l9, rfl, hR9, hb9⟩)
        have hb9' := HB5.out.trans (lower' hb9 HB5.out.size)
        refine hK.out _ _ (fun _ => KS.out _ hb9') ?_
        clear hK K
        refine wpAnyM_value (i := 8) (v := ?_) rfl (by kernel_rfl) (by kernel_rfl) (by kernel_rfl) (by kernel_rfl) (fun _ _ _ h => h) (Or.inl ⟨by rfl, ?_⟩) ?_
        rotate_left
        · intro w hSw; go_simp; (try with_reducible rfl)
        simp only [Act.put, List.getElem_toArray, List.getElem_cons_zero, List.getElem_cons_succ, List.setIfInBounds_toArray, List.set_cons_zero, List.set_cons_succ]
        refine wpAnyM_value (i := 9) (v := ?_) rfl (by kernel_rfl) (by kernel_rfl) (by kernel_rfl) (by kernel_rfl) (fun _ _ _ h => h) (Or.inl ⟨by rfl, ?_⟩) ?_
        rotate_left
        · intro w hSw; go_simp; (try with_reducible rfl)
        simp only [Act.put, List.getElem_toArray, List.getElem_cons_zero, List.getElem_cons_succ, List.setIfInBounds_toArray, List.set_cons_zero, List.set_cons_succ]
        refine wpAnyM_value (i := 10) (v := ?_) rfl (by kernel_rfl) (by kernel_rfl) (by kernel_rfl) (by kernel_rfl) (fun _ _ _ h => h) (Or.inl ⟨by rfl, ?_⟩) ?_
        rotate_left
        · intro w hSw; go_simp; (try with_reducible rfl)
        simp only [Act.put, List.getElem_toArray, List.getElem_cons_zero, List.getElem_cons_succ, List.setIfInBounds_toArray, List.set_cons_zero, List.set_cons_succ]
        have hg9 := (hb9'.block _ (heap_lt HX.out.2.2)).trans HX.out.2.2
        have u0 := cell_of_row w9 (w.heap.size) 0 _ _ _ hg9; have u1 := cell_of_row w9 (w.heap.size) 1 _ _ _ hg9; have u2 := cell_of_row w9 (w.heap.size) 2 _ _ _ hg9; have u3 := cell_of_row w9 (w.heap.size) 3 _ _ _ hg9; have u4 := cell_of_row w9 (w.heap.size) 4 _ _ _ hg9; have t0 := frozen_of_row w9 (w.heap.size) 0 _ _ hg9; have t1 := frozen_of_row w9 (w.heap.size) 1 _ _ hg9; have t2 := frozen_of_row w9 (w.heap.size) 2 _ _ hg9; have t3 := frozen_of_row w9 (w.heap.size) 3 _ _ hg9; have t4 := frozen_of_row w9 (w.heap.size) 4 _ _ hg9
        refine wpAnyM_one (i := 11) (by kernel_rfl) rfl (fun K hK => ?_)
        go_simp
        refine hK.out _ _ (fun h => absurd h (by decide)) ?_
        clear hK K
        refine wpAnyM_value (i := 12) (v := ?_) rfl (by kernel_rfl) (by kernel_rfl) (by kernel_rfl) (by kernel_rfl) (fun _ _ _ h => h) (Or.inl ⟨by rfl, ?_⟩) ?_
        rotate_left
        · intro w hSw; go_simp; (try with_reducible rfl)
        simp only [Act.put, List.getElem_toArray, List.getElem_cons_zero, List.getElem_cons_succ, List.setIfInBounds_toArray, List.set_cons_zero, List.set_cons_succ]
        refine wpAnyM_done (by kernel_rfl) ?_ _
        have hput := HX.out.1.put hb9' hR9
        go_wp2_with (fail)
        go_meet
        case rel => exact ⟨rfl, Lib.hid hput⟩
      case rest =>
        obtain ⟨rfl, HX9⟩ := hcut
        cases hd : Mk.dead with
        | true =>
          have hcd : cd = 30 := by rw [HC.out.1, hd]; rfl
          have hMn : Mn = Mk := by rw [HC.out.2.1, hd]; rfl
          have hz : Rz = (30, Mk) := by
            rw [HRZ.out]
            unfold wipeOps
            rw [← List.take_append_drop k (zeroOps L), zeroOps_take, List.append_assoc, runOps_append, HC.out.2.2.1, if_pos rfl]
            exact runOps_dead hd (by simp)
          have hX9 := HX9.out
          rw [hMn] at hX9
          have HZ := Lib.hid hz
          subst hcd
          obtain ⟨Q1, Q2, Q3, q1, q2, q3, g1, g2, g3, sq, lq, hgq, hvq⟩ := hX9.box
          have hrs := hX9.res
          have z0 := cell_of_row wc (w.heap.size) 0 _ _ _ hgq; have z1 := cell_of_row wc (w.heap.size) 1 _ _ _ hgq; have z2 := cell_of_row wc (w.heap.size) 2 _ _ _ hgq; have z3 := cell_of_row wc (w.heap.size) 3 _ _ _ hgq; have z4 := cell_of_row wc (w.heap.size) 4 _ _ _ hgq
          have m0 := cell_of_row wc (w.heap.size + 1) 0 _ _ _ hrs; have m1 := cell_of_row wc (w.heap.size + 1) 1 _ _ _ hrs; have m2 := cell_of_row wc (w.heap.size + 1) 2 _ _ _ hrs; have m3 := cell_of_row wc (w.heap.size + 1) 3 _ _ _ hrs; have m4 := cell_of_row wc (w.heap.size + 1) 4 _ _ _ hrs
          have mf0 := frozen_of_row wc (w.heap.size + 1) 0 _ _ hrs; have mf1 := frozen_of_row wc (w.heap.size + 1) 1 _ _ hrs; have mf2 := frozen_of_row wc (w.heap.size + 1) 2 _ _ hrs; have mf3 := frozen_of_row wc (w.heap.size + 1) 3 _ _ hrs; have mf4 := frozen_of_row wc (w.heap.size + 1) 4 _ _ hrs
          have hdn := hX9.done (Below.refl _ _) hvq
          have HDN := Lib.hid hdn
          clear hdn hX9 hgq hvq hrs hz hd hMn hmk hcv
          go_wp2_with (fail)
          exact bodyPost_ret (resWipe HDN.out.1 _ rfl) rfl ⟨_, by rw [HZ.out]; rfl, by rw [HZ.out]; exact HDN.out.2.1, HDN.out.2.2⟩
        | false =>
          have hcd : cd = 0 := by rw [HC.out.1, hd]; rfl
          have hMn : Mn = Mk.written b zero64 := by rw [HC.out.2.1, hd]; rfl
          have hrn : runOps (zeroOps (L.take (k + 1))) M = (0, Mn) := by
            rw [HC.out.2.2.2, runOps_append, HC.out.2.2.1, if_pos rfl, hMn]
            simp only [runOps]
            rw [if_neg (by simp [hd])]
            rfl
          have HRN := Lib.hid hrn
          subst hcd
          clear hrn hMn hd hmk hcv
          go_wp2_with (fail)
          exact ⟨⟨k + 1, Mn, HX.out.2.1, by simp, rfl, HRN.out, HX9.out⟩, by simp [intOf]; have := HX.out.2.1; omega⟩
    · obtain rfl : k = L.length := by omega
      have hkI : ¬ (L.length : Int) < (L.length : Int) := by omega
      rw [List.take_length] at hrun
      have hz : Rz = (Mk.flushE, Mk.flushM) := by
        rw [HRZ.out]
        unfold wipeOps
        rw [runOps_append, hrun, if_pos rfl]
        unfold runOps DM.flushE DM.flushM
        cases hd : Mk.dead with
        | true => rfl
        | false => rfl
      have hw := hvk.rflush hok hXk
      have y0 := cell_of_row wr (w.heap.size) 0 _ _ _ hg; have y1 := cell_of_row wr (w.heap.size) 1 _ _ _ hg; have y2 := cell_of_row wr (w.heap.size) 2 _ _ _ hg; have y3 := cell_of_row wr (w.heap.size) 3 _ _ _ hg; have y4 := cell_of_row wr (w.heap.size) 4 _ _ _ hg
      have HZ := Lib.hid hz
      have HW := Lib.hid hw
      have HX := Lib.hid (And.intro hbx hbx.res)
      clear hw hz hrun hfa hok hvk hXk hg hbx
      go_wp2_with (first
        | (go_at_call 48; (with_reducible refine HW.out.mono ?_); rintro e w9 ⟨B1, B2, B3, r1, r2, r3, f1, f2, f3, s9, l9, rfl, hR9, hb9⟩; have hdn := HX.out.1.done hb9 hR9; have HDN := Lib.hid hdn; have hrs := (hb9.block _ (heap_lt HX.out.2)).trans HX.out.2; have z0 := cell_of_row w9 (w.heap.size + 1) 0 _ _ _ hrs; have z1 := cell_of_row w9 (w.heap.size + 1) 1 _ _ _ hrs; have z2 := cell_of_row w9 (w.heap.size + 1) 2 _ _ _ hrs; have z3 := cell_of_row w9 (w.heap.size + 1) 3 _ _ _ hrs; have z4 := cell_of_row w9 (w.heap.size + 1) 4 _ _ _ hrs; have zf0 := frozen_of_row w9 (w.heap.size + 1) 0 _ _ hrs; have zf1 := frozen_of_row w9 (w.heap.size + 1) 1 _ _ hrs; have zf2 := frozen_of_row w9 (w.heap.size + 1) 2 _ _ hrs; have zf3 := frozen_of_row w9 (w.heap.size + 1) 3 _ _ hrs; have zf4 := frozen_of_row w9 (w.heap.size + 1) 4 _ _ hrs; clear hdn)
        | fail)
      exact bodyPost_ret (resWipe HDN.out.1 _ rfl) rfl ⟨_, by rw [HZ.out]; rfl, by rw [HZ.out]; exact HDN.out.2.1, HDN.out.2.2⟩
end Go.Proofs.Ytdjcpjfomgfjlaa
