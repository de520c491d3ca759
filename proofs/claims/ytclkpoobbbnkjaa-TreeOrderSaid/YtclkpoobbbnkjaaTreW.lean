/- TreeOrder: the closure that answers the keys in another order. -/
import Derived.Test.YtclkpoobbbnkjaaTreU
import Derived.Test.YtclkpoobbbnkjaaTreY
import Derived.Test.YtclkpoobbbnkjaaTreX
import Derived.IntWalk
namespace Go.Proofs.Ytclkpoobbbnkjaa
open Go.RowKit Go.Maps

theorem rem_u (n : Int) (m : Nat) (h0 : 0 < m) (h1 : m < 1000000000) : ∃ k : Nat, k < m ∧ IntKind.i64.wrap ((IntKind.u64.wrap n).tmod (m : Int)) = (k : Int) ∧ wrap64 ((IntKind.u64.wrap n).tmod (m : Int)) = (k : Int) := by
  have h2 : 0 ≤ IntKind.u64.wrap n := by
    rw [IntKind.wrap_u64]
    omega
  generalize IntKind.u64.wrap n = u at h2
  have h3 := Int.tmod_lt_of_pos u (show (0 : Int) < (m : Int) by omega)
  have h4 := Int.tmod_nonneg (m : Int) h2
  refine ⟨(u.tmod m).toNat, by omega, ?_, ?_⟩
  · rw [IntWalk.i64_in _ (by omega)]
    omega
  · unfold wrap64
    omega
/-- What the closure answers. -/
def OrdPost (K : List RowB) (j : Nat) (w : World) (e : Ending) (w' : World) : Prop := ∃ h : j < K.length, e = .returned (.slice K[j].A (K[j].l.take 50).length K[j].c) ∧ Below w.heap.size w w'
theorem wrap_small (x : Int) (h0 : 0 ≤ x) (h1 : x ≤ 1000) : IntKind.i64.wrap x = x ∧ wrap64 x = x := ⟨IntWalk.i64_in _ (by omega), by unfold wrap64; omega⟩
set_option maxRecDepth 100000 in
set_option maxHeartbeats 1000000 in
theorem orderAt_any (A : Option Addr) (K : List RowB) (c : Nat) (turn : Int) (N i T bk bt bn B : Nat) (w : World)
    (ck : w.cell? ⟨bk, 0, none⟩ = some (.slice A K.length c)) (ct : w.cell? ⟨bt, 0, none⟩ = some (.int .i64 turn)) (cn : w.cell? ⟨bn, 0, none⟩ = some (.int .i64 (N : Int)))
    (hr : Rd w B A (K.map RowB.v)) (hok : ∀ r ∈ K, r.ok w B) (hN : N ≤ K.length) (hN8 : N ≤ 80) (hi : i < N) (hT : T < 80) (t1 : IntKind.i64.wrap ((IntKind.u64.wrap turn).tmod 80) = (T : Int)) (t2 : wrap64 ((IntKind.u64.wrap turn).tmod 80) = (T : Int)) :
    Calls Try.prog 13 #[.int .i64 (i : Int), .pointer (some ⟨bk, 0, none⟩), .pointer (some ⟨bt, 0, none⟩), .pointer (some ⟨bn, 0, none⟩)] w (OrdPost K ((i + T) % N) w) := by
  have hlt : (i + T) % N < K.length := Nat.lt_of_lt_of_le (Nat.mod_lt _ (by omega)) hN
  obtain ⟨j, hj⟩ : ∃ j, j = (i + T) % N := ⟨_, rfl⟩
  have hjI : ((i : Int) + (T : Int)) % (N : Int) = (j : Int) := by rw [hj]; simp
  have hjT : ((i : Int) + (T : Int)).tmod (N : Int) = (j : Int) := by rw [Int.tmod_eq_emod_of_nonneg (by omega)]; exact hjI
  suffices hs : Calls Try.prog 13 #[.int .i64 (i : Int), .pointer (some ⟨bk, 0, none⟩), .pointer (some ⟨bt, 0, none⟩), .pointer (some ⟨bn, 0, none⟩)] w (OrdPost K j w) from hj ▸ hs
  have hjl : j < K.length := by rw [hj]; exact hlt
  obtain ⟨r, hre⟩ : ∃ r, r = K[j] := ⟨_, rfl⟩
  have hro : r.ok w B := by rw [hre]; exact hok _ (List.getElem_mem hjl)
  obtain ⟨ab, ao, rfl, hab, hcell⟩ := hr.get (k := j) (by simpa using hjl)
  have hrow : w.cell? ⟨ab, ao + j, none⟩ = some (.slice r.A r.l.length r.c) := by
    have h := hcell
    simp only [List.getElem_map, ← hre] at h
    exact h
  have HRE := Lib.hid (And.intro hjl hre)
  clear hcell
  obtain ⟨rA, rl, rc⟩ := r
  have hlc : (rl.length : Int) ≤ (rc : Int) := by have h : rl.length ≤ rc := hro.2.1; omega
  have hcb : (rc : Int) ≤ 140737488351232 := by have h : rc ≤ 140737488351232 := hro.2.2; omega
  obtain ⟨m, hm⟩ : ∃ m : Nat, (if (50 : Int) < (rl.length : Int) then (50 : Int) else (rl.length : Int)) = (m : Int) := ⟨min rl.length 50, by split <;> omega⟩
  have hmI : (m : Int) ≤ (rc : Int) := by rw [← hm]; split <;> omega
  have hd4 : (rl.take 50).length = m := by rw [List.length_take]; split at hm <;> omega
  have HD := Lib.hid hd4
  have hjK : (j : Int) < (K.length : Int) := by omega
  have nz : ((N : Int) == 0) = false := beq_eq_false_iff_ne.2 (by omega)
  have nz2 : ¬ (N : Int) = 0 := by omega
  have nz3 : ¬ N = 0 := by omega
  have iI : (i : Int) ≤ 80 := by omega
  have tI : (T : Int) ≤ 80 := by omega
  have i0 : (0 : Int) ≤ (i : Int) := by omega
  have t0 : (0 : Int) ≤ (T : Int) := by omega
  have hsum : (0 : Int) ≤ (i : Int) + (T : Int) ∧ (i : Int) + (T : Int) ≤ 1000 := by constructor <;> omega
  obtain ⟨s1, s2⟩ := wrap_small _ hsum.1 hsum.2
  clear hsum
  clear hro hok hr hj hre hd4 hi hT hN hN8 hlt hab
  go_enter Try.func13, Try.ntmps13
  go_upto_region 1 with (fail)
  have hS : w.drew.cell? ⟨bk, 0, none⟩ = some (.slice (some ⟨ab, ao, none⟩) K.length c) ∧ w.drew.cell? ⟨bt, 0, none⟩ = some (.int .i64 turn) ∧ w.drew.cell? ⟨bn, 0, none⟩ = some (.int .i64 (N : Int)) ∧ w.drew.cell? ⟨ab, ao + j, none⟩ = some (.slice rA rl.length rc) := ⟨ck, ct, cn, hrow⟩
  go_region_held3 (fun W => W.cell? ⟨bk, 0, none⟩ = some (.slice (some ⟨ab, ao, none⟩) K.length c) ∧ W.cell? ⟨bt, 0, none⟩ = some (.int .i64 turn) ∧ W.cell? ⟨bn, 0, none⟩ = some (.int .i64 (N : Int)) ∧ W.cell? ⟨ab, ao + j, none⟩ = some (.slice rA rl.length rc)) (assumption) (fail)
  clear hS
  go_wp2_with (fail)
  go_ret
  refine ⟨HRE.out.1, ?_, (Below.refl _ _).drew⟩
  rw [← HRE.out.2]
  show _ = Ending.returned (.slice rA (rl.take 50).length rc)
  rw [HD.out]
  rfl
/-- The law's keys: the first ones, cut. -/
def ksO (K : List RowB) (N : Nat) : List (List UInt8) := (K.take N).map fun r => r.l.take 50
theorem ksO_len {K : List RowB} {N : Nat} (h : N ≤ K.length) : (ksO K N).length = N := by
  unfold ksO
  rw [List.length_map, List.length_take]
  omega
theorem ksO_at {K : List RowB} {N k : Nat} (h : k < (ksO K N).length) (hk : k < K.length) : (ksO K N)[k] = K[k].l.take 50 := by
  simp [ksO]
theorem atK_ksO {K : List RowB} {N T i : Nat} (hN : N ≤ K.length) (hi : i < N) (h : (i + T) % N < K.length) : atK (ksO K N) T i = K[(i + T) % N].l.take 50 := by
  have h1 : (i + T) % N < (ksO K N).length := by rw [ksO_len hN]; exact Nat.mod_lt _ (by omega)
  unfold atK
  rw [ksO_len hN, List.getD_eq_getElem?_getD, List.getElem?_eq_getElem h1]
  exact ksO_at h1 h
/-- The closure's answer, as bytes. -/
theorem ordAt (A : Option Addr) (K : List RowB) (c : Nat) (turn : Int) (N i T bk bt bn B : Nat) (w : World)
    (ck : w.cell? ⟨bk, 0, none⟩ = some (.slice A K.length c)) (ct : w.cell? ⟨bt, 0, none⟩ = some (.int .i64 turn)) (cn : w.cell? ⟨bn, 0, none⟩ = some (.int .i64 (N : Int)))
    (hr : Rd w B A (K.map RowB.v)) (hok : ∀ r ∈ K, r.ok w B) (hN : N ≤ K.length) (hN8 : N ≤ 80) (hi : i < N) (hT : T < 80) (t1 : IntKind.i64.wrap ((IntKind.u64.wrap turn).tmod 80) = (T : Int)) (t2 : wrap64 ((IntKind.u64.wrap turn).tmod 80) = (T : Int)) :
    Calls Try.prog 13 #[.int .i64 (i : Int), .pointer (some ⟨bk, 0, none⟩), .pointer (some ⟨bt, 0, none⟩), .pointer (some ⟨bn, 0, none⟩)] w fun e w' => ∃ r : Bs, e = .returned (.slice r.A r.l.length r.c) ∧ r.l = atK (ksO K N) T i ∧ Rd w B r.A (u8s r.l) ∧ r.l.length ≤ 50 ∧ Below w.heap.size w w' := by
  refine (orderAt_any A K c turn N i T bk bt bn B w ck ct cn hr hok hN hN8 hi hT t1 t2).mono ?_
  rintro e w' ⟨h, rfl, hb⟩
  refine ⟨⟨K[(i + T) % N].A, K[(i + T) % N].l.take 50, K[(i + T) % N].c⟩, rfl, (atK_ksO hN hi h).symm, ?_, by simp only [List.length_take]; omega, hb⟩
  show Rd w B _ (u8s (List.take 50 _))
  rw [u8s_take]
  exact (hok _ (List.getElem_mem h)).1.take 50
/-- A constant of five bytes, as a slice. -/
theorem conv_five (w : World) (a b c d x : Int) : (convert 27 27 (.slice (some ⟨w.heap.size, 0, none⟩) 5 5)).run Try.prog (w.alloc (.cells #[.int .u8 a, .int .u8 b, .int .u8 c, .int .u8 d, .int .u8 x] 5)) = .ok (.slice (some ⟨w.heap.size, 0, none⟩) 5 5) (w.alloc (.cells #[.int .u8 a, .int .u8 b, .int .u8 c, .int .u8 d, .int .u8 x] 5 (5, 6))) :=
  Lib.run_convert_bytes_const w 27 5 #[.int .u8 a, .int .u8 b, .int .u8 c, .int .u8 d, .int .u8 x] 5 5 Try.underlying27 Try.underlying5
/-- append to a constant of three bytes. -/
theorem append_pre (w : World) (A : Option Addr) (k : List UInt8) (c B : Nat) (hr : Rd w B A (u8s k)) (hB : B ≤ w.heap.size) (hk : k.length ≤ 1000) (n : Nat) (hn : n = k.length) :
    ∃ (r : Bs) (w' : World), (Builtin.append_ #[27, 27] 27 #[.slice (some ⟨w.heap.size, 0, none⟩) 3 3, .slice A n c]).run Try.prog (w.alloc (.cells #[.int .u8 255, .int .u8 255, .int .u8 45] 5 (3, 4))) = .ok (.slice r.A r.l.length r.c) w' ∧ r.l = preO ++ k ∧ Rd w' w'.heap.size r.A (u8s r.l) ∧ Below w.heap.size w w' := by
  subst hn
  obtain ⟨i0, hi, hz0, hz1, hz2⟩ := info_parts infoU8
  have hb : Below w.heap.size w (w.alloc (.cells #[.int .u8 255, .int .u8 255, .int .u8 45] 5 (3, 4))) := (Below.refl _ _).alloc (Nat.le_refl _) _
  have h3 := rd_three w 255 255 45 (3, 4)
  rcases Nat.eq_zero_or_pos k.length with h0 | h0
  · have e0 : k = [] := List.eq_nil_of_length_eq_zero h0
    subst e0
    refine ⟨⟨some ⟨w.heap.size, 0, none⟩, [255, 255, 45], 3⟩, _, ?_, rfl, h3.more (by simp), hb⟩
    rcases A with _ | p
    · simp [Builtin.append_, run_underlying Try.underlying27, sizeOf, typeInfo, hi, Builtin.lenOf, Builtin.firstCells, storeCells]
    · have h9 := run_append_room_cells (P := Try.prog) (w.alloc (.cells #[.int .u8 255, .int .u8 255, .int .u8 45] 5 (3, 4))) 27 27 5 i0 Try.underlying27 hi w.heap.size 0 3 3 p 0 c [] (by simp) (by simp) (by simp) (by omega) (by simp) (by simp)
      exact h9
  · obtain ⟨b, o, rfl, hlt, hc⟩ := hr (by intro e; have := congrArg List.length e; rw [u8s_len] at this; simp at this; subst this; simp at h0)
    obtain ⟨v', w', hrun, hown, hg⟩ := run_append_arg_grows (P := Try.prog) (w := w.alloc (.cells #[.int .u8 255, .int .u8 255, .int .u8 45] 5 (3, 4))) 27 27 5 i0 _ 1 1 Try.underlying27 hi hz0 hz1 hz2 rfl (by omega) ⟨w.heap.size, 0, none⟩ 3 3 (u8s [255, 255, 45]) rfl (fun j u hu => by
        obtain ⟨b', o', e, _, hc'⟩ := h3 (by simp [u8s])
        cases e
        rw [plainAdd]
        exact hc' j u hu) ⟨b, o, none⟩ k.length c (u8s k) (by rw [u8s_len]; omega) (fun j u hu => by
        rw [plainAdd]
        exact (hb.cell (p := ⟨b, o + j, none⟩) (Nat.lt_of_lt_of_le hlt hB)).trans (hc j u hu)) (by omega) (by simp only [maxLen]; omega) (by omega)
    rw [← u8s_append] at hown
    have hown' : OwnB w' (w.alloc (.cells #[.int .u8 255, .int .u8 255, .int .u8 45] 5 (3, 4))).heap.size 5 v' (preO ++ k) := by
      unfold OwnB
      rw [show (preO ++ k).length = 3 + k.length by simp [preO]; omega]
      exact hown
    obtain ⟨A', c', rfl, _, _, hrd, _⟩ := hown'.shape
    exact ⟨⟨A', preO ++ k, c'⟩, w', hrun, rfl, hrd, hb.trans (lower' (Fr.of_grown0 hg [] |>.below (Nat.le_refl _) (by simp)) hb.size)⟩
theorem wpList_appK {ops : Array Oper} {rest : List Oper} {o : Oper} {a : Act} {Q : Exit → Act → World → Prop} (w : World) (hgd : o.guard = none) (s x : Operand) (t : TypeId)
    (ho : o.op = .call { callee := .builtin .append, args := #[s, x], argTypes := #[t, t] }) (hty : o.type = t) (v y v' : Value) (w' : World) (hs : a.eval s = v) (hx : a.eval x = y)
    (hrun : (Builtin.append_ #[t, t] t #[v, y]).run Try.prog w = .ok v' w') (h : wpList Try.prog ops Q rest (a.put o.dst v') w') : wpList Try.prog ops Q (o :: rest) a w := by
  refine wpList_plain hgd fun K hK => ?_
  exact step_appK' w s x t ho hty v y v' w' hs hx hrun (hK _ _ h)
end Go.Proofs.Ytclkpoobbbnkjaa
