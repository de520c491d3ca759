/- wipe; steps of a disk in memory. -/
import Derived.Test.YtdjcpjfomgfjlaaLogI
namespace Go.Proofs.Ytdjcpjfomgfjlaa
open Go.RowKit Go.Maps

/-- Room for n steps more. -/
structure Fit (M : DM) (T n : Nat) : Prop where
  size : M.size ≤ 4096
  steps : M.steps + n ≤ 1000000000
  left : M.left ≤ 9223372036854775807
  T : T + n ≤ 1000000000
theorem Fit.ok {M : DM} {T n : Nat} (h : Fit M T n) : M.Ok T := ⟨h.size, by have := h.steps; omega, h.left, by have := h.T; omega⟩
theorem Fit.less {M : DM} {T n m : Nat} (h : Fit M T n) (hm : m ≤ n) : Fit M T m := ⟨h.size, by have := h.steps; omega, h.left, by have := h.T; omega⟩
theorem Fit.step {M : DM} {T n : Nat} (h : Fit M T (n + 1)) (o : DOp) : Fit (doneOp M o) (T + 1) n := by
  obtain ⟨h1, h2, h3, h4⟩ := doneOp_size M o
  refine ⟨by rw [h1]; exact h.size, by rw [h2]; have := h.steps; omega, ?_, by have := h.T; omega⟩
  rw [h4]
  have := h.left
  split <;> omega
theorem write_eq {M : DM} {i : Nat} {l : List UInt8} (hi : i < M.size) (hl : l.length = 64) : M.writeE (i : Int) l = (if M.dead then 30 else 0) ∧ M.writeM (i : Int) l = if M.dead then M else M.written i l := by
  have hn : ¬ (¬ (0 ≤ (i : Int) ∧ (i : Int) < (M.size : Int)) ∨ l.length ≠ 64) := by rw [hl]; omega
  unfold DM.writeE DM.writeM
  rw [if_neg hn, if_neg hn]
  exact ⟨rfl, rfl⟩
theorem writeD {w : World} {p bs bw T : Nat} {M : DM} (h : DiskM w p bs bw M T) (hk : M.Ok T) (hd : M.dead = true) {i : Nat} (hi : i < M.size) (g : Nat) (l : List UInt8) (hl : l.length = 64) (B : Nat) (hr : Rd w B (some ⟨g, 0, none⟩) (u8s l)) (hp : g ≠ p) :
    Calls Try.prog 17 #[.pointer (some ⟨p, 0, none⟩), .int .i64 (i : Int), .slice (some ⟨g, 0, none⟩) 64 64] w fun e w' => e = .returned (.int .i64 30) ∧ DiskM w' p bs bw M (T + 1) ∧ Fr w w' [p, bw] := by
  have := writeC h hk (i : Int) g l hl B hr hp
  rw [(write_eq hi hl).1, (write_eq hi hl).2, if_pos hd, if_pos hd] at this
  exact this
theorem writeL {w : World} {p bs bw T : Nat} {M : DM} (h : DiskM w p bs bw M T) (hk : M.Ok T) (hd : M.dead = false) {i : Nat} (hi : i < M.size) (g : Nat) (l : List UInt8) (hl : l.length = 64) (B : Nat) (hr : Rd w B (some ⟨g, 0, none⟩) (u8s l)) (hp : g ≠ p) :
    Calls Try.prog 17 #[.pointer (some ⟨p, 0, none⟩), .int .i64 (i : Int), .slice (some ⟨g, 0, none⟩) 64 64] w fun e w' => e = .returned (.int .i64 0) ∧ DiskM w' p bs bw (doneOp M (some (i, l))) (T + 1) ∧ Fr w w' [p, bw] := by
  have := writeC h hk (i : Int) g l hl B hr hp
  rw [(write_eq hi hl).1, (write_eq hi hl).2, if_neg (by simp [hd]), if_neg (by simp [hd])] at this
  exact this
/-- What steps leave, in memory. -/
def Ran (w w' : World) (p bs bw T : Nat) (M : DM) (ops : List DOp) (e : Ending) : Prop :=
  e = .returned (.int .i64 (runOps ops M).1) ∧ DiskM w' p bs bw (runOps ops M).2 (T + ops.length) ∧ Fr w w' [p, bs, bw]
theorem flushR {w : World} {p bs bw T : Nat} {M : DM} (h : DiskM w p bs bw M T) (hk : M.Ok T) :
    Calls Try.prog 73 #[.pointer (some ⟨p, 0, none⟩)] w fun e w' => Ran w w' p bs bw T M [none] e := by
  refine (flushM h hk).mono ?_
  rintro e w' ⟨rfl, h1, h2⟩
  have e1 : runOps [none] M = (M.flushE, M.flushM) := by
    unfold runOps DM.flushE DM.flushM
    cases hd : M.dead with
    | true => rfl
    | false => rfl
  refine ⟨by rw [e1], by rw [e1]; exact h1.mono (Nat.le_add_right _ _), h2⟩
theorem Ran.step {w w0 w' : World} {p bs bw T : Nat} {M : DM} {o : DOp} {ops : List DOp} {e : Ending} (hf : Fr w w0 [p, bs, bw]) (hd : M.dead = false) (h : Ran w0 w' p bs bw (T + 1) (doneOp M o) ops e) : Ran w w' p bs bw T M (o :: ops) e := by
  have e1 : runOps (o :: ops) M = runOps ops (doneOp M o) := by simp only [runOps]; rw [if_neg (by simp [hd])]
  exact ⟨by rw [e1]; exact h.1, by rw [e1]; have := h.2.1; rw [List.length_cons]; rw [show T + 1 + ops.length = T + (ops.length + 1) by omega] at this; exact this, hf.trans h.2.2⟩
theorem Ran.dead {w w' : World} {p bs bw T T' : Nat} {M : DM} {o : DOp} {ops : List DOp} {e : Ending} (hd : M.dead = true) (he : e = .returned (.int .i64 30)) (hD : DiskM w' p bs bw M T') (hT : T' ≤ T + 1) (hf : Fr w w' [p, bs, bw]) : Ran w w' p bs bw T M (o :: ops) e := by
  have e1 : runOps (o :: ops) M = (30, M) := by simp only [runOps]; rw [if_pos hd]
  exact ⟨by rw [e1]; exact he, by rw [e1]; exact hD.mono (by rw [List.length_cons]; omega), hf⟩

theorem make64D (w : World) : (Instr.makeSlice 45 (.int .i64 64) (.int .i64 64)).run Try.prog w = .ok (.slice (some ⟨w.heap.size, 0, none⟩) 64 64) (w.alloc (.cells (u8s zero64).toArray 5)) := make64 w
set_option maxRecDepth 100000 in
set_option maxHeartbeats 4000000 in
theorem wipe_any {w : World} {base q p bs bw T : Nat} {L : LG} {v : Value} {M : DM} (h : LogAt w base q p L v) (hD : DiskM w p bs bw M T) (A : Option Addr) (S : List Nat) (c B : Nat) (hr : Rd w B A (ints S)) (hB : ∀ a, A = some a → a.block ≠ p ∧ a.block ≠ bs ∧ a.block ≠ bw) (hq : q ≠ p ∧ q ≠ bs ∧ q ≠ bw) (hS : ∀ i ∈ S, i < M.size) (hl : S.length ≤ 4096) (hfit : Fit M T (S.length + 1)) :
    Calls Try.prog 41 #[.pointer (some ⟨q, 0, none⟩), .slice A S.length c] w fun e w' => Ran w w' p bs bw T M (wipeOps S) e := by
  have hblk := h.blk
  unfold LG.cells at hblk
  have HH := Lib.hid (And.intro hblk (And.intro hq (And.intro hS (And.intro hl hfit))))
  have HR := Lib.hid (And.intro hr hB)
  have HD := Lib.hid (And.intro hD hD.lt)
  have hlI : (S.length : Int) ≤ 4096 := by omega
  have hqs := (Array.getElem?_eq_some_iff.1 hblk).1
  have HQ := Lib.hid hqs
  clear h hblk hq hS hl hfit hr hB hD hqs
  go_enter Try.func41, Try.ntmps41
  go_wp2_with go_in
  go_loopw [6, 7, 10] (fun _ _ i wr => ∃ (k : Nat) (M' : DM), k ≤ S.length ∧ i = .int .i64 (k : Int) ∧ DiskM wr p bs bw M' (T + k) ∧ Fr w wr [p, bs, bw] ∧ M'.size = M.size ∧ Fit M' (T + k) (S.length - k + 1) ∧ ∀ w' e, Ran wr w' p bs bw (T + k) M' (zeroOps (S.drop k) ++ [none]) e → Ran w w' p bs bw T M (wipeOps S) e)
    (fun _ _ i _ => S.length - (intOf i).toNat)
  case atStart => exact ⟨0, M, by omega, rfl, HD.out.1, Fr.refl _ _, rfl, by simpa using HH.out.2.2.2.2, fun w' e h => by simpa [wipeOps] using h⟩
  case round =>
    obtain ⟨k, M', hk, rfl, hD, hf, hs, hfit, hran⟩ := hrel
    have hblk := (hf.block q HQ.out (by have := HH.out.2.1; simp; omega)).trans HH.out.1
    have a0 := cell_of_row wr q 0 _ _ _ hblk
    by_cases hkl : k < S.length
    · have hkI : (k : Int) < (S.length : Int) := by omega
      obtain ⟨x, hx⟩ : ∃ x, x = S[k] := ⟨_, rfl⟩
      have hxs : x < M'.size := by rw [hs, hx]; exact HH.out.2.2.1 _ (List.getElem_mem hkl)
      have hdrop : S.drop k = x :: S.drop (k + 1) := by rw [hx]; exact List.drop_eq_getElem_cons hkl
      obtain ⟨ab, ao, rfl, hab, hcc⟩ := HR.out.1 (by intro e; have := ints_len S; rw [e] at this; simp at this; omega)
      have hAB := HR.out.2 _ rfl
      have p0 : wr.cell? ⟨ab, ao + k, none⟩ = some (.int .i64 (x : Int)) := by
        have hc := hcc k _ (by rw [List.getElem?_eq_getElem (by rw [ints_len]; exact hkl), ints_get S k hkl])
        have hbl : ab < w.heap.size := World.block_lt_of_cell? w _ hc
        rw [hx]
        exact (World.cell?_of_block (hf.block ab hbl (by simp; exact hAB))).trans hc
      rw [hdrop] at hran
      have HX := Lib.hid (And.intro hD (And.intro hf (And.intro hs (And.intro hfit (And.intro hkl hran)))))
      have hlt := hD.lt
      have HLT := Lib.hid hlt
      have hw1 := writeL (w := (wr.alloc (.cells (u8s zero64).toArray 5)).drew) (hD.alloc (.cells (u8s zero64).toArray 5)) hfit.ok
      have hw2 := writeD (w := (wr.alloc (.cells (u8s zero64).toArray 5)).drew) (hD.alloc (.cells (u8s zero64).toArray 5)) hfit.ok
      have hne : wr.heap.size ≠ p := by omega
      have hb1 : Fr wr (wr.alloc (.cells (u8s zero64).toArray 5)).drew [p, bs, bw] := ((Fr.refl _ _).alloc _).drew
      have HMK := Lib.hid (fun W => make64 W)
      cases hd : M'.dead with
      | true =>
        have hcall := hw2 hd hxs wr.heap.size zero64 zero64_len _ (rd_zero wr).drew hne
        have HC := Lib.hid hcall
        have HDD := Lib.hid (And.intro hd hb1)
        have hmk := HMK.out wr.drew
        have c0 : (wr.alloc (.cells (u8s zero64).toArray 5)).cell? ⟨q, 0, none⟩ = some (.pointer (some ⟨p, 0, none⟩)) := cell_of_row (wr.alloc _) q 0 _ _ _ ((Below.heap_alloc _ _ _ (by have := HQ.out; have := hf.size; omega)).trans hblk)
        clear hw1 hw2 hd hcall hb1 hD hf hs hfit hran hdrop hx hcc hxs hblk hkl hlt hne hAB
        go_upto_region 4 with go_in
        go_region_with (first
          | (go_at_call 17; (with_reducible refine HC.out.mono ?_); rintro e w2 ⟨rfl, hD2, hF2⟩))
        all_goals
          have hfin : Fr wr w2 [p, bs, bw] := HDD.out.2.trans (hF2.mono (by simp))
          have HF := Lib.hid (And.intro hD2 hfin)
          clear hD2 hF2 hfin
          go_wp2_with go_in
          go_ret
          exact HX.out.2.2.2.2.2 _ _ (Ran.dead (o := some (x, zero64)) HDD.out.1 rfl HF.out.1 (Nat.le_refl _) HF.out.2)
      | false =>
        have hcall := hw1 hd hxs wr.heap.size zero64 zero64_len _ (rd_zero wr).drew hne
        have HC := Lib.hid hcall
        have HDD := Lib.hid (And.intro hd hb1)
        have hmk := HMK.out wr.drew
        have c0 : (wr.alloc (.cells (u8s zero64).toArray 5)).cell? ⟨q, 0, none⟩ = some (.pointer (some ⟨p, 0, none⟩)) := cell_of_row (wr.alloc _) q 0 _ _ _ ((Below.heap_alloc _ _ _ (by have := HQ.out; have := hf.size; omega)).trans hblk)
        clear hw1 hw2 hd hcall hb1 hD hf hs hfit hran hdrop hx hcc hxs hblk hkl hlt hne hAB
        go_upto_region 4 with go_in
        go_region_with (first
          | (go_at_call 17; (with_reducible refine HC.out.mono ?_); rintro e w2 ⟨rfl, hD2, hF2⟩))
        all_goals
          have hfin : Fr wr w2 [p, bs, bw] := HDD.out.2.trans (hF2.mono (by simp))
          have HF := Lib.hid (And.intro hD2 hfin)
          clear hD2 hF2 hfin
          go_wp2_with go_in
          have hx := HX.out
          refine ⟨⟨k + 1, doneOp M' (some (x, zero64)), hx.2.2.2.2.1, by simp, ?_, hx.2.1.trans HF.out.2, (doneOp_size _ _).1.trans hx.2.2.1, ?_, fun w' e h => hx.2.2.2.2.2 w' e (Ran.step (o := some (x, zero64)) HF.out.2 HDD.out.1 ?_)⟩, by simp [intOf]; have := hx.2.2.2.2.1; omega⟩
          · exact HF.out.1
          · have h2 := hx.2.2.2.1
            rw [show S.length - k + 1 = (S.length - (k + 1) + 1) + 1 by have := hx.2.2.2.2.1; omega] at h2
            exact h2.step _
          · exact h
    · obtain rfl : k = S.length := by omega
      have hfl := flushR hD hfit.ok
      rw [List.drop_length] at hran
      have HX := Lib.hid (And.intro hf hran)
      have HC := Lib.hid hfl
      clear hfl hD hf hs hfit hran hblk hkl
      go_wp2_with (first
        | (go_at_call 73; (with_reducible refine HC.out.mono ?_); rintro e w2 ⟨rfl, hD2, hF2⟩; have HF := Lib.hid (And.intro hD2 hF2); clear hD2 hF2)
        | go_in)
      go_ret
      exact HX.out.2 _ _ ⟨rfl, HF.out.1, HF.out.2⟩
end Go.Proofs.Ytdjcpjfomgfjlaa
