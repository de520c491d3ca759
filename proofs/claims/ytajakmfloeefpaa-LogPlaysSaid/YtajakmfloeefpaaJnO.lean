/- Joined: LogAN LogAO LogPZ LogPY. -/
import Derived.Test.YtajakmfloeefpaaJnH
import Derived.Deep.RegionLaw
import Derived.Test.YtajakmfloeefpaaJnN
import Derived.Test.YtajakmfloeefpaaJnM
import Derived.Test.YtajakmfloeefpaaJnI
/- The program's Append again: where its places lie, too. -/
namespace Go.Proofs.Ytajakmfloeefpaa
open Go.RowKit Go.Maps

theorem add_finN {w W1 wa X2 : World} {base q p ga ca cp : Nat} {Ap : Option Addr} {L : LG} {s : Nat} {d : List UInt8} {o : Obj}
    (h : LogAt w base q p L (.slice Ap L.recs.length cp)) (hW1 : Below w.heap.size w W1) (hz : W1.heap.size = w.heap.size + 1)
    (hown : wa.ownsRow base 106 2 (.slice (some ⟨ga, 0, none⟩) (L.recs.length + 1) ca) (L.recs.length + 1) (plc L.first L.recs ++ [.int .i64 (L.endd : Int), .int .i64 (secs d.length : Int)]))
    (hga : ((W1.alloc o).drew).grownBy wa (Value.slice Ap L.recs.length cp).ownBlock)
    (hq : X2.heap[q]? = some (.cells #[.pointer (some ⟨p, 0, none⟩), .int .i64 (L.first : Int), .int .i64 (L.behind : Int), .int .i64 (L.endd : Int), .int .i64 (L.next : Int), .slice (some ⟨ga, 0, none⟩) (L.recs.length + 1) ca] 68 (0, 0)))
    (hf : Fr wa X2 [q]) (h1 : 1 ≤ s) (hs : s ≤ 4611686018427387904) (hfit : L.endd + 1 + secs d.length ≤ L.behind) (hbase : base ≤ w.heap.size) (haa : (Value.slice (some ⟨ga, 0, none⟩) (L.recs.length + 1) ca).ownBlock = (Value.slice Ap L.recs.length cp).ownBlock ∨ (Value.slice (some ⟨ga, 0, none⟩) (L.recs.length + 1) ca).ownBlock = some ((W1.alloc o).drew).heap.size) :
    Ending.returned (.tuple #[]) = .returned (.tuple #[]) ∧ ∃ v', LogAt ((X2.setCell ⟨q, 3, none⟩ (.int .i64 ((L.endd : Int) + (1 + (secs d.length : Int))))).setCell ⟨q, 4, none⟩ (.int .i64 ((s : Int) + 1))).drew base q p (L.add s d) v' ∧
      Fr w ((X2.setCell ⟨q, 3, none⟩ (.int .i64 ((L.endd : Int) + (1 + (secs d.length : Int))))).setCell ⟨q, 4, none⟩ (.int .i64 ((s : Int) + 1))).drew (q :: (Value.slice Ap L.recs.length cp).ownBlock.toList) ∧
      base ≤ ((X2.setCell ⟨q, 3, none⟩ (.int .i64 ((L.endd : Int) + (1 + (secs d.length : Int))))).setCell ⟨q, 4, none⟩ (.int .i64 ((s : Int) + 1))).drew.heap.size ∧ ∀ z ∈ v'.ownBlock.toList, z ∈ (Value.slice Ap L.recs.length cp).ownBlock.toList ∨ w.heap.size ≤ z := by
  have hfF : Fr X2 ((X2.setCell ⟨q, 3, none⟩ (.int .i64 ((L.endd : Int) + (1 + (secs d.length : Int))))).setCell ⟨q, 4, none⟩ (.int .i64 ((s : Int) + 1))).drew [q] := (((Fr.refl _ _).setCell (by simp) _).setCell (by simp) _).drew
  have hq2 : ((X2.setCell ⟨q, 3, none⟩ (.int .i64 ((L.endd : Int) + (1 + (secs d.length : Int))))).setCell ⟨q, 4, none⟩ (.int .i64 ((s : Int) + 1))).drew.heap[q]? = some (.cells #[.pointer (some ⟨p, 0, none⟩), .int .i64 (L.first : Int), .int .i64 (L.behind : Int), .int .i64 ((L.endd : Int) + (1 + (secs d.length : Int))), .int .i64 ((s : Int) + 1), .slice (some ⟨ga, 0, none⟩) (L.recs.length + 1) ca] 68 (0, 0)) := by
    have h3 := heap_setCell_same X2 q 3 _ _ (.int .i64 ((L.endd : Int) + (1 + (secs d.length : Int)))) hq
    have h4 := heap_setCell_same _ q 4 _ _ (.int .i64 ((s : Int) + 1)) h3
    show ((X2.setCell ⟨q, 3, none⟩ (.int .i64 ((L.endd : Int) + (1 + (secs d.length : Int))))).setCell ⟨q, 4, none⟩ (.int .i64 ((s : Int) + 1))).heap[q]? = _
    simpa using h4
  generalize ((X2.setCell ⟨q, 3, none⟩ (.int .i64 ((L.endd : Int) + (1 + (secs d.length : Int))))).setCell ⟨q, 4, none⟩ (.int .i64 ((s : Int) + 1))).drew = F at hfF hq2 ⊢
  have hall : Fr w F (q :: (Value.slice Ap L.recs.length cp).ownBlock.toList) := by
    have a1 : Fr w W1 (q :: (Value.slice Ap L.recs.length cp).ownBlock.toList) := Fr.of_below hW1 _
    have a2 : Fr W1 (W1.alloc o).drew (q :: (Value.slice Ap L.recs.length cp).ownBlock.toList) := ((Fr.refl _ _).alloc _).drew
    have a3 : Fr ((W1.alloc o).drew) wa (q :: (Value.slice Ap L.recs.length cp).ownBlock.toList) := (fr_grown hga).mono (fun x hx => List.mem_cons_of_mem _ hx)
    exact (((a1.trans a2).trans a3).trans (hf.mono (by simp))).trans (hfF.mono (by simp))
  refine ⟨rfl, .slice (some ⟨ga, 0, none⟩) (L.recs.length + 1) ca, ⟨?_, ?_, h.lt, ?_⟩, hall, Nat.le_trans hbase hall.size, fun z hzz => by
    rcases haa with e | e
    · rw [e] at hzz; exact .inl hzz
    · rw [e] at hzz
      have h2 : z = (W1.alloc o).heap.size := by simpa using hzz
      rw [alloc1_size] at h2
      exact .inr (by omega)⟩
  · rw [hq2]
    unfold LG.cells
    rw [L.add_endd s d]
    have e1 : (((L.endd + 1 + secs d.length : Nat)) : Int) = (L.endd : Int) + (1 + (secs d.length : Int)) := by omega
    rw [e1]
    rfl
  · have hpl : plc (L.add s d).first (L.add s d).recs = _ := plc_add L s d
    rw [hpl]
    have hl : (L.add s d).recs.length = L.recs.length + 1 := by simp [LG.add]
    rw [hl]
    exact rowFr (rowFr hown hf (by simp; exact h.lt)) hfF (by simp; exact h.lt)
  · exact ⟨h.ok.first, h.ok.behind, by rw [L.add_endd]; exact hfit, by show 1 ≤ s + 1; omega, by show s + 1 ≤ _; omega⟩
set_option maxRecDepth 100000 in
set_option maxHeartbeats 4000000 in
theorem add_anyN {w : World} {base q p : Nat} {L : LG} {v : Value} (h : LogAt w base q p L v) (hbase : base ≤ w.heap.size) (s : Nat) (d : List UInt8) (h1 : 1 ≤ s) (hs : s ≤ 4611686018427387904) (hd : d.length ≤ 4000) (hfit : L.endd + 1 + secs d.length ≤ L.behind) :
    Calls Try.prog 36 #[.pointer (some ⟨q, 0, none⟩), .int .i64 (s : Int), .int .i64 (d.length : Int)] w fun e w' => e = .returned (.tuple #[]) ∧ ∃ v', LogAt w' base q p (L.add s d) v' ∧ Fr w w' (q :: v.ownBlock.toList) ∧ base ≤ w'.heap.size ∧ ∀ z ∈ v'.ownBlock.toList, z ∈ v.ownBlock.toList ∨ w.heap.size ≤ z := by
  obtain ⟨i0, hi, hz0, hz1', hz2⟩ := info_parts infoPlace
  have hblk := h.blk
  unfold LG.cells at hblk
  have hsec := fun W => secs_any d.length W (by omega)
  have hbe := h.ok.behind
  have hr := h.row
  have hqb := h.lt
  have hrl : L.recs.length ≤ 4096 := by have := endR_le L.first L.recs; have := h.ok.endd; unfold LG.endd at this; omega
  have HS := Lib.hid hsec
  have HH := Lib.hid (And.intro h (And.intro hblk (And.intro hr (And.intro hqb (And.intro hbase hrl)))))
  have HA := Lib.hid (And.intro h1 (And.intro hs (And.intro hd (And.intro hfit hbe))))
  have hqs := h.size
  have HQ := Lib.hid hqs
  have b3 := cell_of_row w q 3 _ _ _ hblk
  have hKS : ∀ w' : World, Below w.heap.size w w' → w'.cell? ⟨q, 3, none⟩ = some (.int .i64 (L.endd : Int)) := fun w' hb => cell_of_row w' q 3 _ _ _ ((hb.block q hqs).trans hblk)
  have KS := Lib.hid hKS
  have hsI : (s : Int) ≤ 4611686018427387904 := by omega
  clear h hblk hsec hr hqb hbase hrl hbe hfit hs h1 hd hqs hKS
  go_enter Try.func36, Try.ntmps36
  go_upto_region 0 with go_in
  go_region_held3 (fun w' => w'.cell? ⟨q, 3, none⟩ = some (.int .i64 (L.endd : Int)))
    (first
      | assumption
      | (refine KS.out _ ?_; repeat (first | exact Below.refl _ _ | refine Below.drew ?_ | refine Below.alloc ?_ (Nat.le_refl _) _ | refine Below.setCell ?_ (Nat.le_refl _) _)))
    ((go_at_call 54; (with_reducible refine (HS.out _).mono ?_); rintro e w1 ⟨rfl, rfl⟩))
  all_goals
    have hW1 : Below w.heap.size w (w.alloc (.cells #[.int .i64 (L.endd : Int), .int .i64 (secs d.length : Int)] 106)).drew := ((Below.refl _ _).alloc (Nat.le_refl _) _).drew
    have hg6 : (w.alloc (.cells #[.int .i64 (L.endd : Int), .int .i64 (secs d.length : Int)] 106)).drew.heap[w.heap.size]? = some (.cells #[.int .i64 (L.endd : Int), .int .i64 (secs d.length : Int)] 106 (0, 0)) := heap_alloc_new w _
    have hz1 : (w.alloc (.cells #[.int .i64 (L.endd : Int), .int .i64 (secs d.length : Int)] 106)).drew.heap.size = w.heap.size + 1 := alloc1_size w _
    have hrow : (w.alloc (.cells #[.int .i64 (L.endd : Int), .int .i64 (secs d.length : Int)] 106)).drew.ownsRow base 106 2 v L.recs.length (plc L.first L.recs) := World.ownsRow.alloc HH.out.2.2.1 _
    obtain ⟨b6, hb6⟩ : ∃ b6, b6 = w.heap.size := ⟨_, rfl⟩
    rw [← hb6] at hg6 ⊢
    generalize (w.alloc (.cells #[.int .i64 (L.endd : Int), .int .i64 (secs d.length : Int)] 106)).drew = W1 at hW1 hg6 hz1 hrow ⊢
    have HB6 := Lib.hid hb6
    have hblk1 := (hW1.block q HQ.out).trans HH.out.2.1
    obtain ⟨Ap, cp, rfl, _, _, _⟩ := own_shape hrow
    have hOa : ((W1.alloc (.cells #[.int .i64 (L.endd : Int), .int .i64 (secs d.length : Int)] 106)).drew).ownsRow base 106 2 (.slice Ap L.recs.length cp) L.recs.length (plc L.first L.recs) := World.ownsRow.alloc hrow _
    have hRN : Rd ((W1.alloc (.cells #[.int .i64 (L.endd : Int), .int .i64 (secs d.length : Int)] 106)).drew) (W1.heap.size + 1) (some ⟨W1.heap.size, 0, none⟩) [.int .i64 (L.endd : Int), .int .i64 (secs d.length : Int)] := (Rd.new W1 #[.int .i64 (L.endd : Int), .int .i64 (secs d.length : Int)] 106 (0, 0)).drew
    obtain ⟨va, wa, hruna, howna, hga, haa⟩ := run_appR (P := Try.prog) ((W1.alloc (.cells #[.int .i64 (L.endd : Int), .int .i64 (secs d.length : Int)] 106)).drew) base 66 66 106 i0 _ 2 16 Try.underlying66 hi hz0 hz1' hz2 rfl (by omega) (.slice Ap L.recs.length cp) L.recs.length (plc L.first L.recs) hOa (W1.heap.size + 1) (some ⟨W1.heap.size, 0, none⟩) 1 1 [.int .i64 (L.endd : Int), .int .i64 (secs d.length : Int)] rfl hRN (by simp [Value.oneCell']) (by have := HH.out.2.2.2.2.2; omega) (by omega) (by have := HH.out.2.2.2.2.1; have := hW1.size; show base ≤ (W1.alloc _).heap.size; simp; omega)
    obtain ⟨ga, ca, rfl, _, _, _, _⟩ := own_form howna (by omega)
    have hqW : q < W1.heap.size := by have := HQ.out; omega
    have hblka : wa.heap[q]? = some (.cells #[.pointer (some ⟨p, 0, none⟩), .int .i64 (L.first : Int), .int .i64 (L.behind : Int), .int .i64 (L.endd : Int), .int .i64 (L.next : Int), .slice Ap L.recs.length cp] 68 (0, 0)) :=
      (hga.block q (by show q < (W1.alloc _).heap.size; simp; omega) (fun e => by have := (World.ownsRow.lt hrow q e.symm).1; have := HH.out.2.2.2.1; omega)).trans ((Below.heap_alloc W1 _ _ hqW).trans hblk1)
    have hg6a : wa.heap[b6]? = some (.cells #[.int .i64 (L.endd : Int), .int .i64 (secs d.length : Int)] 106 (0, 0)) :=
      (hga.block b6 (by have := heap_lt hg6; show b6 < (W1.alloc _).heap.size; simp; omega) (fun e => by have h1 := (World.ownsRow.lt HH.out.2.2.1 b6 e.symm).2; have := HB6.out; omega)).trans ((Below.heap_alloc W1 _ _ (heap_lt hg6)).trans hg6)
    have k5 : W1.cell? ⟨q, 5, none⟩ = some (.slice Ap L.recs.length cp) := cell_of_row W1 q 5 _ _ _ hblk1
    have m0 : W1.cell? ⟨b6, 0, none⟩ = some (.int .i64 (L.endd : Int)) := cell_of_row W1 b6 0 _ _ _ hg6
    have m1 : W1.cell? ⟨b6, 1, none⟩ = some (.int .i64 (secs d.length : Int)) := cell_of_row W1 b6 1 _ _ _ hg6
    have k5' : (W1.alloc (.cells #[.int .i64 (L.endd : Int), .int .i64 (secs d.length : Int)] 106)).cell? ⟨q, 5, none⟩ = some (.slice Ap L.recs.length cp) := cell_of_row (W1.alloc _) q 5 _ _ _ ((Below.heap_alloc W1 _ _ hqW).trans hblk1)
    have e5 : wa.cell? ⟨q, 5, none⟩ = some (.slice Ap L.recs.length cp) := cell_of_row wa q 5 _ _ _ hblka
    have f5 := frozen_of_row wa q 5 _ _ hblka
    have HWA := Lib.hid (And.intro howna (And.intro hga (And.intro haa (And.intro hblka (And.intro hg6a (And.intro hrow (And.intro hW1 hz1)))))))
    clear howna hga haa hblka hg6a hOa hRN hrow hW1 hg6 hblk1 hz1 hb6 hqW b3
    go_upto_region 1 with go_in
    go_region_law (first
      | (refine step_appK _ (by rfl) (.tmp 18) (.tmp 20) 66 rfl rfl _ _ _ _ rfl rfl hruna ?_))
    all_goals
      have hx := HWA.out
      have hq2 : (wa.setCell ⟨q, 5, none⟩ (.slice (some ⟨ga, 0, none⟩) (L.recs.length + 1) ca)).heap[q]? = some (.cells #[.pointer (some ⟨p, 0, none⟩), .int .i64 (L.first : Int), .int .i64 (L.behind : Int), .int .i64 (L.endd : Int), .int .i64 (L.next : Int), .slice (some ⟨ga, 0, none⟩) (L.recs.length + 1) ca] 68 (0, 0)) := by
        have := heap_setCell_same wa q 5 _ _ (.slice (some ⟨ga, 0, none⟩) (L.recs.length + 1) ca) hx.2.2.2.1
        simpa using this
      have hf2 : Fr wa (wa.setCell ⟨q, 5, none⟩ (.slice (some ⟨ga, 0, none⟩) (L.recs.length + 1) ca)) [q] := (Fr.refl _ _).setCell (by simp) _
      have hne : b6 ≠ q := by have := HB6.out; have := HQ.out; omega
      have hg62 := (hf2.block b6 (heap_lt hx.2.2.2.2.1) (by simpa using hne)).trans hx.2.2.2.2.1
      generalize wa.setCell ⟨q, 5, none⟩ (.slice (some ⟨ga, 0, none⟩) (L.recs.length + 1) ca) = X2 at hq2 hf2 hg62 ⊢
      have n3 := cell_of_row X2 q 3 _ _ _ hq2
      have nf3 := frozen_of_row X2 q 3 _ _ hq2
      have n4 := cell_of_row X2 q 4 _ _ _ hq2
      have nf4 := frozen_of_row X2 q 4 _ _ hq2
      have l1 : X2.cell? ⟨b6, 1, none⟩ = some (.int .i64 (secs d.length : Int)) := cell_of_row X2 b6 1 _ _ _ hg62
      have hsum : (secs d.length : Int) ≤ 63 := by have := HA.out.2.2.1; unfold secs; omega
      have hend : (L.endd : Int) ≤ 4096 := by have := HA.out.2.2.2.1; have := HA.out.2.2.2.2; omega
      have s1 : IntKind.i64.wrap (1 + (secs d.length : Int)) = 1 + (secs d.length : Int) := IntWalk.i64_in _ (by omega)
      have s2 : IntKind.i64.wrap ((L.endd : Int) + (1 + (secs d.length : Int))) = (L.endd : Int) + (1 + (secs d.length : Int)) := IntWalk.i64_in _ (by omega)
      have HY := Lib.hid (And.intro hq2 (And.intro hf2 hne))
      clear hx hq2 hf2 hne hg62 k5 m0 m1 k5' e5 f5 hruna
      go_upto_region 2 with go_in
      go_region
      all_goals
        go_wp2_with go_in
        go_end0
        exact add_finN (q := q) HH.out.1 HWA.out.2.2.2.2.2.2.1 HWA.out.2.2.2.2.2.2.2 HWA.out.1 HWA.out.2.1 HY.out.1 HY.out.2.1 HA.out.1 HA.out.2.1 HA.out.2.2.2.1 HH.out.2.2.2.2.1 HWA.out.2.2.1
/-- What a call on a log leaves, and where its places lie. -/
def LoggedN (w w' : World) (base q p bs bw T : Nat) (v : Value) (M' : DM) (L' : LG) : Prop :=
  ∃ v', LogD w' base q p bs bw T L' v' M' ∧ Fr w w' ([p, bs, bw, q] ++ v.ownBlock.toList) ∧ ∀ z ∈ v'.ownBlock.toList, z ∈ v.ownBlock.toList ∨ w.heap.size ≤ z
set_option maxRecDepth 100000 in
set_option maxHeartbeats 2000000 in
theorem append_anyN {w : World} {base q p bs bw T : Nat} {L : LG} {v : Value} {M : DM} (h : LogD w base q p bs bw T L v M) (A : Option Addr) (d : List UInt8) (c B : Nat) (hr : Rd w B A (u8s d)) (hBs : B ≤ w.heap.size) (hB : d ≠ [] → ∀ a, A = some a → a.block ≠ p ∧ a.block ≠ bs ∧ a.block ≠ bw) (hc : d.length ≤ c) (hcm : c ≤ 9223372036854775807) (hfit : Fit M T 70) :
    Calls Try.prog 9 #[.pointer (some ⟨q, 0, none⟩), .slice A d.length c] w fun e w' => e = .returned (.int .i64 (appR L M d).1) ∧ LoggedN w w' base q p bs bw (T + 70) v (appR L M d).2.1 (appR L M d).2.2 := by
  have hroom := room_any h.log
  have hsame : ∀ w', Below w.heap.size w w' → LoggedN w w' base q p bs bw (T + 70) v M L := fun w' hb =>
    ⟨v, ⟨h.log.kept hb, (h.disk.kept hb).mono (by omega), h.ap, Nat.le_trans h.low hb.size, h.fits, h.size⟩, Fr.of_below hb _, fun z hz => .inl hz⟩
  have hdl : (d.length : Int) ≤ 9223372036854775807 := by omega
  have HSM := Lib.hid hsame
  have HRM := Lib.hid hroom
  have HH := Lib.hid (And.intro h (And.intro hr (And.intro hB (And.intro hc (And.intro hcm hfit)))))
  have HBS := Lib.hid hBs
  clear h hr hBs hB hc hcm hfit hroom hsame
  by_cases h1 : 4000 < d.length
  · have e : appR L M d = (3, M, L) := if_pos h1
    rw [e]
    have h1I : (4000 : Int) < (d.length : Int) := by omega
    clear e h1
    go_enter Try.func9, Try.ntmps9
    go_wp2_with go_in
    go_ret
    exact ⟨rfl, HSM.out w (Below.refl _ _)⟩
  · have h1I : (d.length : Int) ≤ 4000 := by omega
    by_cases h2 : L.room < (d.length : Int)
    · have e : appR L M d = (5, M, L) := by unfold appR; rw [if_neg h1, if_pos h2]
      rw [e]
      have h2' : L.room < (d.length : Int) := h2
      clear e h1
      go_enter Try.func9, Try.ntmps9
      go_wp2_with (first
        | (go_at_call 23; (with_reducible refine HRM.out.mono ?_); rintro e w2 ⟨rfl, hb2⟩; have HB2 := Lib.hid hb2; clear hb2)
        | go_in)
      go_ret
      exact ⟨rfl, HSM.out _ HB2.out⟩
    · obtain ⟨f1, f2⟩ := room_fits HH.out.1.log.ok h2
      have hwr := fun (w2 : World) (hb : Below w.heap.size w w2) => write_rec (HH.out.1.log.kept hb) (HH.out.1.disk.kept hb) A d c B (HH.out.2.1.below hb HBS.out) HH.out.2.2.1 HH.out.2.2.2.1 HH.out.2.2.2.2.1 ⟨HH.out.1.ap.qp, HH.out.1.ap.qs, HH.out.1.ap.qw⟩ (by omega) (by have := HH.out.1.fits; omega) f2 (HH.out.2.2.2.2.2.less (by unfold secs; omega))
      have hlenR : T + (appOps L.first L.recs L.next d).length ≤ T + 70 := by rw [appOps_len]; unfold secs; omega
      have h2' : (d.length : Int) ≤ L.room := by omega
      obtain ⟨_, _, _, hcode⟩ := runOps_facts (appOps L.first L.recs L.next d) M
      have hszR := (runOps_facts (appOps L.first L.recs L.next d) M).1
      have hlog : ∀ w2 w3 : World, Below w.heap.size w w2 → Fr w2 w3 [p, bs, bw] → DiskM w3 p bs bw (runOps (appOps L.first L.recs L.next d) M).2 (T + (appOps L.first L.recs L.next d).length) → LogD w3 base q p bs bw (T + 70) L v (runOps (appOps L.first L.recs L.next d) M).2 ∧ Fr w w3 ([p, bs, bw, q] ++ v.ownBlock.toList) := fun w2 w3 hb hf hD =>
        ⟨⟨HH.out.1.ap.fr (HH.out.1.log.kept hb) hf, hD.mono hlenR, HH.out.1.ap, Nat.le_trans HH.out.1.low (Nat.le_trans hb.size hf.size), by rw [hszR]; exact HH.out.1.fits, by rw [hszR]; exact HH.out.1.size⟩, (Fr.of_below hb _).trans (hf.mono (by simp))⟩
      have HLG := Lib.hid hlog
      have hpos := HH.out.1.log.ok.pos
      rcases hcode with hcode | hcode
      · have e : appR L M d = (0, (runOps (appOps L.first L.recs L.next d) M).2, L.add L.next d) := by unfold appR; rw [if_neg h1, if_neg h2, if_pos hcode]
        rw [e]
        unfold Ran at hwr
        rw [hcode] at hwr
        have HW := Lib.hid hwr
        have HF := Lib.hid (And.intro f1 (And.intro f2 (And.intro hpos h1)))
        clear hwr hlenR hlog hcode e f1 f2 hszR h1 h2 hpos
        go_enter Try.func9, Try.ntmps9
        go_upto_region 8 with (first
          | (go_at_call 23; (with_reducible refine HRM.out.mono ?_); rintro e w2 ⟨rfl, hb2⟩)
          | (go_at_call 35; (with_reducible refine (HW.out w2 hb2).mono ?_); rintro e w3 ⟨rfl, hD3, hF3⟩)
          | go_in)
        have hL3 := HLG.out w2 w3 hb2 hF3 hD3
        have hblk := hL3.1.log.blk
        unfold LG.cells at hblk
        have c4 : w3.cell? ⟨q, 4, none⟩ = some (.int .i64 (L.next : Int)) := cell_of_row w3 q 4 _ _ _ hblk
        have hadd := add_anyN hL3.1.log hL3.1.low L.next d HF.out.2.2.1 HF.out.2.1 (by have := HF.out.2.2.2; omega) (by have := HF.out.1; omega)
        have HA := Lib.hid hadd
        have HL3 := Lib.hid hL3
        clear hb2 hF3 hD3 hL3 hblk hadd
        go_wp2_with (first
          | (go_at_call 36; (with_reducible refine HA.out.mono ?_); rintro e w4 ⟨rfl, v', hl4, hf4, hb4⟩; have HL4 := Lib.hid (And.intro hl4 (And.intro hf4 hb4)); clear hl4 hf4 hb4)
          | go_in)
        go_ret
        have hap := HL3.out.1.ap
        have hns : ∀ z, z < base → z ≠ q → z ∉ q :: v.ownBlock.toList := fun z hz hzq hm => by
          rcases List.mem_cons.1 hm with h | h
          · exact hzq h
          · have := World.ownsRow.lt HL3.out.1.log.row z (by simpa using h); omega
        refine ⟨rfl, v', ⟨HL4.out.1, HL3.out.1.disk.fr HL4.out.2.1 (hns _ hap.lp (fun h => hap.qp h.symm)) (hns _ hap.ls (fun h => hap.qs h.symm)) (hns _ hap.lw (fun h => hap.qw h.symm)), hap, HL4.out.2.2.1, HL3.out.1.fits, HL3.out.1.size⟩, HL3.out.2.trans (HL4.out.2.1.mono (fun x hx => ?_)), fun z hz => (HL4.out.2.2.2 z hz).imp id (fun h => Nat.le_trans HL3.out.2.size h)⟩
        rcases List.mem_cons.1 hx with h | h
        · simp [h]
        · exact List.mem_append_right _ h
      · have e : appR L M d = (30, (runOps (appOps L.first L.recs L.next d) M).2, L) := by unfold appR; rw [if_neg h1, if_neg h2, if_neg (by rw [hcode]; omega)]
        rw [e]
        unfold Ran at hwr
        rw [hcode] at hwr
        have HW := Lib.hid hwr
        clear hwr hlenR hlog hcode e f1 f2 hszR h1 h2 hpos
        go_enter Try.func9, Try.ntmps9
        go_wp2_with (first
          | (go_at_call 23; (with_reducible refine HRM.out.mono ?_); rintro e w2 ⟨rfl, hb2⟩)
          | (go_at_call 35; (with_reducible refine (HW.out w2 hb2).mono ?_); rintro e w3 ⟨rfl, hD3, hF3⟩; have HL3 := Lib.hid (HLG.out w2 w3 hb2 hF3 hD3); clear hD3 hF3)
          | go_in)
        go_ret
        exact ⟨rfl, v, HL3.out.1, HL3.out.2, fun z hz => .inl hz⟩
end Go.Proofs.Ytajakmfloeefpaa
/- The program's Reset again: where its places lie, too. -/
namespace Go.Proofs.Ytajakmfloeefpaa
open Go.RowKit Go.Maps

set_option maxRecDepth 100000 in
set_option maxHeartbeats 2000000 in
theorem reset_anyN {w : World} {base q p bs bw T : Nat} {L : LG} {v : Value} {M : DM} (h : LogD w base q p bs bw T L v M) (n : Int) (hfit : Fit M T 4100) :
    Calls Try.prog 11 #[.pointer (some ⟨q, 0, none⟩), .int .i64 n] w fun e w' => e = .returned (.int .i64 (rstR L M n).1) ∧ LoggedN w w' base q p bs bw (T + 4100) v (rstR L M n).2.1 (rstR L M n).2.2 := by
  by_cases hn : n < 1 ∨ 4611686018427387904 < n
  · have e0 : rstR L M n = (1, M, L) := if_pos hn
    rw [e0]
    have HX := Lib.hid (And.intro h hfit)
    clear e0 h hfit
    have hn' : n < 1 ∨ (¬ n < 1 ∧ 4611686018427387904 < n) := by omega
    clear hn
    rcases hn' with n1 | ⟨n1, n2⟩
    all_goals
      go_enter Try.func11, Try.ntmps11
      go_wp2_with go_in
      go_ret
      exact ⟨rfl, v, HX.out.1.mono (Nat.le_add_right _ _), Fr.refl _ _, fun z hz => by first | exact .inl hz | (simp [Value.ownBlock] at hz)⟩
  · have n1 : ¬ n < 1 := by omega
    have n2 : ¬ 4611686018427387904 < n := by omega
    have hblk := h.log.blk
    unfold LG.cells at hblk
    have a5 := cell_of_row w q 5 _ _ _ hblk
    have a1 := cell_of_row w q 1 _ _ _ hblk
    have a3 := cell_of_row w q 3 _ _ _ hblk
    have a4 := cell_of_row w q 4 _ _ _ hblk
    by_cases h0 : L.recs = []
    · have e0 : rstR L M n = (0, M, LG.mk L.first L.behind [] n.toNat) := by
        unfold rstR rstOps
        rw [if_neg hn, if_pos h0]
        rfl
      rw [e0]
      obtain ⟨Ap, cp, rfl, _, _, _⟩ := own_shape h.log.row
      have hl0 : decide (0 < L.recs.length) = false := by rw [h0]; rfl
      have hl1 : ¬ (0 : Int) < (L.recs.length : Int) := by rw [h0]; simp
      have f3 := frozen_of_row w q 3 _ _ hblk
      have f4 := frozen_of_row w q 4 _ _ hblk
      have f5 := frozen_of_row w q 5 _ _ hblk
      have HX := Lib.hid (And.intro h (And.intro hfit (And.intro hblk hn)))
      clear e0 h hfit h0 hn hblk
      go_enter Try.func11, Try.ntmps11
      go_wp2_with go_in
      go_ret
      have hr := rst_fin HX.out.1 HX.out.2.2.2
      exact ⟨rfl, _, hr.1.mono (Nat.le_add_right _ _), hr.2.mono (by intro x hx; simp at hx; simp [hx]), fun z hz => by first | exact .inl hz | (simp [Value.ownBlock] at hz)⟩
    · have hend : endR L.first L.recs ≤ 4096 := Nat.le_trans h.log.ok.endd h.log.ok.behind
      have hlen : L.recs.length ≤ 4096 := by have := endR_le L.first L.recs; omega
      have hl0 : decide (0 < L.recs.length) = true := decide_eq_true (List.length_pos_iff.2 h0)
      have hl1 : (0 : Int) < (L.recs.length : Int) := by have := List.length_pos_iff.2 h0; omega
      obtain ⟨Ap, cp, rfl, _, _, _⟩ := own_shape h.log.row
      have hhd := heads_any h.log hlen
      have hHl := heads_len L.first L.recs
      have hOl := others_len L.recs L.first
      have hHs : ∀ i ∈ heads L.first L.recs, i < M.size := fun i hi => by have h1 := heads_ge hi; have h2 := h.log.ok.endd; have h3 := h.fits; unfold LG.endd at h2; omega
      have hOs : ∀ i ∈ others L.first L.recs, i < M.size := fun i hi => by have h1 := others_ge hi; have h2 := h.log.ok.endd; have h3 := h.fits; unfold LG.endd at h2; omega
      have hops : rstOps L.first L.recs = wipeOps (heads L.first L.recs) ++ wipeOps (others L.first L.recs) := if_neg h0
      obtain ⟨H, hH⟩ : ∃ H, H = heads L.first L.recs := ⟨_, rfl⟩
      obtain ⟨O, hO⟩ : ∃ O, O = others L.first L.recs := ⟨_, rfl⟩
      rw [← hH] at hhd hHl hHs hops
      rw [← hO] at hOl hOs hops
      have HHO := Lib.hid (And.intro hHl (And.intro hOl (And.intro hHs (And.intro hOs (And.intro hops (And.intro hO (And.intro hend hlen)))))))
      clear hHl hOl hHs hOs hops hH
      have HH := Lib.hid hhd
      have HX := Lib.hid (And.intro h (And.intro hfit (And.intro hn h0)))
      clear h hfit hn h0 hblk hhd hend hlen a1 a3 a4 hO
      go_enter Try.func11, Try.ntmps11
      go_upto_region 5 with (first
        | (go_at_call 40; (with_reducible refine HH.out.mono ?_); rintro e w1 ⟨v1, rfl, hr1, hb1⟩; have ho := others_any (HX.out.1.kept hb1).log; rw [← HHO.out.2.2.2.2.2.1] at ho; have HO := Lib.hid ho; clear ho; obtain ⟨A1, c1, rfl, _, _, _⟩ := own_shape hr1; have HR1 := Lib.hid (And.intro hr1 hb1); clear hr1 hb1)
        | (go_at_call 41; (with_reducible refine HO.out.mono ?_); rintro e w2 ⟨v2, rfl, hr2, hb2⟩; obtain ⟨A2, c2, rfl, _, _, _⟩ := own_shape hr2; have HR2 := Lib.hid (And.intro hr2 hb2); clear hr2 hb2)
        | go_in)
      have hx := HX.out
      have hz1 := HR1.out.2.size
      have hz2 := HR2.out.2.size
      have hlt := hx.1.disk.lt
      have hW3 : Below w2.heap.size w2 (w2.alloc (.cells #[.slice A1 H.length c1, .slice A2 O.length c2] 70)) := (Below.refl _ _).alloc (Nat.le_refl _) _
      have g3 := heap_alloc_new w2 (.cells #[.slice A1 H.length c1, .slice A2 O.length c2] 70)
      generalize w2.alloc (.cells #[.slice A1 H.length c1, .slice A2 O.length c2] 70) = W3 at hW3 g3 ⊢
      have hb3 : Below w.heap.size w W3 := (HR1.out.2.trans (lower' HR2.out.2 hz1)).trans (lower' hW3 (by omega))
      have hL3 := hx.1.kept hb3
      have hR1 : Rd W3 w1.heap.size A1 (ints H) := ((Rd.ofOwn HR1.out.1).below HR2.out.2 (Nat.le_refl _)).below hW3 hz2
      have hR2 : Rd W3 w2.heap.size A2 (ints O) := (Rd.ofOwn HR2.out.1).below hW3 (Nat.le_refl _)
      have hA1 : ∀ a, A1 = some a → w.heap.size ≤ a.block := fun a ha => own_ge HR1.out.1 a.block (by rw [ha]; simp [Value.ownBlock])
      have hA2 : ∀ a, A2 = some a → w1.heap.size ≤ a.block := fun a ha => own_ge HR2.out.1 a.block (by rw [ha]; simp [Value.ownBlock])
      have hw1 : ∀ (wr : World) (M' : DM) (T' : Nat), Fr W3 wr [p, bs, bw] → DiskM wr p bs bw M' T' → M'.size = M.size → Fit M' T' (H.length + 1) →
          Calls Try.prog 31 #[.pointer (some ⟨q, 0, none⟩), .slice A1 H.length c1] wr fun e w' => Ran wr w' p bs bw T' M' (wipeOps H) e := fun wr M' T' hf hD hs hfit =>
        wipe_any (hx.1.ap.fr hL3.log hf) hD A1 H c1 w1.heap.size (hR1.frA hf (fun a ha => by have := hA1 a ha; simp; omega)) (fun a ha => by have := hA1 a ha; omega) ⟨hx.1.ap.qp, hx.1.ap.qs, hx.1.ap.qw⟩ (fun i hi => by rw [hs]; exact HHO.out.2.2.1 i hi) (by have := HHO.out; omega) hfit
      have hw2 : ∀ (wr : World) (M' : DM) (T' : Nat), Fr W3 wr [p, bs, bw] → DiskM wr p bs bw M' T' → M'.size = M.size → Fit M' T' (O.length + 1) →
          Calls Try.prog 31 #[.pointer (some ⟨q, 0, none⟩), .slice A2 O.length c2] wr fun e w' => Ran wr w' p bs bw T' M' (wipeOps O) e := fun wr M' T' hf hD hs hfit =>
        wipe_any (hx.1.ap.fr hL3.log hf) hD A2 O c2 w2.heap.size (hR2.frA hf (fun a ha => by have := hA2 a ha; simp; omega)) (fun a ha => by have := hA2 a ha; omega) ⟨hx.1.ap.qp, hx.1.ap.qs, hx.1.ap.qw⟩ (fun i hi => by rw [hs]; exact HHO.out.2.2.2.1 i hi) (by have := HHO.out; omega) hfit
      obtain ⟨M1, hM1⟩ : ∃ M1, M1 = (runOps (wipeOps H) M).2 := ⟨_, rfl⟩
      obtain ⟨M2, hM2⟩ : ∃ M2, M2 = (runOps (wipeOps O) M1).2 := ⟨_, rfl⟩
      have hf1 := runOps_facts (wipeOps H) M
      have hf2 := runOps_facts (wipeOps O) M1
      have hl1' : (wipeOps H).length = H.length + 1 := by simp [wipeOps, zeroOps]
      have hl2' : (wipeOps O).length = O.length + 1 := by simp [wipeOps, zeroOps]
      rw [hl1'] at hf1
      rw [hl2'] at hf2
      have hHO := HHO.out
      have fitH : Fit M T (H.length + 1) := hx.2.1.less (by omega)
      have fitO : Fit M1 (T + (wipeOps H).length) (O.length + 1) := by
        rw [hl1', hM1]
        exact ⟨by rw [hf1.1]; exact hx.2.1.size, by have := hf1.2.1; have := hx.2.1.steps; omega, by have := hf1.2.2.1; have := hx.2.1.left; omega, by have := hx.2.1.T; omega⟩
      have hrow0 : ∀ wr, Fr W3 wr [p, bs, bw] → wr.heap[w2.heap.size]? = some (.cells #[.slice A1 H.length c1, .slice A2 O.length c2] 70 (0, 0)) := fun wr hf => (hf.block _ (heap_lt g3) (by simp; omega)).trans g3
      have hw3 : Fr w W3 ([p, bs, bw, q] ++ (Value.slice Ap L.recs.length cp).ownBlock.toList) := Fr.of_below hb3 _
      have hfinL : ∀ (w' : World) (M' : DM) (T' : Nat), Fr W3 w' [p, bs, bw] → DiskM w' p bs bw M' T' → M'.size = M.size → T' ≤ T + 4100 → LogD w' base q p bs bw (T + 4100) L (.slice Ap L.recs.length cp) M' := fun w' M' T' hf hd hs hT =>
        ⟨hL3.ap.fr hL3.log hf, hd.mono hT, hL3.ap, Nat.le_trans hL3.low hf.size, by rw [hs]; exact hL3.fits, by rw [hs]; exact hL3.size⟩
      have HR0 := Lib.hid hrow0
      have HFL := Lib.hid (And.intro hw3 hfinL)
      have HW1 := Lib.hid hw1
      have HW2 := Lib.hid hw2
      have HF := Lib.hid (And.intro fitH (And.intro fitO (And.intro hf1 (And.intro hf2 (And.intro hl1' hl2')))))
      have HD0 := Lib.hid hL3.disk
      clear hx hz1 hz2 hlt hW3 g3 hb3 hL3 hR1 hR2 hA1 hA2 hw1 hw2 hHO fitH fitO hrow0 hw3 hfinL hl1' hl2' hf2
      rcases hf1.2.2.2 with k1 | k1
      · have hs1 : M1.size = M.size := by rw [hM1]; exact hf1.1
        have hs2 : M2.size = M.size := by rw [hM2]; exact (HF.out.2.2.2.1.1).trans hs1
        have e1 : runOps (rstOps L.first L.recs) M = runOps (wipeOps O) M1 := by rw [HHO.out.2.2.2.2.1, runOps_append, if_pos k1, hM1]
        rcases HF.out.2.2.2.1.2.2.2 with k2 | k2
        · have e0 : rstR L M n = (0, M2, LG.mk L.first L.behind [] n.toNat) := by
            unfold rstR
            rw [if_neg HX.out.2.2.1, e1, if_pos k2, hM2]
          have HE := Lib.hid (And.intro e0 (And.intro k1 (And.intro k2 (And.intro hM1 (And.intro hM2 (And.intro hs1 hs2))))))
          clear e0 e1 k1 k2 hf1 hM1 hM2 hs1 hs2 a5 hl0 hl1
          go_wp2_with go_in
          go_loopw [26] (fun i wr => (i = .int .i64 0 ∧ Fr W3 wr [p, bs, bw] ∧ DiskM wr p bs bw M T) ∨ (i = .int .i64 1 ∧ Fr W3 wr [p, bs, bw] ∧ DiskM wr p bs bw M1 (T + (wipeOps H).length)) ∨ (i = .int .i64 2 ∧ Fr W3 wr [p, bs, bw] ∧ DiskM wr p bs bw M2 (T + (wipeOps H).length + (wipeOps O).length)))
            (fun i _ => 2 - (intOf i).toNat)
          case atStart => exact .inl ⟨rfl, Fr.refl _ _, HD0.out⟩
          case round =>
            rcases hrel with ⟨rfl, hf, hd⟩ | ⟨rfl, hf, hd⟩ | ⟨rfl, hf, hd⟩
            · have g := HR0.out wr hf
              have r0 := cell_of_row wr w2.heap.size 0 _ _ _ g
              have hc := HW1.out wr M T hf hd rfl HF.out.1
              unfold Ran at hc
              rw [HE.out.2.1, ← HE.out.2.2.2.1] at hc
              have HC := Lib.hid hc
              have HFR := Lib.hid hf
              clear hc g hd hf
              go_wp2_with (first
                | (go_at_call 31; (with_reducible refine HC.out.mono ?_); rintro e w5 ⟨rfl, hD5, hF5⟩; have H5 := Lib.hid (And.intro hD5 hF5); clear hD5 hF5)
                | go_in)
              exact ⟨.inr (.inl ⟨rfl, HFR.out.trans H5.out.2, H5.out.1⟩), by decide⟩
            · have g := HR0.out wr hf
              have r1 := cell_of_row wr w2.heap.size 1 _ _ _ g
              have hc := HW2.out wr M1 _ hf hd HE.out.2.2.2.2.2.1 HF.out.2.1
              unfold Ran at hc
              rw [HE.out.2.2.1, ← HE.out.2.2.2.2.1] at hc
              have HC := Lib.hid hc
              have HFR := Lib.hid hf
              clear hc g hd hf
              go_wp2_with (first
                | (go_at_call 31; (with_reducible refine HC.out.mono ?_); rintro e w5 ⟨rfl, hD5, hF5⟩; have H5 := Lib.hid (And.intro hD5 hF5); clear hD5 hF5)
                | go_in)
              exact ⟨.inr (.inr ⟨rfl, HFR.out.trans H5.out.2, H5.out.1⟩), by decide⟩
            · have hld := HFL.out.2 wr _ _ hf hd HE.out.2.2.2.2.2.2 (by have := HF.out.2.2.2.2; have := HHO.out; omega)
              have hblk := hld.log.blk
              unfold LG.cells at hblk
              have a1 := cell_of_row wr q 1 _ _ _ hblk
              have a3 := cell_of_row wr q 3 _ _ _ hblk
              have a4 := cell_of_row wr q 4 _ _ _ hblk
              have a5 := cell_of_row wr q 5 _ _ _ hblk
              have f3 := frozen_of_row wr q 3 _ _ hblk
              have f4 := frozen_of_row wr q 4 _ _ hblk
              have f5 := frozen_of_row wr q 5 _ _ hblk
              have HLD := Lib.hid (And.intro hld hf)
              clear hld hblk hf hd
              go_wp2_with go_in
              go_ret
              rw [HE.out.1]
              have hr := rst_fin HLD.out.1 HX.out.2.2.1
              exact ⟨rfl, _, hr.1, (HFL.out.1.trans (HLD.out.2.mono (by intro x hx; simp at hx; simp; omega))).trans (hr.2.mono (by intro x hx; simp at hx; simp [hx])), fun z hz => by first | exact .inl hz | (simp [Value.ownBlock] at hz)⟩
        · have e0 : rstR L M n = (30, M2, L) := by
            unfold rstR
            rw [if_neg HX.out.2.2.1, e1, if_neg (by rw [k2]; decide), hM2]
          have HE := Lib.hid (And.intro e0 (And.intro k1 (And.intro k2 (And.intro hM1 (And.intro hM2 (And.intro hs1 hs2))))))
          clear e0 e1 k1 k2 hf1 hM1 hM2 hs1 hs2 a5 hl0 hl1
          go_wp2_with go_in
          go_loopw [26] (fun i wr => (i = .int .i64 0 ∧ Fr W3 wr [p, bs, bw] ∧ DiskM wr p bs bw M T) ∨ (i = .int .i64 1 ∧ Fr W3 wr [p, bs, bw] ∧ DiskM wr p bs bw M1 (T + (wipeOps H).length)))
            (fun i _ => 2 - (intOf i).toNat)
          case atStart => exact .inl ⟨rfl, Fr.refl _ _, HD0.out⟩
          case round =>
            rcases hrel with ⟨rfl, hf, hd⟩ | ⟨rfl, hf, hd⟩
            · have g := HR0.out wr hf
              have r0 := cell_of_row wr w2.heap.size 0 _ _ _ g
              have hc := HW1.out wr M T hf hd rfl HF.out.1
              unfold Ran at hc
              rw [HE.out.2.1, ← HE.out.2.2.2.1] at hc
              have HC := Lib.hid hc
              have HFR := Lib.hid hf
              clear hc g hd hf
              go_wp2_with (first
                | (go_at_call 31; (with_reducible refine HC.out.mono ?_); rintro e w5 ⟨rfl, hD5, hF5⟩; have H5 := Lib.hid (And.intro hD5 hF5); clear hD5 hF5)
                | go_in)
              exact ⟨.inr ⟨rfl, HFR.out.trans H5.out.2, H5.out.1⟩, by decide⟩
            · have g := HR0.out wr hf
              have r1 := cell_of_row wr w2.heap.size 1 _ _ _ g
              have hc := HW2.out wr M1 _ hf hd HE.out.2.2.2.2.2.1 HF.out.2.1
              unfold Ran at hc
              rw [HE.out.2.2.1, ← HE.out.2.2.2.2.1] at hc
              have HC := Lib.hid hc
              have HFR := Lib.hid hf
              clear hc g hd hf
              go_wp2_with (first
                | (go_at_call 31; (with_reducible refine HC.out.mono ?_); rintro e w5 ⟨rfl, hD5, hF5⟩; have H5 := Lib.hid (And.intro hD5 hF5); clear hD5 hF5)
                | go_in)
              go_ret
              rw [HE.out.1]
              have hfr := HFR.out.trans H5.out.2
              exact ⟨rfl, _, HFL.out.2 w5 _ _ hfr H5.out.1 HE.out.2.2.2.2.2.2 (by have := HF.out.2.2.2.2; have := HHO.out; omega), HFL.out.1.trans (hfr.mono (by intro x hx; simp at hx; simp; omega)), fun z hz => by first | exact .inl hz | (simp [Value.ownBlock] at hz)⟩
      · have e0 : rstR L M n = (30, M1, L) := by
          have e1 : runOps (rstOps L.first L.recs) M = runOps (wipeOps H) M := by rw [HHO.out.2.2.2.2.1, runOps_append, if_neg (by rw [k1]; decide)]
          unfold rstR
          rw [if_neg HX.out.2.2.1, e1, if_neg (by rw [k1]; decide), hM1]
        have hs1 : M1.size = M.size := by rw [hM1]; exact hf1.1
        have HE := Lib.hid (And.intro e0 (And.intro k1 (And.intro hM1 hs1)))
        clear e0 k1 hf1 hM1 hM2 a5 hl0 hl1
        go_wp2_with go_in
        go_loopw [26] (fun i wr => i = .int .i64 0 ∧ Fr W3 wr [p, bs, bw] ∧ DiskM wr p bs bw M T)
          (fun i _ => 2 - (intOf i).toNat)
        case atStart => exact ⟨rfl, Fr.refl _ _, HD0.out⟩
        case round =>
          obtain ⟨rfl, hf, hd⟩ := hrel
          have g := HR0.out wr hf
          have r0 := cell_of_row wr w2.heap.size 0 _ _ _ g
          have hc := HW1.out wr M T hf hd rfl HF.out.1
          unfold Ran at hc
          rw [HE.out.2.1, ← HE.out.2.2.1] at hc
          have HC := Lib.hid hc
          have HFR := Lib.hid hf
          clear hc g hd hf
          go_wp2_with (first
            | (go_at_call 31; (with_reducible refine HC.out.mono ?_); rintro e w5 ⟨rfl, hD5, hF5⟩; have H5 := Lib.hid (And.intro hD5 hF5); clear hD5 hF5)
            | go_in)
          go_ret
          rw [HE.out.1]
          have hfr := HFR.out.trans H5.out.2
          exact ⟨rfl, _, HFL.out.2 w5 _ _ hfr H5.out.1 HE.out.2.2.2 (by have := HF.out.2.2.2.2; have := HHO.out; omega), HFL.out.1.trans (hfr.mono (by intro x hx; simp at hx; simp; omega)), fun z hz => by first | exact .inl hz | (simp [Value.ownBlock] at hz)⟩
end Go.Proofs.Ytajakmfloeefpaa
/- What LogPlays goes from call to call with: a disk and a log on it, and beside them the document's. -/
namespace Go.Proofs.Ytajakmfloeefpaa
open Go.RowKit Go.Maps

/-- The program's are at M and L, the document's at Md and Ld. -/
structure LpS (W0 wr : World) (bx bl p bs bw q base m T : Nat) (M Md : DM) (L Ld : LG) (v : Value) (lo : Nat) (A : Option Addr) (c C : Nat) : Prop where
  box : ∃ A1 A2 A3 n1 n2 n3 c1 c2 c3 s l, wr.heap[bx]? = some (.cells #[.slice A1 n1 c1, .slice A2 n2 c2, .slice A3 n3 c3, .int .i64 s, .int .i64 l] 33 (0, 0)) ∧ RefV wr ([bx, bl, p, bs, bw, q] ++ v.ownBlock.toList) (refOf Md) (.agg #[.slice A1 n1 c1, .slice A2 n2 c2, .slice A3 n3 c3, .int .i64 s, .int .i64 l])
  log : LogD wr base q p bs bw T L v M
  okM : M.Ok T
  okR : Md.Ok T
  size : M.size = m ∧ Md.size = m ∧ 0 < m
  rlg : wr.heap[bl]? = some (.cells #[.int .i64 (Ld.first : Int), .int .i64 (C : Int), .slice A Ld.recs.length c, .int .i64 (Ld.next : Int)] 42 (0, 0))
  own : wr.ownsRow lo 80 2 (.slice A Ld.recs.length c) Ld.recs.length (recS Ld.recs)
  offx : bx ∉ [bl, p, bs, bw, q]
  offl : bl ∉ [p, bs, bw, q]
  offv : ∀ s ∈ v.ownBlock.toList, s ∉ [bx, bl]
  offA : ∀ s ∈ (Value.slice A Ld.recs.length c).ownBlock.toList, s ∉ [bx, bl, p, bs, bw, q] ++ v.ownBlock.toList
  low : ∀ s ∈ [bx, bl, p, bs, bw, q], W0.heap.size ≤ s
  lowb : W0.heap.size ≤ base
  below : Below W0.heap.size W0 wr
section
variable {W0 wr w' : World} {bx bl p bs bw q base m T lo c C : Nat} {M Md : DM} {L Ld : LG} {v : Value} {A : Option Addr}
theorem LpS.kept (h : LpS W0 wr bx bl p bs bw q base m T M Md L Ld v lo A c C) (hb : Below wr.heap.size wr w') : LpS W0 w' bx bl p bs bw q base m T M Md L Ld v lo A c C := by
  obtain ⟨A1, A2, A3, n1, n2, n3, c1, c2, c3, s, l, hg, hv⟩ := h.box
  exact ⟨⟨A1, A2, A3, n1, n2, n3, c1, c2, c3, s, l, (hb.block bx (heap_lt hg)).trans hg, hv.below hb⟩, h.log.kept hb, h.okM, h.okR, h.size, (hb.block bl (heap_lt h.rlg)).trans h.rlg, own_below h.own hb (Nat.le_refl _), h.offx, h.offl, h.offv, h.offA, h.low, h.lowb, h.below.trans (lower' hb h.below.size)⟩
/-- The program's call is done, the document's not yet. -/
theorem LpS.prog (h : LpS W0 wr bx bl p bs bw q base m T M M L L v lo A c C) {T' : Nat} {M' : DM} {L' : LG} (hl : LoggedN wr w' base q p bs bw T' v M' L') (hk : M'.Ok T') (hk2 : M.Ok T') (hs : M'.size = M.size) :
    ∃ v', LpS W0 w' bx bl p bs bw q base m T' M' M L' L v' lo A c C := by
  obtain ⟨v', hL, hf, hv'⟩ := hl
  obtain ⟨A1, A2, A3, n1, n2, n3, c1, c2, c3, s, l, hg, hv⟩ := h.box
  have hlx := heap_lt hg
  have hll := heap_lt h.rlg
  have hox := h.offx
  have hol := h.offl
  have hSx : ∀ z, z = bx ∨ z = bl → z ∉ [p, bs, bw, q] ++ v.ownBlock.toList := fun z hz hm => by
    rcases List.mem_append.1 hm with hm | hm
    · rcases hz with rfl | rfl
      · exact hox (List.mem_cons_of_mem _ hm)
      · exact hol hm
    · have := h.offv z hm
      rcases hz with rfl | rfl <;> simp at this
  have hpos : 0 < M.size := by rw [h.size.1]; exact h.size.2.2
  have hv2 := hv.ext (Y := v'.ownBlock.toList.filter fun z => decide (wr.heap.size ≤ z)) hpos (fun y hy => by simpa using (List.mem_filter.1 hy).2)
  have hv3 := hv2.fr hf (fun x hx => by
    refine List.mem_append_left _ ?_
    rcases List.mem_append.1 hx with hx | hx
    · exact List.mem_append_left _ (List.mem_cons_of_mem _ (List.mem_cons_of_mem _ hx))
    · exact List.mem_append_right _ hx)
  refine ⟨v', ⟨A1, A2, A3, n1, n2, n3, c1, c2, c3, s, l, (hf.block bx hlx (hSx bx (.inl rfl))).trans hg, hv3.sub fun y hy => ?_⟩, hL, hk, hk2, ⟨hs.trans h.size.1, h.size.1, h.size.2.2⟩, (hf.block bl hll (hSx bl (.inr rfl))).trans h.rlg, rowFrS h.own hf (fun z hz hm => h.offA z hz ?_), h.offx, h.offl, fun z hz hm => ?_, fun z hz hm => ?_, h.low, h.lowb, h.below.trans (hf.below h.below.size fun z hz => ?_)⟩
  · rcases List.mem_append.1 hy with hy | hy
    · exact List.mem_append_left _ (List.mem_append_left _ hy)
    · rcases hv' y hy with e | e
      · exact List.mem_append_left _ (List.mem_append_right _ e)
      · exact List.mem_append_right _ (List.mem_filter.2 ⟨hy, decide_eq_true e⟩)
  · rcases List.mem_append.1 hm with hm | hm
    · exact List.mem_append_left _ (List.mem_cons_of_mem _ (List.mem_cons_of_mem _ hm))
    · exact List.mem_append_right _ hm
  · rcases hv' z hz with e | e
    · exact h.offv z e hm
    · simp at hm; omega
  · rcases List.mem_append.1 hm with hm | hm
    · exact h.offA z hz (List.mem_append_left _ hm)
    · rcases hv' z hm with e | e
      · exact h.offA z hz (List.mem_append_right _ e)
      · have := (World.ownsRow.lt h.own z (by simpa using hz)).2
        omega
  · rcases List.mem_append.1 hz with hz | hz
    · exact h.low z (List.mem_cons_of_mem _ (List.mem_cons_of_mem _ hz))
    · exact Nat.le_trans h.lowb (World.ownsRow.lt h.log.log.row z (by simpa using hz)).1
end
end Go.Proofs.Ytajakmfloeefpaa
/- LogPlays: the document's call is done, too. -/
namespace Go.Proofs.Ytajakmfloeefpaa
open Go.RowKit Go.Maps

/-- The document's disk and its log are put back into their boxes. -/
abbrev putB (w : World) (bx bl : Nat) (v0 v1 v2 v3 v4 l0 l1 l2 l3 : Value) : World := ((((((((w.setCell ⟨bx, 0, none⟩ v0).setCell ⟨bx, 1, none⟩ v1).setCell ⟨bx, 2, none⟩ v2).setCell ⟨bx, 3, none⟩ v3).setCell ⟨bx, 4, none⟩ v4).setCell ⟨bl, 0, none⟩ l0).setCell ⟨bl, 1, none⟩ l1).setCell ⟨bl, 2, none⟩ l2).setCell ⟨bl, 3, none⟩ l3
theorem putB_fr (w : World) (bx bl : Nat) (v0 v1 v2 v3 v4 l0 l1 l2 l3 : Value) : Fr w (putB w bx bl v0 v1 v2 v3 v4 l0 l1 l2 l3) [bx, bl] :=
  (((((((((Fr.refl _ _).setCell (by simp) _).setCell (by simp) _).setCell (by simp) _).setCell (by simp) _).setCell (by simp) _).setCell (by simp) _).setCell (by simp) _).setCell (by simp) _).setCell (by simp) _
theorem LpS.docC {W0 wr w2 : World} {bx bl p bs bw q base m T lo lo' c c' C C' : Nat} {M Md : DM} {L Ld : LG} {v : Value} {A A' : Option Addr} (h : LpS W0 wr bx bl p bs bw q base m T M Md L Ld v lo A c C) (hb : Below wr.heap.size wr w2) {B1 B2 B3 : Option Addr} {m1 m2 m3 d1 d2 d3 : Nat} {s l : Int}
    (hR : RefV w2 ([bx, bl, p, bs, bw, q] ++ v.ownBlock.toList) (refOf M) (.agg #[.slice B1 m1 d1, .slice B2 m2 d2, .slice B3 m3 d3, .int .i64 s, .int .i64 l])) (ho : w2.ownsRow lo' 80 2 (.slice A' L.recs.length c') L.recs.length (recS L.recs))
    (hA : ∀ z ∈ (Value.slice A' L.recs.length c').ownBlock.toList, z ∉ [bx, bl, p, bs, bw, q] ++ v.ownBlock.toList) :
    LpS W0 (putB w2 bx bl (.slice B1 m1 d1) (.slice B2 m2 d2) (.slice B3 m3 d3) (.int .i64 s) (.int .i64 l) (.int .i64 (L.first : Int)) (.int .i64 (C' : Int)) (.slice A' L.recs.length c') (.int .i64 (L.next : Int))) bx bl p bs bw q base m T M M L L v lo' A' c' C' := by
  have h2 := h.kept hb
  obtain ⟨A1, A2, A3, n1, n2, n3, c1, c2, c3, s', l', hg, _⟩ := h2.box
  have hf := putB_fr w2 bx bl (.slice B1 m1 d1) (.slice B2 m2 d2) (.slice B3 m3 d3) (.int .i64 s) (.int .i64 l) (.int .i64 (L.first : Int)) (.int .i64 (C' : Int)) (.slice A' L.recs.length c') (.int .i64 (L.next : Int))
  have hox := h.offx
  have hol := h.offl
  have hnl : bl ≠ bx := fun e => hox (by simp [e])
  have hf1 := fr5 w2 bx (.slice B1 m1 d1) (.slice B2 m2 d2) (.slice B3 m3 d3) (.int .i64 s) (.int .i64 l)
  have g1 := set5 hg (.slice B1 m1 d1) (.slice B2 m2 d2) (.slice B3 m3 d3) (.int .i64 s) (.int .i64 l)
  have hgl := (hf1.block bl (heap_lt h2.rlg) (by simpa using hnl)).trans h2.rlg
  generalize hW1 : (((((w2.setCell ⟨bx, 0, none⟩ (.slice B1 m1 d1)).setCell ⟨bx, 1, none⟩ (.slice B2 m2 d2)).setCell ⟨bx, 2, none⟩ (.slice B3 m3 d3)).setCell ⟨bx, 3, none⟩ (.int .i64 s)).setCell ⟨bx, 4, none⟩ (.int .i64 l)) = W1 at hf1 g1 hgl
  have g2 := set4 hgl (.int .i64 (L.first : Int)) (.int .i64 (C' : Int)) (.slice A' L.recs.length c') (.int .i64 (L.next : Int))
  have hf2 : Fr W1 ((((W1.setCell ⟨bl, 0, none⟩ (.int .i64 (L.first : Int))).setCell ⟨bl, 1, none⟩ (.int .i64 (C' : Int))).setCell ⟨bl, 2, none⟩ (.slice A' L.recs.length c')).setCell ⟨bl, 3, none⟩ (.int .i64 (L.next : Int))) [bl] := ((((Fr.refl _ _).setCell (by simp) _).setCell (by simp) _).setCell (by simp) _).setCell (by simp) _
  have g3 := (hf2.block bx (heap_lt g1) (by simpa using fun e => hnl e.symm)).trans g1
  dsimp only [putB] at hf ⊢
  rw [hW1] at hf ⊢
  generalize ((((W1.setCell ⟨bl, 0, none⟩ (.int .i64 (L.first : Int))).setCell ⟨bl, 1, none⟩ (.int .i64 (C' : Int))).setCell ⟨bl, 2, none⟩ (.slice A' L.recs.length c')).setCell ⟨bl, 3, none⟩ (.int .i64 (L.next : Int))) = W2 at hf g2 g3 ⊢
  have hnp : ∀ z ∈ [p, bs, bw, q], z ∉ [bx, bl] := fun z hz hm => by
    simp only [List.mem_cons, List.not_mem_nil, or_false] at hm
    rcases hm with rfl | rfl
    · exact hox (List.mem_cons_of_mem _ hz)
    · exact hol hz
  refine ⟨⟨B1, B2, B3, m1, m2, m3, d1, d2, d3, s, l, g3, hR.fr hf (fun x hx => List.mem_append_left _ ?_)⟩, ⟨h2.log.log.frS hf (hnp q (by simp)) h.offv, h2.log.disk.fr hf (hnp p (by simp)) (hnp bs (by simp)) (hnp bw (by simp)), h2.log.ap, Nat.le_trans h2.log.low hf.size, h2.log.fits, h2.log.size⟩, h.okM, h.okM, ⟨h.size.1, h.size.1, h.size.2.2⟩, g2, rowFrS ho hf (fun z hz hm => hA z hz ?_), h.offx, h.offl, h.offv, hA, h.low, h.lowb, h2.below.trans (hf.below h2.below.size fun z hz => ?_)⟩
  · simp at hx ⊢; rcases hx with rfl | rfl <;> simp
  · refine List.mem_append_left _ ?_
    simp at hm ⊢; rcases hm with rfl | rfl <;> simp
  · refine h.low z ?_
    simp at hz ⊢; rcases hz with rfl | rfl <;> simp
theorem LpS.doc {W0 wr w2 : World} {bx bl p bs bw q base m T lo lo' c c' C : Nat} {M Md : DM} {L Ld : LG} {v : Value} {A A' : Option Addr} (h : LpS W0 wr bx bl p bs bw q base m T M Md L Ld v lo A c C) (hb : Below wr.heap.size wr w2) {B1 B2 B3 : Option Addr} {m1 m2 m3 d1 d2 d3 : Nat} {s l : Int}
    (hR : RefV w2 ([bx, bl, p, bs, bw, q] ++ v.ownBlock.toList) (refOf M) (.agg #[.slice B1 m1 d1, .slice B2 m2 d2, .slice B3 m3 d3, .int .i64 s, .int .i64 l])) (ho : w2.ownsRow lo' 80 2 (.slice A' L.recs.length c') L.recs.length (recS L.recs))
    (hA : ∀ z ∈ (Value.slice A' L.recs.length c').ownBlock.toList, z ∉ [bx, bl, p, bs, bw, q] ++ v.ownBlock.toList) :
    LpS W0 (putB w2 bx bl (.slice B1 m1 d1) (.slice B2 m2 d2) (.slice B3 m3 d3) (.int .i64 s) (.int .i64 l) (.int .i64 (L.first : Int)) (.int .i64 (C : Int)) (.slice A' L.recs.length c') (.int .i64 (L.next : Int))) bx bl p bs bw q base m T M M L L v lo' A' c' C :=
  h.docC hb hR ho hA
end Go.Proofs.Ytajakmfloeefpaa
