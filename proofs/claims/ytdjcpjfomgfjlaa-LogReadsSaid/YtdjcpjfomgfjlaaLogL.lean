/- add. -/
import Derived.Test.YtdjcpjfomgfjlaaLogK
import Derived.Deep.RegionLaw
namespace Go.Proofs.Ytdjcpjfomgfjlaa
open Go.RowKit Go.Maps

theorem infoPlace : (Try.prog.info? 134).map (fun i => (i.zero, i.size, i.bytes)) = some (some (.agg #[.int .i64 0, .int .i64 0]), 2, 16) := by kernel_rfl
def LG.add (L : LG) (s : Nat) (d : List UInt8) : LG := { L with recs := L.recs ++ [(s, d)], next := s + 1 }
theorem LG.add_endd (L : LG) (s : Nat) (d : List UInt8) : (L.add s d).endd = L.endd + 1 + secs d.length := by
  unfold LG.endd LG.add
  rw [endR_append]
  rfl
theorem plc_add (L : LG) (s : Nat) (d : List UInt8) : plc L.first (L.add s d).recs = plc L.first L.recs ++ [.int .i64 (L.endd : Int), .int .i64 (secs d.length : Int)] := by
  unfold LG.add
  rw [plc_append]
  rfl
theorem fr_grown {w w' : World} {r : Option Nat} (h : w.grownBy w' r) : Fr w w' r.toList :=
  ⟨h.os, h.tape, h.output, h.size, fun k hk hs => h.block k hk fun e => hs (by rw [← e]; simp)⟩
theorem add_fin {w W1 wa X2 : World} {base q p ga ca cp : Nat} {Ap : Option Addr} {L : LG} {s : Nat} {d : List UInt8} {o : Obj}
    (h : LogAt w base q p L (.slice Ap L.recs.length cp)) (hW1 : Below w.heap.size w W1) (hz : W1.heap.size = w.heap.size + 1)
    (hown : wa.ownsRow base 134 2 (.slice (some ⟨ga, 0, none⟩) (L.recs.length + 1) ca) (L.recs.length + 1) (plc L.first L.recs ++ [.int .i64 (L.endd : Int), .int .i64 (secs d.length : Int)]))
    (hga : ((W1.alloc o).drew).grownBy wa (Value.slice Ap L.recs.length cp).ownBlock)
    (hq : X2.heap[q]? = some (.cells #[.pointer (some ⟨p, 0, none⟩), .int .i64 (L.first : Int), .int .i64 (L.behind : Int), .int .i64 (L.endd : Int), .int .i64 (L.next : Int), .slice (some ⟨ga, 0, none⟩) (L.recs.length + 1) ca] 86 (0, 0)))
    (hf : Fr wa X2 [q]) (h1 : 1 ≤ s) (hs : s ≤ 4611686018427387904) (hfit : L.endd + 1 + secs d.length ≤ L.behind) (hbase : base ≤ w.heap.size) :
    Ending.returned (.tuple #[]) = .returned (.tuple #[]) ∧ ∃ v', LogAt ((X2.setCell ⟨q, 3, none⟩ (.int .i64 ((L.endd : Int) + (1 + (secs d.length : Int))))).setCell ⟨q, 4, none⟩ (.int .i64 ((s : Int) + 1))).drew base q p (L.add s d) v' ∧
      Fr w ((X2.setCell ⟨q, 3, none⟩ (.int .i64 ((L.endd : Int) + (1 + (secs d.length : Int))))).setCell ⟨q, 4, none⟩ (.int .i64 ((s : Int) + 1))).drew (q :: (Value.slice Ap L.recs.length cp).ownBlock.toList) ∧
      base ≤ ((X2.setCell ⟨q, 3, none⟩ (.int .i64 ((L.endd : Int) + (1 + (secs d.length : Int))))).setCell ⟨q, 4, none⟩ (.int .i64 ((s : Int) + 1))).drew.heap.size := by
  have hfF : Fr X2 ((X2.setCell ⟨q, 3, none⟩ (.int .i64 ((L.endd : Int) + (1 + (secs d.length : Int))))).setCell ⟨q, 4, none⟩ (.int .i64 ((s : Int) + 1))).drew [q] := (((Fr.refl _ _).setCell (by simp) _).setCell (by simp) _).drew
  have hq2 : ((X2.setCell ⟨q, 3, none⟩ (.int .i64 ((L.endd : Int) + (1 + (secs d.length : Int))))).setCell ⟨q, 4, none⟩ (.int .i64 ((s : Int) + 1))).drew.heap[q]? = some (.cells #[.pointer (some ⟨p, 0, none⟩), .int .i64 (L.first : Int), .int .i64 (L.behind : Int), .int .i64 ((L.endd : Int) + (1 + (secs d.length : Int))), .int .i64 ((s : Int) + 1), .slice (some ⟨ga, 0, none⟩) (L.recs.length + 1) ca] 86 (0, 0)) := by
    have h3 := heap_setCell_same X2 q 3 _ _ (.int .i64 ((L.endd : Int) + (1 + (secs d.length : Int)))) hq
    have h4 := heap_setCell_same _ q 4 _ _ (.int .i64 ((s : Int) + 1)) h3
    show ((X2.setCell ⟨q, 3, none⟩ (.int .i64 ((L.endd : Int) + (1 + (secs d.length : Int))))).setCell ⟨q, 4, none⟩ (.int .i64 ((s : Int) + 1))).heap[q]? = _
    simpa using h4
  generalize ((X2.setCell ⟨q, 3, none⟩ (.int .i64 ((L.endd : Int) + (1 + (secs d.length : Int))))).setCell ⟨q, 4, none⟩ (.int .i64 ((s : Int) + 1))).drew = F at hfF hq2 ⊢
  have hall : Fr w F (q :: (Value.slice Ap L.recs.length cp).ownBlock.toList) := by
    have a1 : Fr w W1 (q :: (Value.slice Ap L.recs.length cp).ownBlock.toList) := Fr.of_below hW1 _
    have a2 : Fr W1 (W1.alloc o).drew (q :: (Value.slice Ap L.recs.length cp).ownBlock.toList) := ((Fr.refl _ _).alloc _).drew
    have a3 : Fr ((W1.alloc o).drew) wa (q :: (Value.slice Ap L.recs.length cp).ownBlock.toList) := (fr_grown hga).mono (fun x hx => List.mem_cons_of_mem _ hx)
    exact (((a1.trans a2).trans a3).trans (hf.mono (by simp))).trans (hfF.mono (by simp))
  refine ⟨rfl, .slice (some ⟨ga, 0, none⟩) (L.recs.length + 1) ca, ⟨?_, ?_, h.lt, ?_⟩, hall, Nat.le_trans hbase hall.size⟩
  · rw [hq2]
    unfold LG.cells
    rw [L.add_endd s d]
    have e1 : (((L.endd + 1 + secs d.length : Nat)) : Int) = (L.endd : Int) + (1 + (secs d.length : Int)) := by omega
    rw [e1]
    rfl
  · have hpl : plc (L.add s d).first (L.add s d).recs = _ := plc_add L s d
    rw [hpl]
    have hl : (L.add s d).recs.length = L.recs.length + 1 := by simp [LG.add]
    rw [hl]
    exact rowFr (rowFr hown hf (by simp; exact h.lt)) hfF (by simp; exact h.lt)
  · exact ⟨h.ok.first, h.ok.behind, by rw [L.add_endd]; exact hfit, by show 1 ≤ s + 1; omega, by show s + 1 ≤ _; omega⟩
set_option maxRecDepth 100000 in
set_option maxHeartbeats 4000000 in
theorem add_any {w : World} {base q p : Nat} {L : LG} {v : Value} (h : LogAt w base q p L v) (hbase : base ≤ w.heap.size) (s : Nat) (d : List UInt8) (h1 : 1 ≤ s) (hs : s ≤ 4611686018427387904) (hd : d.length ≤ 4000) (hfit : L.endd + 1 + secs d.length ≤ L.behind) :
    Calls Try.prog 46 #[.pointer (some ⟨q, 0, none⟩), .int .i64 (s : Int), .int .i64 (d.length : Int)] w fun e w' => e = .returned (.tuple #[]) ∧ ∃ v', LogAt w' base q p (L.add s d) v' ∧ Fr w w' (q :: v.ownBlock.toList) ∧ base ≤ w'.heap.size := by
  obtain ⟨i0, hi, hz0, hz1', hz2⟩ := info_parts infoPlace
  have hblk := h.blk
  unfold LG.cells at hblk
  have hsec := fun W => secs_any d.length W (by omega)
  have hbe := h.ok.behind
  have hr := h.row
  have hqb := h.lt
  have hrl : L.recs.length ≤ 4096 := by have := endR_le L.first L.recs; have := h.ok.endd; unfold LG.endd at this; omega
  have HS := Lib.hid hsec
  have HH := Lib.hid (And.intro h (And.intro hblk (And.intro hr (And.intro hqb (And.intro hbase hrl)))))
  have HA := Lib.hid (And.intro h1 (And.intro hs (And.intro hd (And.intro hfit hbe))))
  have hqs := h.size
  have HQ := Lib.hid hqs
  have b3 := cell_of_row w q 3 _ _ _ hblk
  have hKS : ∀ w' : World, Below w.heap.size w w' → w'.cell? ⟨q, 3, none⟩ = some (.int .i64 (L.endd : Int)) := fun w' hb => cell_of_row w' q 3 _ _ _ ((hb.block q hqs).trans hblk)
  have KS := Lib.hid hKS
  have hsI : (s : Int) ≤ 4611686018427387904 := by omega
  clear h hblk hsec hr hqb hbase hrl hbe hfit hs h1 hd hqs hKS
  go_enter Try.func46, Try.ntmps46
  go_upto_region 0 with go_in
  go_region_held3 (fun w' => w'.cell? ⟨q, 3, none⟩ = some (.int .i64 (L.endd : Int)))
    (first
      | assumption
      | (refine KS.out _ ?_; repeat (first | exact Below.refl _ _ | refine Below.drew ?_ | refine Below.alloc ?_ (Nat.le_refl _) _ | refine Below.setCell ?_ (Nat.le_refl _) _)))
    ((go_at_call 70; (with_reducible refine (HS.out _).mono ?_); rintro e w1 ⟨rfl, rfl⟩))
  all_goals
    have hW1 : Below w.heap.size w (w.alloc (.cells #[.int .i64 (L.endd : Int), .int .i64 (secs d.length : Int)] 134)).drew := ((Below.refl _ _).alloc (Nat.le_refl _) _).drew
    have hg6 : (w.alloc (.cells #[.int .i64 (L.endd : Int), .int .i64 (secs d.length : Int)] 134)).drew.heap[w.heap.size]? = some (.cells #[.int .i64 (L.endd : Int), .int .i64 (secs d.length : Int)] 134 (0, 0)) := heap_alloc_new w _
    have hz1 : (w.alloc (.cells #[.int .i64 (L.endd : Int), .int .i64 (secs d.length : Int)] 134)).drew.heap.size = w.heap.size + 1 := alloc1_size w _
    have hrow : (w.alloc (.cells #[.int .i64 (L.endd : Int), .int .i64 (secs d.length : Int)] 134)).drew.ownsRow base 134 2 v L.recs.length (plc L.first L.recs) := World.ownsRow.alloc HH.out.2.2.1 _
    obtain ⟨b6, hb6⟩ : ∃ b6, b6 = w.heap.size := ⟨_, rfl⟩
    rw [← hb6] at hg6 ⊢
    generalize (w.alloc (.cells #[.int .i64 (L.endd : Int), .int .i64 (secs d.length : Int)] 134)).drew = W1 at hW1 hg6 hz1 hrow ⊢
    have HB6 := Lib.hid hb6
    have hblk1 := (hW1.block q HQ.out).trans HH.out.2.1
    obtain ⟨Ap, cp, rfl, _, _, _⟩ := own_shape hrow
    have hOa : ((W1.alloc (.cells #[.int .i64 (L.endd : Int), .int .i64 (secs d.length : Int)] 134)).drew).ownsRow base 134 2 (.slice Ap L.recs.length cp) L.recs.length (plc L.first L.recs) := World.ownsRow.alloc hrow _
    have hRN : Rd ((W1.alloc (.cells #[.int .i64 (L.endd : Int), .int .i64 (secs d.length : Int)] 134)).drew) (W1.heap.size + 1) (some ⟨W1.heap.size, 0, none⟩) [.int .i64 (L.endd : Int), .int .i64 (secs d.length : Int)] := (Rd.new W1 #[.int .i64 (L.endd : Int), .int .i64 (secs d.length : Int)] 134 (0, 0)).drew
    obtain ⟨va, wa, hruna, howna, hga, haa⟩ := run_appR (P := Try.prog) ((W1.alloc (.cells #[.int .i64 (L.endd : Int), .int .i64 (secs d.length : Int)] 134)).drew) base 84 84 134 i0 _ 2 16 Try.underlying84 hi hz0 hz1' hz2 rfl (by omega) (.slice Ap L.recs.length cp) L.recs.length (plc L.first L.recs) hOa (W1.heap.size + 1) (some ⟨W1.heap.size, 0, none⟩) 1 1 [.int .i64 (L.endd : Int), .int .i64 (secs d.length : Int)] rfl hRN (by simp [Value.oneCell']) (by have := HH.out.2.2.2.2.2; omega) (by omega) (by have := HH.out.2.2.2.2.1; have := hW1.size; show base ≤ (W1.alloc _).heap.size; simp; omega)
    obtain ⟨ga, ca, rfl, _, _, _, _⟩ := own_form howna (by omega)
    have hqW : q < W1.heap.size := by have := HQ.out; omega
    have hblka : wa.heap[q]? = some (.cells #[.pointer (some ⟨p, 0, none⟩), .int .i64 (L.first : Int), .int .i64 (L.behind : Int), .int .i64 (L.endd : Int), .int .i64 (L.next : Int), .slice Ap L.recs.length cp] 86 (0, 0)) :=
      (hga.block q (by show q < (W1.alloc _).heap.size; simp; omega) (fun e => by have := (World.ownsRow.lt hrow q e.symm).1; have := HH.out.2.2.2.1; omega)).trans ((Below.heap_alloc W1 _ _ hqW).trans hblk1)
    have hg6a : wa.heap[b6]? = some (.cells #[.int .i64 (L.endd : Int), .int .i64 (secs d.length : Int)] 134 (0, 0)) :=
      (hga.block b6 (by have := heap_lt hg6; show b6 < (W1.alloc _).heap.size; simp; omega) (fun e => by have h1 := (World.ownsRow.lt HH.out.2.2.1 b6 e.symm).2; have := HB6.out; omega)).trans ((Below.heap_alloc W1 _ _ (heap_lt hg6)).trans hg6)
    have k5 : W1.cell? ⟨q, 5, none⟩ = some (.slice Ap L.recs.length cp) := cell_of_row W1 q 5 _ _ _ hblk1
    have m0 : W1.cell? ⟨b6, 0, none⟩ = some (.int .i64 (L.endd : Int)) := cell_of_row W1 b6 0 _ _ _ hg6
    have m1 : W1.cell? ⟨b6, 1, none⟩ = some (.int .i64 (secs d.length : Int)) := cell_of_row W1 b6 1 _ _ _ hg6
    have k5' : (W1.alloc (.cells #[.int .i64 (L.endd : Int), .int .i64 (secs d.length : Int)] 134)).cell? ⟨q, 5, none⟩ = some (.slice Ap L.recs.length cp) := cell_of_row (W1.alloc _) q 5 _ _ _ ((Below.heap_alloc W1 _ _ hqW).trans hblk1)
    have e5 : wa.cell? ⟨q, 5, none⟩ = some (.slice Ap L.recs.length cp) := cell_of_row wa q 5 _ _ _ hblka
    have f5 := frozen_of_row wa q 5 _ _ hblka
    have HWA := Lib.hid (And.intro howna (And.intro hga (And.intro haa (And.intro hblka (And.intro hg6a (And.intro hrow (And.intro hW1 hz1)))))))
    clear howna hga haa hblka hg6a hOa hRN hrow hW1 hg6 hblk1 hz1 hb6 hqW b3
    go_upto_region 1 with go_in
    go_region_law (first
      | (refine step_appK _ (by rfl) (.tmp 18) (.tmp 20) 84 rfl rfl _ _ _ _ rfl rfl hruna ?_))
    all_goals
      have hx := HWA.out
      have hq2 : (wa.setCell ⟨q, 5, none⟩ (.slice (some ⟨ga, 0, none⟩) (L.recs.length + 1) ca)).heap[q]? = some (.cells #[.pointer (some ⟨p, 0, none⟩), .int .i64 (L.first : Int), .int .i64 (L.behind : Int), .int .i64 (L.endd : Int), .int .i64 (L.next : Int), .slice (some ⟨ga, 0, none⟩) (L.recs.length + 1) ca] 86 (0, 0)) := by
        have := heap_setCell_same wa q 5 _ _ (.slice (some ⟨ga, 0, none⟩) (L.recs.length + 1) ca) hx.2.2.2.1
        simpa using this
      have hf2 : Fr wa (wa.setCell ⟨q, 5, none⟩ (.slice (some ⟨ga, 0, none⟩) (L.recs.length + 1) ca)) [q] := (Fr.refl _ _).setCell (by simp) _
      have hne : b6 ≠ q := by have := HB6.out; have := HQ.out; omega
      have hg62 := (hf2.block b6 (heap_lt hx.2.2.2.2.1) (by simpa using hne)).trans hx.2.2.2.2.1
      generalize wa.setCell ⟨q, 5, none⟩ (.slice (some ⟨ga, 0, none⟩) (L.recs.length + 1) ca) = X2 at hq2 hf2 hg62 ⊢
      have n3 := cell_of_row X2 q 3 _ _ _ hq2
      have nf3 := frozen_of_row X2 q 3 _ _ hq2
      have n4 := cell_of_row X2 q 4 _ _ _ hq2
      have nf4 := frozen_of_row X2 q 4 _ _ hq2
      have l1 : X2.cell? ⟨b6, 1, none⟩ = some (.int .i64 (secs d.length : Int)) := cell_of_row X2 b6 1 _ _ _ hg62
      have hsum : (secs d.length : Int) ≤ 63 := by have := HA.out.2.2.1; unfold secs; omega
      have hend : (L.endd : Int) ≤ 4096 := by have := HA.out.2.2.2.1; have := HA.out.2.2.2.2; omega
      have s1 : IntKind.i64.wrap (1 + (secs d.length : Int)) = 1 + (secs d.length : Int) := IntWalk.i64_in _ (by omega)
      have s2 : IntKind.i64.wrap ((L.endd : Int) + (1 + (secs d.length : Int))) = (L.endd : Int) + (1 + (secs d.length : Int)) := IntWalk.i64_in _ (by omega)
      have HY := Lib.hid (And.intro hq2 (And.intro hf2 hne))
      clear hx hq2 hf2 hne hg62 k5 m0 m1 k5' e5 f5 hruna
      go_upto_region 2 with go_in
      go_region
      all_goals
        go_wp2_with go_in
        go_end0
        exact add_fin (q := q) HH.out.1 HWA.out.2.2.2.2.2.2.1 HWA.out.2.2.2.2.2.2.2 HWA.out.1 HWA.out.2.1 HY.out.1 HY.out.2.1 HA.out.1 HA.out.2.1 HA.out.2.2.2.1 HH.out.2.2.2.2.1
end Go.Proofs.Ytdjcpjfomgfjlaa
