/- The reference's Parse. -/
import Derived.Test.YtinhmchekdolmaaDoorProg
import Derived.Test.YtinhmchekdolmaaDoorValVV
import Derived.Test.YtinhmchekdolmaaDoorValP
import Derived.Test.YtinhmchekdolmaaDoorValV
import Derived.WalkKit
import Derived.WalkSpells
import Derived.WalkLawsBesides
import Derived.Deep.QuietTactic
import Derived.Deep.RegionHeld3
import Derived.Deep.CutBlock
import Derived.Deep.DeepCutAuto
import Derived.Deep.CutRange
import Derived.BigQuiet
import Derived.KernelRfl
import Derived.Lib.Hide
namespace Go.Proofs.YtinhmchekdolmaaDoor
open Go.RowKit

theorem resPR {w : World} {b : Nat} {v0 v1 v2 : Value} (h : w.heap[b]? = some (.cells #[v0, v1, v2] 23 (0, 0))) (tmps : Array Value) (h2 : tmps.getD 2 undef = .pointer (some ⟨b, 0, none⟩)) :
    (results Tryd.f23 tmps).run Tryd.prog w = .ok (.tuple #[.agg #[v0, v1, v2], tmps.getD 3 undef]) w := by
  have e0 : w.cell? ⟨b, 0, none⟩ = some v0 := cell_of_row w b 0 _ _ _ h
  have e1 : w.cell? ⟨b, 1, none⟩ = some v1 := cell_of_row w b 1 _ _ _ h
  have e2 : w.cell? ⟨b, 2, none⟩ = some v2 := cell_of_row w b 2 _ _ _ h
  have h2' := h2
  simp only [Array.getD_eq_getD_getElem?] at h2'
  simp [results, Tryd.results23, go_sem, h2', e0, e1, e2]

theorem set3_cell {w : World} {b c : Nat} (hne : c ≠ b) (v0 v1 v2 : Value) (k : Nat) (_u : Unit) : (((w.setCell ⟨b, 0, none⟩ v0).setCell ⟨b, 1, none⟩ v1).setCell ⟨b, 2, none⟩ v2).cell? ⟨c, k, none⟩ = w.cell? ⟨c, k, none⟩ := by
  rw [World.cell?_setCell_other _ _ _ _ (by intro e; injection e with e; exact hne e.symm), World.cell?_setCell_other _ _ _ _ (by intro e; injection e with e; exact hne e.symm), World.cell?_setCell_other _ _ _ _ (by intro e; injection e with e; exact hne e.symm)]

/-- What the reference's Parse answers: a value, and whether it counts. -/
def ansP (l : List UInt8) (e : Ending) : Prop := ∃ (k n : Int) (t : ByteArray), e = .returned (.tuple #[.agg #[.int .i64 k, .int .i64 n, .string t], .bool (refO l).isSome]) ∧ ∀ u, refO l = some u → (⟨k, n, t⟩ : VVal) = u

set_option maxRecDepth 100000 in
set_option maxHeartbeats 4000000 in
theorem refParse_any (s : ByteArray) (w : World) (hs : s.size ≤ 2000) :
    Calls Tryd.prog 23 #[.string s] w fun e w' => ansP s.data.toList e ∧ Below w.heap.size w w' := by
  have hl : s.data.toList.length = s.size := Array.length_toList
  have hZ := heap_alloc_new w (.cells #[.int .i64 0, .int .i64 0, .string ⟨#[]⟩] 23)
  have hBZ : Below w.heap.size w (w.alloc (.cells #[.int .i64 0, .int .i64 0, .string ⟨#[]⟩] 23)) := (Below.refl _ _).alloc (Nat.le_refl _) _
  by_cases ht : s.data.toList = txtTrue
  · have HX := Lib.hid (show refO s.data.toList = some ⟨3, 1, ⟨#[]⟩⟩ from if_pos ht)
    obtain rfl : s = ⟨#[116, 114, 117, 101]⟩ := by
      apply ByteArray.ext
      apply Array.toList_inj.1
      rw [ht]
      rfl
    clear ht
    go_enter Tryd.func23, Tryd.ntmps23
    go_wp2
    refine bodyPost_ret (resPR (heap_alloc_new w _) _ rfl) rfl ⟨⟨3, 1, ⟨#[]⟩, ?_, fun u hu => ?_⟩, (Below.refl _ _).alloc (Nat.le_refl _) _⟩
    · rw [HX.out]; rfl
    · rw [HX.out] at hu; injection hu
  · by_cases hf : s.data.toList = txtFalse
    · have HX := Lib.hid (show refO s.data.toList = some ⟨3, 0, ⟨#[]⟩⟩ from (if_neg ht).trans (if_pos hf))
      obtain rfl : s = ⟨#[102, 97, 108, 115, 101]⟩ := by
        apply ByteArray.ext
        apply Array.toList_inj.1
        rw [hf]
        rfl
      clear hf ht
      go_enter Tryd.func23, Tryd.ntmps23
      go_wp2
      refine bodyPost_ret (resPR (heap_alloc_new w _) _ rfl) rfl ⟨⟨3, 0, ⟨#[]⟩, ?_, fun u hu => ?_⟩, (Below.refl _ _).alloc (Nat.le_refl _) _⟩
      · rw [HX.out]; rfl
      · rw [HX.out] at hu; injection hu
    · have bf : (s.toList == [102, 97, 108, 115, 101]) = false := by rw [beq_eq_false_iff_ne, Lib.toList_data]; exact hf
      have bt' : (s.toList == [116, 114, 117, 101]) = false := by rw [beq_eq_false_iff_ne, Lib.toList_data]; exact ht
      have hO : refO s.data.toList = _ := (if_neg ht).trans (if_neg hf)
      by_cases hq : s.data.toList.length = 0 ∨ s.data.toList.headD 0 ≠ 34
      · have hO2 := hO.trans (if_pos hq)
        have hnum := refNumber_any s (w.alloc (.cells #[.int .i64 0, .int .i64 0, .string ⟨#[]⟩] 23)) (by omega)
        have hans : ansP s.data.toList (.returned (.tuple #[.agg (numO s.data.toList).cells, .bool (numR s.data.toList).isSome])) := by
          refine ⟨(numO s.data.toList).kind, (numO s.data.toList).n, (numO s.data.toList).s, ?_, fun u hu => ?_⟩
          · rw [hO2]
            cases numR s.data.toList <;> rfl
          · rw [hO2] at hu
            unfold numO
            cases hn : numR s.data.toList with
            | none => rw [hn] at hu; cases hu
            | some n => rw [hn] at hu; injection hu
        obtain ⟨⟨k, n, t⟩, hv⟩ : ∃ v, v = numO s.data.toList := ⟨_, rfl⟩
        obtain ⟨b, hb⟩ : ∃ b, b = (numR s.data.toList).isSome := ⟨_, rfl⟩
        rw [← hv, ← hb] at hnum hans
        simp only [VVal.cells] at hnum hans
        have HAN := Lib.hid hans
        have HNU := Lib.hid hnum
        have HZ := Lib.hid hZ
        have HBZ := Lib.hid hBZ
        clear hans hnum hv hb hO2 hO hZ hBZ ht hf
        have fin : ∀ w1, Below (w.alloc (.cells #[.int .i64 0, .int .i64 0, .string ⟨#[]⟩] 23)).heap.size (w.alloc (.cells #[.int .i64 0, .int .i64 0, .string ⟨#[]⟩] 23)) w1 → w1.heap[w.heap.size]? = some (.cells #[.int .i64 0, .int .i64 0, .string ⟨#[]⟩] 23 (0, 0)) := fun w1 h => (h.block w.heap.size (by simp)).trans HZ.out
        have FIN := Lib.hid fin
        clear fin
        by_cases h0 : s.size = 0
        · have h0' : ((s.size : Int) == 0) = true := by rw [beq_iff_eq]; omega
          clear hq
          go_enter Tryd.func23, Tryd.ntmps23
          go_wp2_with fail
          refine HNU.out.mono ?_
          rintro e w1 ⟨rfl, hb1⟩
          have hg := FIN.out w1 hb1
          have hB1 := HBZ.out.trans (hb1.mono HBZ.out.size)
          have e0 := cell_of_row _ w.heap.size 0 _ _ _ hg
          have e1 := cell_of_row _ w.heap.size 1 _ _ _ hg
          have e2 := cell_of_row _ w.heap.size 2 _ _ _ hg
          have f0 := frozen_of_row _ w.heap.size 0 _ _ hg
          have f1 := frozen_of_row _ w.heap.size 1 _ _ hg
          have f2 := frozen_of_row _ w.heap.size 2 _ _ hg
          have HG := Lib.hid hg
          clear hg hb1
          go_wp2
          exact bodyPost_ret (resPR (set3 HG.out _ _ _) _ rfl) rfl ⟨HAN.out, below_set3 hB1 (Nat.le_refl _) _ _ _⟩
        · have h0' : ((s.size : Int) == 0) = false := by rw [beq_eq_false_iff_ne]; omega
          have hsz : 0 < s.size := by omega
          have hh := head_at s hsz
          have h34 : s[0].toNat ≠ 34 := by
            intro h
            rcases hq with hq | hq
            · omega
            · exact hq (hh.trans (UInt8.toNat_inj.mp h))
          have b34 : ((s[0].toNat : Int) == 34) = false := beqF h34
          clear hq hh h34
          go_enter Tryd.func23, Tryd.ntmps23
          go_wp2_with fail
          refine HNU.out.mono ?_
          rintro e w1 ⟨rfl, hb1⟩
          have hg := FIN.out w1 hb1
          have hB1 := HBZ.out.trans (hb1.mono HBZ.out.size)
          have e0 := cell_of_row _ w.heap.size 0 _ _ _ hg
          have e1 := cell_of_row _ w.heap.size 1 _ _ _ hg
          have e2 := cell_of_row _ w.heap.size 2 _ _ _ hg
          have f0 := frozen_of_row _ w.heap.size 0 _ _ hg
          have f1 := frozen_of_row _ w.heap.size 1 _ _ hg
          have f2 := frozen_of_row _ w.heap.size 2 _ _ hg
          have HG := Lib.hid hg
          clear hg hb1
          go_wp2
          exact bodyPost_ret (resPR (set3 HG.out _ _ _) _ rfl) rfl ⟨HAN.out, below_set3 hB1 (Nat.le_refl _) _ _ _⟩
      · have hO2 := hO.trans (if_neg hq)
        have hsz : 0 < s.size := by
          rcases Nat.eq_zero_or_pos s.size with h | h
          · exact absurd (.inl (by omega)) hq
          · exact h
        have hh := head_at s hsz
        have h34 : s[0].toNat = 34 := by
          by_cases h : s.data.toList.headD 0 = 34
          · rw [← hh, h]; rfl
          · exact absurd (.inr h) hq
        have h0' : ((s.size : Int) == 0) = false := by rw [beq_eq_false_iff_ne]; omega
        have b34 : ((s[0].toNat : Int) != 34) = false := by rw [bne, show ((s[0].toNat : Int) == 34) = true from beqT h34]; rfl
        obtain ⟨PX, hPX⟩ : ∃ PX, PX = pR s.size (s.data.toList.drop 1) [] := ⟨_, rfl⟩
        have hno : PX = none → ansP s.data.toList (.returned (.tuple #[.agg #[.int .i64 0, .int .i64 0, .string ⟨#[]⟩], .bool false])) := by
          intro h
          have hr : refO s.data.toList = none := by rw [hO2, hl, ← hPX, h]
          exact ⟨0, 0, ⟨#[]⟩, by rw [hr]; rfl, fun u hu => by rw [hr] at hu; cases hu⟩
        have hyes : ∀ T R, PX = some (T, R) → ansP s.data.toList (.returned (.tuple #[.agg #[.int .i64 2, .int .i64 0, .string ⟨T.toArray⟩], .bool (decide (R = []) && decide (ctN ⟨T.toArray⟩ = 0))])) := by
          intro T R h
          have hr : refO s.data.toList = if R = [] then (if ctN ⟨T.toArray⟩ = 0 then some ⟨2, 0, ⟨T.toArray⟩⟩ else none) else none := by
            rw [hO2, hl, ← hPX, h]
            cases R with
            | nil => rfl
            | cons a b => rw [if_neg (by simp)]
          refine ⟨2, 0, ⟨T.toArray⟩, ?_, fun u hu => ?_⟩
          · rw [hr]
            by_cases h1 : R = []
            · rw [if_pos h1, decide_eq_true h1]
              by_cases h2 : ctN ⟨T.toArray⟩ = 0
              · rw [if_pos h2, decide_eq_true h2]; rfl
              · rw [if_neg h2, decide_eq_false h2]; rfl
            · rw [if_neg h1, decide_eq_false h1]; rfl
          · rw [hr] at hu
            split at hu
            · split at hu
              · injection hu
              · cases hu
            · cases hu
        have HNO := Lib.hid hno
        have HYES := Lib.hid hyes
        have HPX := Lib.hid hPX
        have HZ := Lib.hid hZ
        have HBZ := Lib.hid hBZ
        clear hno hyes hPX hO2 hO hZ hBZ ht hf hq hh h34
        go_enter Tryd.func23, Tryd.ntmps23
        go_wp2_with fail
        go_loopw [4, 5] (fun tv iv wr => ∃ (i f : Nat) (T : List UInt8), tv = .string ⟨T.toArray⟩ ∧ iv = .int .i64 (i : Int) ∧ 1 ≤ i ∧ i ≤ s.size ∧ s.size < i + f ∧ T.length ≤ 4 * i ∧ pR f (s.data.toList.drop i) T = PX ∧ Below w.heap.size w wr ∧ wr.heap[w.heap.size]? = some (.cells #[.int .i64 0, .int .i64 0, .string ⟨#[]⟩] 23 (0, 0))) (fun _ iv _ => s.size - (intOf iv).toNat)
        case atStart => exact ⟨1, s.size, [], rfl, rfl, by omega, by omega, by omega, by simp, HPX.out.symm, HBZ.out, HZ.out⟩
        case round =>
          clear HZ HBZ HPX
          obtain ⟨i, f, T, rfl, rfl, hi1, his, hf, hTl, hg, hb, hgw⟩ := hrel
          have hws : w.heap.size < wr.heap.size := by
            rcases Nat.lt_or_ge w.heap.size wr.heap.size with h | h
            · exact h
            · rw [Array.getElem?_eq_none (by omega)] at hgw; cases hgw
          have HG := Lib.hid hg
          clear hg
          obtain ⟨f, rfl⟩ : ∃ g, f = g + 1 := ⟨f - 1, by omega⟩
          by_cases hi2 : i < s.size
          · have hst : pR (f + 1) (s.data.toList.drop i) T = if s[i] = 34 then some (T, s.data.toList.drop (i + 1)) else if (stepB (s.data.toList.drop i)).2 = 0 then none else pR f ((s.data.toList.drop i).drop (stepB (s.data.toList.drop i)).2) (T ++ Lib.encodeRune ((stepB (s.data.toList.drop i)).1 : Int)) := by
              rw [byte_drop s i hi2, pR]
            rw [HG.out] at hst
            have HST := Lib.hid hst
            clear hst HG
            by_cases c34 : s[i] = 34
            · have hPX := HST.out.trans (if_pos c34)
              have hans := HYES.out T _ hPX
              have hR : (s.data.toList.drop (i + 1) = []) ↔ ((i : Int) = (s.size : Int) - 1) := by
                rw [List.drop_eq_nil_iff, hl]; omega
              have b34' : ((s[i].toNat : Int) == 34) = true := beqT (show s[i].toNat = 34 by rw [c34]; rfl)
              have HANS := Lib.hid hans
              have HRR := Lib.hid hR
              clear hPX hans hR HST HNO HYES c34
              have hgv := heap_alloc_new wr (.cells #[.int .i64 2, .int .i64 0, .string ⟨T.toArray⟩] 23)
              have hgz := at_old hgw (.cells #[.int .i64 2, .int .i64 0, .string ⟨T.toArray⟩] 23) hws
              have hBv := hb.alloc hb.size (.cells #[.int .i64 2, .int .i64 0, .string ⟨T.toArray⟩] 23)
              have hck := fun W => refCheck_any ⟨2, 0, ⟨T.toArray⟩⟩ W ⟨by show T.toArray.size ≤ 140737488355328; rw [List.size_toArray]; omega, by show (-9223372036854775808 : Int) ≤ 0; omega, by show (0 : Int) ≤ 9223372036854775807; omega⟩
              rw [ckR_eq, show ckN ⟨2, 0, ⟨T.toArray⟩⟩ = ctN ⟨T.toArray⟩ from by unfold ckN; simp] at hck
              simp only [VVal.cells] at hck
              obtain ⟨cc, hcc⟩ : ∃ c, c = ctN ⟨T.toArray⟩ := ⟨_, rfl⟩
              rw [← hcc] at hck HANS
              have HCK := Lib.hid hck
              have hzv : wr.heap.size < (wr.alloc (.cells #[.int .i64 2, .int .i64 0, .string ⟨T.toArray⟩] 23)).heap.size := by simp
              obtain ⟨W, hW⟩ : ∃ W, W = wr.alloc (.cells #[.int .i64 2, .int .i64 0, .string ⟨T.toArray⟩] 23) := ⟨_, rfl⟩
              have hKS : ∀ w', Below W.heap.size W w' → (w'.cell? ⟨wr.heap.size, 0, none⟩ = some (.int .i64 2) ∧ w'.cell? ⟨wr.heap.size, 1, none⟩ = some (.int .i64 0) ∧ w'.cell? ⟨wr.heap.size, 2, none⟩ = some (.string ⟨T.toArray⟩) ∧ w'.cell? ⟨w.heap.size, 0, none⟩ = some (.int .i64 0) ∧ w'.cell? ⟨w.heap.size, 1, none⟩ = some (.int .i64 0) ∧ w'.cell? ⟨w.heap.size, 2, none⟩ = some (.string ⟨#[]⟩) ∧ w'.frozen? ⟨w.heap.size, 0, none⟩ = false ∧ w'.frozen? ⟨w.heap.size, 1, none⟩ = false ∧ w'.frozen? ⟨w.heap.size, 2, none⟩ = false) := fun w' h =>
                have gv := (h.block wr.heap.size (by rw [hW]; exact hzv)).trans (by rw [hW]; exact hgv)
                have gz := (h.block w.heap.size (by rw [hW]; exact Nat.lt_trans hws hzv)).trans (by rw [hW]; exact hgz)
                ⟨cell_of_row w' wr.heap.size 0 _ _ _ gv, cell_of_row w' wr.heap.size 1 _ _ _ gv, cell_of_row w' wr.heap.size 2 _ _ _ gv, cell_of_row w' w.heap.size 0 _ _ _ gz, cell_of_row w' w.heap.size 1 _ _ _ gz, cell_of_row w' w.heap.size 2 _ _ _ gz, frozen_of_row w' w.heap.size 0 _ _ gz, frozen_of_row w' w.heap.size 1 _ _ gz, frozen_of_row w' w.heap.size 2 _ _ gz⟩
              have KS := Lib.hid hKS
              have hgW : ∀ w', Below W.heap.size W w' → w'.heap[w.heap.size]? = some (.cells #[.int .i64 0, .int .i64 0, .string ⟨#[]⟩] 23 (0, 0)) := fun w' h => (h.block w.heap.size (by rw [hW]; exact Nat.lt_trans hws hzv)).trans (by rw [hW]; exact hgz)
              have HGW := Lib.hid hgW
              rw [← hW] at hBv
              have HBV := Lib.hid hBv
              clear hck hcc hKS hgW hgv hgz hgw hzv hBv
              go_upto_region 12 with fail
              rw [← hW]
              clear hW
              by_cases hlast : s.data.toList.drop (i + 1) = []
              · have hi9 := HRR.out.mp hlast
                have bi : ((i : Int) == IntKind.i64.wrap ((s.size : Int) - 1)) = true := by rw [beq_iff_eq, IntKind.wrap_i64]; omega
                rw [decide_eq_true hlast] at HANS
                clear hlast hi9 HRR
                go_region_held (fun w' => (w'.cell? ⟨wr.heap.size, 0, none⟩ = some (.int .i64 2) ∧ w'.cell? ⟨wr.heap.size, 1, none⟩ = some (.int .i64 0) ∧ w'.cell? ⟨wr.heap.size, 2, none⟩ = some (.string ⟨T.toArray⟩)))
                  (first
                    | exact ⟨(KS.out _ (Below.refl _ _).drew).1, (KS.out _ (Below.refl _ _).drew).2.1, (KS.out _ (Below.refl _ _).drew).2.2.1⟩
                    | exact ⟨(KS.out _ hB3).1, (KS.out _ hB3).2.1, (KS.out _ hB3).2.2.1⟩
                    | exact ⟨(set3_cell (Nat.ne_of_gt hws) _ _ _ _ ()).trans (KS.out _ hB3).1, (set3_cell (Nat.ne_of_gt hws) _ _ _ _ ()).trans (KS.out _ hB3).2.1, (set3_cell (Nat.ne_of_gt hws) _ _ _ _ ()).trans (KS.out _ hB3).2.2.1⟩
                    | assumption)
                  (first | (go_at_call 12; (with_reducible refine (HCK.out W.drew).mono ?_); rintro e w3 ⟨rfl, hb3⟩; have hB3 : Below W.heap.size W w3 := (Below.refl _ _).drew.trans hb3; obtain ⟨d0, d1, d2, e0, e1, e2, f0, f1, f2⟩ := KS.out w3 hB3))
                all_goals
                  go_wp2
                  refine bodyPost_ret (resPR (set3 (HGW.out w3 hB3) _ _ _) _ rfl) rfl ⟨?_, below_set3 (HBV.out.trans (hB3.mono HBV.out.size)) (Nat.le_refl _) _ _ _⟩
                  have hfin : (true && decide (cc = 0)) = ((cc : Int) == 0) := by
                    by_cases h : cc = 0
                    · rw [h]; rfl
                    · rw [decide_eq_false h, show ((cc : Int) == 0) = false from beqF h]; rfl
                  have := HANS.out
                  rw [hfin] at this
                  exact this
              · have bi : ((i : Int) == IntKind.i64.wrap ((s.size : Int) - 1)) = false := by
                  rw [beq_eq_false_iff_ne, IntKind.wrap_i64]
                  intro h
                  exact hlast (HRR.out.mpr (by omega))
                rw [decide_eq_false hlast] at HANS
                clear hlast HRR
                obtain ⟨d0, d1, d2, e0, e1, e2, f0, f1, f2⟩ := KS.out W (Below.refl _ _)
                go_region_with (fail)
                all_goals
                  go_wp2
                  refine bodyPost_ret (resPR (set3 (w := W.drew) (HGW.out W.drew (Below.refl _ _).drew) _ _ _) _ rfl) rfl ⟨?_, below_set3 (HBV.out.trans ((Below.refl W.heap.size W).drew.mono HBV.out.size)) (Nat.le_refl _) _ _ _⟩
                  exact HANS.out
            · have h34n : s[i].toNat ≠ 34 := fun h => c34 (UInt8.toNat_inj.mp h)
              have b34' : ((s[i].toNat : Int) == 34) = false := beqF h34n
              have HST2 := Lib.hid (HST.out.trans (if_neg c34))
              have hne : s.data.toList.drop i ≠ [] := by rw [byte_drop s i hi2]; simp
              have hgd := stepB_good (s.data.toList.drop i) hne (by rw [byte_drop s i hi2]; exact c34)
              have hsb : stepB (s.data.toList.drop i) = if s[i] = 92 then escL (s.data.toList.drop (i + 1)) else if ((Lib.decodeL (s.data.toList.drop i)).1 = 65533 ∧ (Lib.decodeL (s.data.toList.drop i)).2 = 1) ∨ (Lib.decodeL (s.data.toList.drop i)).1 < 32 ∨ (Lib.decodeL (s.data.toList.drop i)).1 = 127 then (0, 0) else Lib.decodeL (s.data.toList.drop i) := by
                unfold stepB
                rw [byte_drop s i hi2]
                rfl
              have hruw := refRune_any s i wr (by omega)
              have hrd := rune_dec s i hi2
              rw [← Lib.decodeL_drop] at hrd
              obtain ⟨⟨rz, rn⟩, hru⟩ : ∃ p, p = runeR s i := ⟨_, rfl⟩
              rw [← hru] at hruw hrd
              have HRU := Lib.hid hruw
              have hesc := refEscape_any s i wr (by omega) hi2
              obtain ⟨⟨n, z⟩, hP⟩ : ∃ p, p = stepB (s.data.toList.drop i) := ⟨_, rfl⟩
              rw [← hP] at hgd hsb HST2
              simp only at hgd HST2
              clear HST hruw hru c34 h34n
              have hnone : z = 0 → Hid (ansP s.data.toList (.returned (.tuple #[.agg #[.int .i64 0, .int .i64 0, .string ⟨#[]⟩], .bool false]))) := fun h => Lib.hid (HNO.out (HST2.out.trans (if_pos h)))
              by_cases c92 : s[i] = 92
              · have b92 : ((s[i].toNat : Int) == 92) = true := beqT (show s[i].toNat = 92 by rw [c92]; rfl)
                rw [if_pos c92] at hsb
                rw [← hsb] at hesc
                have HES := Lib.hid hesc
                clear hesc hrd c92 hsb hP
                by_cases hz : z = 0
                · have HNON := hnone hz
                  subst hz
                  clear hnone hgd HST2 HNO HYES
                  have e0 := cell_of_row _ w.heap.size 0 _ _ _ hgw
                  have e1 := cell_of_row _ w.heap.size 1 _ _ _ hgw
                  have e2 := cell_of_row _ w.heap.size 2 _ _ _ hgw
                  have f0 := frozen_of_row _ w.heap.size 0 _ _ hgw
                  have f1 := frozen_of_row _ w.heap.size 1 _ _ hgw
                  have f2 := frozen_of_row _ w.heap.size 2 _ _ hgw
                  have HGW := Lib.hid hgw
                  clear hgw
                  go_wp2_with (first
                    | (go_at_call 37; (with_reducible refine HRU.out.mono ?_); rintro e w' ⟨rfl, rfl⟩)
                    | (go_at_call 42; (with_reducible refine HES.out.mono ?_); rintro e w' ⟨rfl, rfl⟩))
                  exact bodyPost_ret (resPR (set3 HGW.out _ _ _) _ rfl) rfl ⟨HNON.out, below_set3 hb (Nat.le_refl _) _ _ _⟩
                · have hz' : ((z : Int) == 0) = false := beqF hz
                  have HNX := Lib.hid (HST2.out.trans (if_neg hz))
                  obtain ⟨ws, y, g1, g2, gI⟩ := hgd hz
                  have hiz : i + z ≤ s.size := by
                    have := congrArg List.length g1
                    rw [List.length_drop, List.length_append, hl] at this
                    omega
                  have hz1 : 1 ≤ z := by omega
                  rw [List.drop_drop] at HNX
                  clear hnone HST2 hgd g1 g2
                  have hok := gI.1
                  obtain ⟨R, hR⟩ : ∃ R, R = Lib.encodeRune (n : Int) := ⟨_, rfl⟩
                  have hRl : R.length ≤ 4 := by rw [hR]; exact (encR_pos _).2
                  have hby := refBytes_any n wr hok
                  rw [← hR] at hby HNX
                  have HBY := Lib.hid hby
                  have hcat : ¬ 9223372036854775807 < (⟨T.toArray⟩ : ByteArray).size + (⟨R.toArray⟩ : ByteArray).size := by
                    show ¬ 9223372036854775807 < T.toArray.size + R.toArray.size
                    rw [List.size_toArray, List.size_toArray]; omega
                  have hap := bs_app T R
                  obtain ⟨T2, hT2⟩ : ∃ T2, T2 = T ++ R := ⟨_, rfl⟩
                  rw [← hT2] at hap HNX
                  have hT2l : T2.length ≤ T.length + 4 := by rw [hT2, List.length_append]; omega
                  clear hby hR hT2 gI hok
                  go_wp2_with (first
                    | (go_at_call 37; (with_reducible refine HRU.out.mono ?_); rintro e w' ⟨rfl, rfl⟩)
                    | (go_at_call 42; (with_reducible refine HES.out.mono ?_); rintro e w' ⟨rfl, rfl⟩)
                    | (go_at_call 28; (with_reducible refine HBY.out.mono ?_); rintro e w2 ⟨rfl, hb2⟩))
                  go_roundw
                  case rel => exact ⟨i + z, f, T2, rfl, by go_num, by omega, by omega, by omega, by omega, HNX.out.symm, hb.trans (hb2.mono hb.size), (hb2.block w.heap.size hws).trans hgw⟩
                  case measure => simp [intOf]; omega
              · have b92 : ((s[i].toNat : Int) == 92) = false := beqF (show s[i].toNat ≠ 92 from fun h => c92 (UInt8.toNat_inj.mp h))
                rw [if_neg c92] at hsb
                clear hesc c92
                rcases hrd with ⟨hd1, hd2⟩ | ⟨hd1, hd2⟩
                · rw [hd1, if_pos (.inl ⟨rfl, rfl⟩)] at hsb
                  injection hsb with hs1 hs2
                  injection hd2 with hr1 hr2
                  have HNON := hnone hs2
                  subst hr1 hr2
                  clear hnone hgd HST2 HNO HYES hd1 hP hs1 hs2
                  have e0 := cell_of_row _ w.heap.size 0 _ _ _ hgw
                  have e1 := cell_of_row _ w.heap.size 1 _ _ _ hgw
                  have e2 := cell_of_row _ w.heap.size 2 _ _ _ hgw
                  have f0 := frozen_of_row _ w.heap.size 0 _ _ hgw
                  have f1 := frozen_of_row _ w.heap.size 1 _ _ hgw
                  have f2 := frozen_of_row _ w.heap.size 2 _ _ hgw
                  have HGW := Lib.hid hgw
                  clear hgw
                  go_wp2_with (go_at_call 37; (with_reducible refine HRU.out.mono ?_); rintro e w' ⟨rfl, rfl⟩)
                  exact bodyPost_ret (resPR (set3 HGW.out _ _ _) _ rfl) rfl ⟨HNON.out, below_set3 hb (Nat.le_refl _) _ _ _⟩
                · obtain ⟨⟨dn, dz⟩, hdd⟩ : ∃ p, p = Lib.decodeL (s.data.toList.drop i) := ⟨_, rfl⟩
                  rw [← hdd] at hsb hd1 hd2
                  simp only at hsb hd1 hd2
                  injection hd1 with hr1 hr2
                  subst hr1 hr2
                  clear hdd hP
                  by_cases hlow : rn < 32
                  · have hlow' : (rn : Int) < 32 := by omega
                    rw [if_pos (.inr (.inl hlow))] at hsb
                    injection hsb with hs1 hs2
                    have HNON := hnone hs2
                    clear hnone hgd HST2 HNO HYES hd2 hs1 hs2
                    have e0 := cell_of_row _ w.heap.size 0 _ _ _ hgw
                    have e1 := cell_of_row _ w.heap.size 1 _ _ _ hgw
                    have e2 := cell_of_row _ w.heap.size 2 _ _ _ hgw
                    have f0 := frozen_of_row _ w.heap.size 0 _ _ hgw
                    have f1 := frozen_of_row _ w.heap.size 1 _ _ hgw
                    have f2 := frozen_of_row _ w.heap.size 2 _ _ hgw
                    have HGW := Lib.hid hgw
                    clear hgw
                    go_wp2_with (go_at_call 37; (with_reducible refine HRU.out.mono ?_); rintro e w' ⟨rfl, rfl⟩)
                    exact bodyPost_ret (resPR (set3 HGW.out _ _ _) _ rfl) rfl ⟨HNON.out, below_set3 hb (Nat.le_refl _) _ _ _⟩
                  · have hlow' : ¬ (rn : Int) < 32 := by omega
                    by_cases h127 : rn = 127
                    · rw [if_pos (.inr (.inr h127))] at hsb
                      injection hsb with hs1 hs2
                      have HNON := hnone hs2
                      have b127 : ((rn : Int) == 127) = true := beqT h127
                      clear hnone hgd HST2 HNO HYES hd2 hs1 hs2
                      have e0 := cell_of_row _ w.heap.size 0 _ _ _ hgw
                      have e1 := cell_of_row _ w.heap.size 1 _ _ _ hgw
                      have e2 := cell_of_row _ w.heap.size 2 _ _ _ hgw
                      have f0 := frozen_of_row _ w.heap.size 0 _ _ hgw
                      have f1 := frozen_of_row _ w.heap.size 1 _ _ hgw
                      have f2 := frozen_of_row _ w.heap.size 2 _ _ hgw
                      have HGW := Lib.hid hgw
                      clear hgw
                      go_wp2_with (go_at_call 37; (with_reducible refine HRU.out.mono ?_); rintro e w' ⟨rfl, rfl⟩)
                      exact bodyPost_ret (resPR (set3 HGW.out _ _ _) _ rfl) rfl ⟨HNON.out, below_set3 hb (Nat.le_refl _) _ _ _⟩
                    · have b127 : ((rn : Int) == 127) = false := beqF h127
                      rw [if_neg (by
                        rintro (h | h | h)
                        · exact hd2 h
                        · exact hlow h
                        · exact h127 h)] at hsb
                      injection hsb with hs1 hs2
                      subst hs1 hs2
                      by_cases hz : z = 0
                      · have HNON := hnone hz
                        subst hz
                        clear hnone hgd HST2 HNO HYES hd2
                        have e0 := cell_of_row _ w.heap.size 0 _ _ _ hgw
                        have e1 := cell_of_row _ w.heap.size 1 _ _ _ hgw
                        have e2 := cell_of_row _ w.heap.size 2 _ _ _ hgw
                        have f0 := frozen_of_row _ w.heap.size 0 _ _ hgw
                        have f1 := frozen_of_row _ w.heap.size 1 _ _ hgw
                        have f2 := frozen_of_row _ w.heap.size 2 _ _ hgw
                        have HGW := Lib.hid hgw
                        clear hgw
                        go_wp2_with (go_at_call 37; (with_reducible refine HRU.out.mono ?_); rintro e w' ⟨rfl, rfl⟩)
                        exact bodyPost_ret (resPR (set3 HGW.out _ _ _) _ rfl) rfl ⟨HNON.out, below_set3 hb (Nat.le_refl _) _ _ _⟩
                      · have hz' : ((z : Int) == 0) = false := beqF hz
                        have HNX := Lib.hid (HST2.out.trans (if_neg hz))
                        obtain ⟨ws, y, g1, g2, gI⟩ := hgd hz
                        have hiz : i + z ≤ s.size := by
                          have := congrArg List.length g1
                          rw [List.length_drop, List.length_append, hl] at this
                          omega
                        have hz1 : 1 ≤ z := by omega
                        rw [List.drop_drop] at HNX
                        clear hnone HST2 hgd g1 g2 hd2
                        have hok := gI.1
                        obtain ⟨R, hR⟩ : ∃ R, R = Lib.encodeRune (n : Int) := ⟨_, rfl⟩
                        have hRl : R.length ≤ 4 := by rw [hR]; exact (encR_pos _).2
                        have hby := refBytes_any n wr hok
                        rw [← hR] at hby HNX
                        have HBY := Lib.hid hby
                        have hcat : ¬ 9223372036854775807 < (⟨T.toArray⟩ : ByteArray).size + (⟨R.toArray⟩ : ByteArray).size := by
                          show ¬ 9223372036854775807 < T.toArray.size + R.toArray.size
                          rw [List.size_toArray, List.size_toArray]; omega
                        have hap := bs_app T R
                        obtain ⟨T2, hT2⟩ : ∃ T2, T2 = T ++ R := ⟨_, rfl⟩
                        rw [← hT2] at hap HNX
                        have hT2l : T2.length ≤ T.length + 4 := by rw [hT2, List.length_append]; omega
                        clear hby hR hT2 gI hok
                        go_wp2_with (first
                          | (go_at_call 37; (with_reducible refine HRU.out.mono ?_); rintro e w' ⟨rfl, rfl⟩)
                          | (go_at_call 28; (with_reducible refine HBY.out.mono ?_); rintro e w2 ⟨rfl, hb2⟩))
                        go_roundw
                        case rel => exact ⟨i + z, f, T2, rfl, by go_num, by omega, by omega, by omega, by omega, HNX.out.symm, hb.trans (hb2.mono hb.size), (hb2.block w.heap.size hws).trans hgw⟩
                        case measure => simp [intOf]; omega
          · have hie : i = s.size := by omega
            have hPX : PX = none := by
              rw [← HG.out, List.drop_eq_nil_of_le (by omega)]; rfl
            have HNON := Lib.hid (HNO.out hPX)
            subst hie
            clear HG hPX HNO HYES
            have e0 := cell_of_row _ w.heap.size 0 _ _ _ hgw
            have e1 := cell_of_row _ w.heap.size 1 _ _ _ hgw
            have e2 := cell_of_row _ w.heap.size 2 _ _ _ hgw
            have f0 := frozen_of_row _ w.heap.size 0 _ _ hgw
            have f1 := frozen_of_row _ w.heap.size 1 _ _ hgw
            have f2 := frozen_of_row _ w.heap.size 2 _ _ hgw
            have HGW := Lib.hid hgw
            clear hgw
            go_wp2
            exact bodyPost_ret (resPR (set3 HGW.out _ _ _) _ rfl) rfl ⟨HNON.out, below_set3 hb (Nat.le_refl _) _ _ _⟩
end Go.Proofs.YtinhmchekdolmaaDoor
