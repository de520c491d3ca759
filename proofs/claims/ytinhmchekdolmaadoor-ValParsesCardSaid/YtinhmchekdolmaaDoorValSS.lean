/- The reference's number. -/
import Derived.Test.YtinhmchekdolmaaDoorProg
import Derived.Test.YtinhmchekdolmaaDoorValRR
import Derived.Test.YtinhmchekdolmaaDoorValZ
import Derived.Test.YtinhmchekdolmaaDoorValO
import Derived.Test.YtinhmchekdolmaaDoorValFF
import Derived.WalkKit
import Derived.WalkSpells
import Derived.WalkLawsBesides
import Derived.Deep.QuietTactic
import Derived.Deep.RegionHeld3
import Derived.Deep.CutBlock
import Derived.Deep.DeepCutAuto
import Derived.Deep.CutRange
import Derived.BigQuiet
import Derived.KernelRfl
import Derived.Lib.Hide
namespace Go.Proofs.YtinhmchekdolmaaDoor
open Go.RowKit

theorem resNM {w : World} {b : Nat} {v0 v1 v2 : Value} (h : w.heap[b]? = some (.cells #[v0, v1, v2] 23 (0, 0))) (tmps : Array Value) (h2 : tmps.getD 2 undef = .pointer (some ⟨b, 0, none⟩)) :
    (results Tryd.f41 tmps).run Tryd.prog w = .ok (.tuple #[.agg #[v0, v1, v2], tmps.getD 3 undef]) w := by
  have e0 : w.cell? ⟨b, 0, none⟩ = some v0 := cell_of_row w b 0 _ _ _ h
  have e1 : w.cell? ⟨b, 1, none⟩ = some v1 := cell_of_row w b 1 _ _ _ h
  have e2 : w.cell? ⟨b, 2, none⟩ = some v2 := cell_of_row w b 2 _ _ _ h
  have h2' := h2
  simp only [Array.getD_eq_getD_getElem?] at h2'
  simp [results, Tryd.results41, go_sem, h2', e0, e1, e2]
theorem ext1 (s : ByteArray) : s.extract 1 s.size = ⟨(s.data.toList.drop 1).toArray⟩ := by
  obtain ⟨⟨l⟩⟩ := s
  apply ByteArray.ext
  apply Array.ext'
  simp [ByteArray.size]
  exact List.take_of_length_le (by rw [List.length_tail]; omega)
theorem byte_drop (s : ByteArray) (i : Nat) (h : i < s.size) : s.data.toList.drop i = s[i] :: s.data.toList.drop (i + 1) := by
  obtain ⟨⟨l⟩⟩ := s
  exact List.drop_eq_getElem_cons h
theorem head_at (s : ByteArray) (h : 0 < s.size) : s.data.toList.headD 0 = s[0] := by
  obtain ⟨⟨l⟩⟩ := s
  cases l with
  | nil => exact absurd h (by decide)
  | cons a t => rfl

/-- What the reference's number answers. -/
def numO (l : List UInt8) : VVal := match numR l with
  | none => noV
  | some n => ⟨1, n, ⟨#[]⟩⟩

set_option maxRecDepth 100000 in
set_option maxHeartbeats 4000000 in
theorem refNumber_any (s : ByteArray) (w : World) (hs : s.size ≤ 140737488355328) :
    Calls Tryd.prog 41 #[.string s] w fun e w' => e = .returned (.tuple #[.agg (numO s.data.toList).cells, .bool (numR s.data.toList).isSome]) ∧ Below w.heap.size w w' := by
  have hZ := heap_alloc_new w (.cells #[.int .i64 0, .int .i64 0, .string ⟨#[]⟩] 23)
  have hBZ : Below w.heap.size w (w.alloc (.cells #[.int .i64 0, .int .i64 0, .string ⟨#[]⟩] 23)) := (Below.refl _ _).alloc (Nat.le_refl _) _
  have hl : s.data.toList.length = s.size := Array.length_toList
  obtain ⟨DS, hDS⟩ : ∃ DS : ByteArray, DS = ⟨(digsOf s.data.toList).toArray⟩ := ⟨_, rfl⟩
  have hDL : DS.data.toList = digsOf s.data.toList := by rw [hDS]
  have hDz : DS.size = (digsOf s.data.toList).length := by rw [hDS]; exact List.size_toArray
  have hOO : ∀ O, O = numR s.data.toList → O = if DS.size = 0 ∨ 19 < DS.size then none else match numF 0 DS.data.toList with
    | none => none
    | some n => if Lib.itoa (if DS.size = s.size then wrap64 (-n) else n) = s.data.toList then some (if DS.size = s.size then wrap64 (-n) else n) else none := by
    rintro O rfl
    unfold numR
    rw [hDL, hDz, hl]
    rfl
  have hO1 : ∀ O, O = numR s.data.toList → numO s.data.toList = match O with
    | none => noV
    | some n => ⟨1, n, ⟨#[]⟩⟩ := by rintro O rfl; rfl
  obtain ⟨O, hO⟩ : ∃ O, O = numR s.data.toList := ⟨_, rfl⟩
  rw [hO1 O hO, ← hO]
  have hO2 := hOO O hO
  have HO := Lib.hid hO2
  have HDS := Lib.hid hDS
  have HZ := Lib.hid hZ
  have HBZ := Lib.hid hBZ
  have HDL := Lib.hid hDL
  have hDs : DS.size ≤ s.size := by
    rw [hDz, ← hl]
    unfold digsOf
    split
    · rw [List.length_drop]; omega
    · omega
  clear hOO hO1 hO hO2 hDS hZ hBZ hDL hDz
  go_enter Tryd.func41, Tryd.ntmps41
  go_upto_region 2 with fail
  go_cut [16] (fun s16 wx => s16 = .bool (decide (s.data.toList.headD 0 = 45)) ∧ wx = w.alloc (.cells #[.int .i64 0, .int .i64 0, .string ⟨#[]⟩] 23))
  case first =>
    by_cases h0 : 0 < s.size
    · have hh := head_at s h0
      have h0' : (0 : Int) < (s.size : Int) := by omega
      by_cases h45 : s[0] = 45
      · have HQ := Lib.hid (show true = decide (s.data.toList.headD 0 = 45) from (decide_eq_true (hh.trans h45)).symm)
        have e45 : ((s[0].toNat : Int) == 45) = true := by rw [h45]; rfl
        clear hh h45
        go_wp2_with fail
        go_meet
        case rel => exact ⟨congrArg Value.bool HQ.out, rfl⟩
      · have HQ := Lib.hid (show false = decide (s.data.toList.headD 0 = 45) from (decide_eq_false (fun h => h45 (hh.symm.trans h))).symm)
        have e45 : ((s[0].toNat : Int) == 45) = false := by
          rw [beq_eq_false_iff_ne]
          intro h
          refine h45 (UInt8.toNat_inj.mp ?_)
          show s[0].toNat = 45
          omega
        clear hh h45
        go_wp2_with fail
        go_meet
        case rel => exact ⟨congrArg Value.bool HQ.out, rfl⟩
    · have h0' : ¬ (0 : Int) < (s.size : Int) := by omega
      have HQ := Lib.hid (show false = decide (s.data.toList.headD 0 = 45) by
        have : s.data.toList = [] := List.length_eq_zero_iff.mp (by omega)
        rw [this]; rfl)
      go_wp2_with fail
      go_meet
      case rel => exact ⟨congrArg Value.bool HQ.out, rfl⟩
  case rest =>
    obtain ⟨rfl, rfl⟩ := hcut
    go_upto_if 16 with fail
    go_cut [4] (fun s4 wx => s4 = .string DS ∧ wx = w.alloc (.cells #[.int .i64 0, .int .i64 0, .string ⟨#[]⟩] 23))
    case first =>
      by_cases hq : s.data.toList.headD 0 = 45
      · rw [decide_eq_true hq]
        have hne : 1 ≤ s.size := by
          rcases Nat.eq_zero_or_pos s.size with h | h
          · have : s.data.toList = [] := List.length_eq_zero_iff.mp (by omega)
            rw [this] at hq
            exact absurd hq (by decide)
          · exact h
        have hne' : (1 : Int) ≤ (s.size : Int) := by omega
        have hD : s.extract 1 s.size = DS := by
          rw [HDS.out, show digsOf s.data.toList = s.data.toList.drop 1 from if_pos hq]
          exact ext1 s
        clear hq
        go_wp2_with fail
        go_meet
        case rel => exact ⟨rfl, rfl⟩
      · rw [decide_eq_false hq]
        have HD := Lib.hid (show s = DS by rw [HDS.out, show digsOf s.data.toList = s.data.toList from if_neg hq])
        go_wp2_with fail
        go_meet
        case rel => exact ⟨congrArg Value.string HD.out, rfl⟩
    case rest =>
      obtain ⟨rfl, rfl⟩ := hcut
      by_cases hz : DS.size = 0
      · have hz' : ((DS.size : Int) == 0) = true := by rw [beq_iff_eq]; omega
        have hOn := HO.out.trans (if_pos (.inl hz))
        subst hOn
        clear HO
        go_wp2
        exact bodyPost_ret (resNM HZ.out _ rfl) rfl ⟨rfl, HBZ.out⟩
      · have hz' : ((DS.size : Int) == 0) = false := by rw [beq_eq_false_iff_ne]; omega
        by_cases h19 : 19 < DS.size
        · have h19' : (19 : Int) < (DS.size : Int) := by omega
          have hOn := HO.out.trans (if_pos (.inr h19))
          subst hOn
          clear HO
          go_wp2
          exact bodyPost_ret (resNM HZ.out _ rfl) rfl ⟨rfl, HBZ.out⟩
        · have h19' : ¬ (19 : Int) < (DS.size : Int) := by omega
          have HO2 := Lib.hid (HO.out.trans (if_neg (by omega)))
          clear HO
          go_wp2_with fail
          go_loop [5, 6] (fun nv iv => ∃ (n : Int) (i : Nat), nv = .int .i64 n ∧ iv = .int .i64 (i : Int) ∧ i ≤ DS.size ∧ -9223372036854775808 ≤ n ∧ n ≤ 9223372036854775807 ∧ numF n (DS.data.toList.drop i) = numF 0 DS.data.toList) (fun _ iv => DS.size - (intOf iv).toNat)
          case atStart => exact ⟨0, 0, rfl, rfl, by omega, by omega, by omega, rfl⟩
          case round =>
            obtain ⟨n, i, rfl, rfl, hi, hn0, hn1, hg⟩ := hrel
            have HG := Lib.hid hg
            clear hg
            by_cases hi2 : i < DS.size
            · have hst : numF n (DS.data.toList.drop i) = if DS[i].toNat < 48 ∨ 57 < DS[i].toNat then none else if n < lowQ (DS[i].toNat - 48) then none else numF (wrap64 (wrap64 (n * 10) - ((DS[i].toNat - 48 : Nat) : Int))) (DS.data.toList.drop (i + 1)) := by
                rw [byte_drop DS i hi2, numF]
              rw [HG.out] at hst
              have HST := Lib.hid hst
              clear hst HG
              by_cases hb : DS[i].toNat < 48 ∨ 57 < DS[i].toNat
              · have hN := HST.out.trans (if_pos hb)
                rw [hN] at HO2
                have hOn := HO2.out
                subst hOn
                clear HO2 HST hN
                rcases hb with hb | hb
                · have hb' : ((DS[i].toNat : Nat) : Int) < 48 := by omega
                  go_wp2
                  exact bodyPost_ret (resNM HZ.out _ rfl) rfl ⟨rfl, HBZ.out⟩
                · have hb' : ¬ ((DS[i].toNat : Nat) : Int) < 48 := by omega
                  have hb2 : (57 : Int) < ((DS[i].toNat : Nat) : Int) := by omega
                  go_wp2
                  exact bodyPost_ret (resNM HZ.out _ rfl) rfl ⟨rfl, HBZ.out⟩
              · have hb' : ¬ ((DS[i].toNat : Nat) : Int) < 48 := by omega
                have hb2 : ¬ (57 : Int) < ((DS[i].toNat : Nat) : Int) := by omega
                have HS2 := HST.out.trans (if_neg hb)
                obtain ⟨d, hd⟩ : ∃ d, d = DS[i].toNat - 48 := ⟨_, rfl⟩
                have hd9 : d ≤ 9 := by omega
                have hdd : ((DS[i].toNat : Nat) : Int) - 48 = (d : Int) := by omega
                rw [← hd] at HS2
                obtain ⟨Q, hQ⟩ : ∃ Q : Int, Q = (-(9223372036854775807 - (d : Int))).tdiv 10 := ⟨_, rfl⟩
                have hlq : lowQ d = Q - 1 := by unfold lowQ; rw [hQ]
                have hQb : -922337203685477580 ≤ Q ∧ Q ≤ -922337203685477579 := by
                  have := lowQ_eq d hd9
                  rw [hlq] at this
                  split at this <;> omega
                obtain ⟨hQ1, hQ2⟩ := hQb
                rw [hlq] at HS2
                have hQe := hQ.symm
                have HS3 := Lib.hid HS2
                clear HS2 HST hlq hQ hd hb
                by_cases hlow : n < Q - 1
                · have hN := HS3.out.trans (if_pos hlow)
                  rw [hN] at HO2
                  have hOn := HO2.out
                  subst hOn
                  clear HO2 HS3 hN
                  go_wp2
                  exact bodyPost_ret (resNM HZ.out _ rfl) rfl ⟨rfl, HBZ.out⟩
                · have HS4 := Lib.hid (HS3.out.trans (if_neg hlow))
                  clear HS3
                  go_wp2
                  go_round
                  case rel => exact ⟨wrap64 (wrap64 (n * 10) - (d : Int)), i + 1, rfl, by go_num, by omega, by unfold wrap64; omega, by unfold wrap64; omega, HS4.out.symm⟩
                  case measure => simp [intOf]; omega
            · have hie : i = DS.size := by omega
              have hl2 : DS.data.toList.length = DS.size := Array.length_toList
              have hX : numF 0 DS.data.toList = some n := by
                rw [← HG.out, List.drop_eq_nil_of_le (by omega)]; rfl
              have hO3 := HO2.out
              rw [hX] at hO3
              simp only at hO3
              subst hie
              clear HG HO2 hX
              obtain ⟨m, hm⟩ : ∃ m, m = (if DS.size = s.size then wrap64 (-n) else n) := ⟨_, rfl⟩
              rw [← hm] at hO3
              have hmb : -9223372036854775808 ≤ m ∧ m ≤ 9223372036854775807 := by
                rw [hm]
                split
                · unfold wrap64; omega
                · omega
              have hdc := fun W => digits_any m W hmb.1 hmb.2
              have HDC := Lib.hid hdc
              have HO3 := Lib.hid hO3
              have HM := Lib.hid hm
              clear hdc hO3 hm
              by_cases heq : DS.size = s.size
              · have heq' : ((DS.size : Int) == (s.size : Int)) = true := by rw [beq_iff_eq]; omega
                have hme : wrap64 (-n) = m := by rw [HM.out, if_pos heq]
                clear heq HM hmb
                go_wp2_with fail
                refine (HDC.out _).mono ?_
                rintro e w3 ⟨rfl, hb3⟩
                have hg3 := (hb3.block w.heap.size (by simp)).trans HZ.out
                have hB3 := HBZ.out.trans (hb3.mono HBZ.out.size)
                have e0 := cell_of_row _ w.heap.size 0 _ _ _ hg3
                have e1 := cell_of_row _ w.heap.size 1 _ _ _ hg3
                have e2 := cell_of_row _ w.heap.size 2 _ _ _ hg3
                have f0 := frozen_of_row _ w.heap.size 0 _ _ hg3
                have f1 := frozen_of_row _ w.heap.size 1 _ _ hg3
                have f2 := frozen_of_row _ w.heap.size 2 _ _ hg3
                have HG3 := Lib.hid hg3
                clear hg3 hb3 HDC
                by_cases hit : Lib.itoa m = s.data.toList
                · have hOn := HO3.out.trans (if_pos hit)
                  subst hOn
                  have hss : (⟨(Lib.itoa m).toArray⟩ : ByteArray) = s := by rw [hit]
                  clear HO3 hit
                  rw [hss]
                  go_wp2
                  exact bodyPost_ret (resNM (set3 HG3.out _ _ _) _ rfl) rfl ⟨rfl, below_set3 hB3 (Nat.le_refl _) _ _ _⟩
                · have hOn := HO3.out.trans (if_neg hit)
                  subst hOn
                  have hne : (Lib.itoa m == s.toList) = false := by rw [Lib.toList_data, beq_eq_false_iff_ne]; exact hit
                  clear HO3
                  go_wp2
                  exact bodyPost_ret (resNM (set3 HG3.out _ _ _) _ rfl) rfl ⟨rfl, below_set3 hB3 (Nat.le_refl _) _ _ _⟩
              · have heq' : ((DS.size : Int) == (s.size : Int)) = false := by rw [beq_eq_false_iff_ne]; omega
                have hme : m = n := by rw [HM.out, if_neg heq]
                subst hme
                clear heq HM hmb
                go_wp2_with fail
                refine (HDC.out _).mono ?_
                rintro e w3 ⟨rfl, hb3⟩
                have hg3 := (hb3.block w.heap.size (by simp)).trans HZ.out
                have hB3 := HBZ.out.trans (hb3.mono HBZ.out.size)
                have e0 := cell_of_row _ w.heap.size 0 _ _ _ hg3
                have e1 := cell_of_row _ w.heap.size 1 _ _ _ hg3
                have e2 := cell_of_row _ w.heap.size 2 _ _ _ hg3
                have f0 := frozen_of_row _ w.heap.size 0 _ _ hg3
                have f1 := frozen_of_row _ w.heap.size 1 _ _ hg3
                have f2 := frozen_of_row _ w.heap.size 2 _ _ hg3
                have HG3 := Lib.hid hg3
                clear hg3 hb3 HDC
                by_cases hit : Lib.itoa m = s.data.toList
                · have hOn := HO3.out.trans (if_pos hit)
                  subst hOn
                  have hss : (⟨(Lib.itoa m).toArray⟩ : ByteArray) = s := by rw [hit]
                  clear HO3 hit
                  rw [hss]
                  go_wp2
                  exact bodyPost_ret (resNM (set3 HG3.out _ _ _) _ rfl) rfl ⟨rfl, below_set3 hB3 (Nat.le_refl _) _ _ _⟩
                · have hOn := HO3.out.trans (if_neg hit)
                  subst hOn
                  have hne : (Lib.itoa m == s.toList) = false := by rw [Lib.toList_data, beq_eq_false_iff_ne]; exact hit
                  clear HO3
                  go_wp2
                  exact bodyPost_ret (resNM (set3 HG3.out _ _ _) _ rfl) rfl ⟨rfl, below_set3 hB3 (Nat.le_refl _) _ _ _⟩
end Go.Proofs.YtinhmchekdolmaaDoor
