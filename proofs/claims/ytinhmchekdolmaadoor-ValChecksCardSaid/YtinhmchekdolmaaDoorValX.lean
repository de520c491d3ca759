/- strings.Clone, val.Cut, the reference's Cut. -/
import Derived.Test.YtinhmchekdolmaaDoorProg
import Derived.Test.YtinhmchekdolmaaDoorValD
import Derived.Test.YtinhmchekdolmaaDoorValW
import Derived.WalkKit
import Derived.WalkSpells
import Derived.WalkLawsBesides
import Derived.Lib.OthersKept
import Derived.Lib.RuneCount
import Derived.Deep.QuietTactic
import Derived.BigQuiet
import Derived.KernelRfl
import Derived.Lib.Hide
namespace Go.Proofs.YtinhmchekdolmaaDoor
open Go.RowKit

set_option maxRecDepth 100000 in
theorem sclone_any (s : ByteArray) (w : World) (hs : s.size ≤ 281474976710656) :
    Calls Tryd.prog 46 #[.string s] w fun e w' => e = .returned (.string s) ∧ Below w.heap.size w w' := by
  have HS := Lib.hid (Tryd.stringslite_Clone s w hs)
  go_enter Tryd.func46, Tryd.ntmps46
  go_wp2_with (go_at_call 61; (with_reducible refine HS.out.mono ?_); rintro e w' ⟨rfl, hb⟩)
  go_ret
  exact ⟨rfl, hb⟩

theorem drop_end (s : ByteArray) (pos : Nat) (h : s.size ≤ pos) : s.data.toList.drop pos = [] :=
  List.drop_eq_nil_of_le (by have hl : s.data.toList.length = s.size := Array.length_toList; omega)
theorem drop_ne (s : ByteArray) (pos : Nat) (h : pos < s.size) : s.data.toList.drop pos ≠ [] := by
  intro h0
  have hl : s.data.toList.length = s.size := Array.length_toList
  have := congrArg List.length h0
  rw [List.length_drop, hl] at this
  simp at this
  omega
theorem cutL_step (s : ByteArray) (pos m : Nat) (h : pos < s.size) : cutL (m + 1) (s.data.toList.drop pos) = (Utf8.decode s pos).2 + cutL m (s.data.toList.drop (pos + (Utf8.decode s pos).2)) := by
  rw [cutL, if_neg (drop_ne s pos h), Lib.decodeL_drop, List.drop_drop]

set_option maxRecDepth 100000 in
set_option maxHeartbeats 2000000 in
theorem cut_any (s : ByteArray) (n : Int) (w : World) (hs : s.size ≤ 140737488355328) (hn : n ≤ 9223372036854775807) (hT : Tabs w) :
    Calls Tryd.prog 26 #[.string s, .int .i64 n] w fun e w' => e = .returned (.tuple #[.string (cutV s n).1, .int .i64 ((cutV s n).2 : Int)]) ∧ Below w.heap.size w w' := by
  have hvs := validString_any s w (by omega) hT
  obtain ⟨X, hX⟩ : ∃ X, X = cutV s n := ⟨_, rfl⟩
  rw [← hX]
  unfold cutV at hX
  obtain ⟨b, hb⟩ : ∃ b, b = Lib.validD s.data.toList := ⟨_, rfl⟩
  rw [← hb] at hvs hX
  have HVS := Lib.hid hvs
  have HX := Lib.hid hX
  clear hvs hX hb hT
  rcases b with _ | _
  · have HXX := Lib.hid (HX.out.trans (if_pos rfl))
    clear HX
    go_enter Tryd.func26, Tryd.ntmps26
    go_wp2_with (go_at_call 45; (with_reducible refine HVS.out.mono ?_); rintro e w' ⟨rfl, hb⟩)
    go_ret2
    exact ⟨by rw [HXX.out]; rfl, hb⟩
  · have HX2 := Lib.hid (HX.out.trans (if_neg (by simp)))
    clear HX
    by_cases hn0 : n < 0
    · have HXX := Lib.hid (HX2.out.trans (if_pos hn0))
      clear HX2
      go_enter Tryd.func26, Tryd.ntmps26
      go_wp2_with (go_at_call 45; (with_reducible refine HVS.out.mono ?_); rintro e w' ⟨rfl, hb⟩)
      go_ret2
      exact ⟨by rw [HXX.out]; rfl, hb⟩
    · have HXX := Lib.hid (HX2.out.trans (if_neg hn0))
      clear HX2
      obtain ⟨N, rfl⟩ : ∃ N : Nat, n = N := ⟨n.toNat, by omega⟩
      rw [Int.toNat_natCast] at HXX
      obtain ⟨C, hC⟩ : ∃ C, C = cutL N s.data.toList := ⟨_, rfl⟩
      rw [← hC] at HXX
      have HC := Lib.hid hC
      clear hC
      go_enter Tryd.func26, Tryd.ntmps26
      go_wp2_with fail
      refine HVS.out.mono ?_
      rintro e w1 ⟨rfl, hb1⟩
      clear HVS
      have hs1 := hb1.size
      have hit0 := World.iter_heap w1 s 0
      have hb2 : Below w.heap.size w (w1.alloc (.stringIter s 0)) := hb1.alloc hs1 _
      go_wp2
      go_loopw [0, 1] (fun tv nv wr => tv = .string s ∧ ∃ (pos m : Nat), nv = .int .i64 (m : Int) ∧ m ≤ 9223372036854775807 ∧ wr.heap[(w1.heap.size)]? = some (.stringIter s pos) ∧ Below w.heap.size w wr ∧ pos + cutL m (s.data.toList.drop pos) = C) (fun _ _ wr => s.size - wr.iterPos (w1.heap.size))
      case atStart => exact ⟨rfl, 0, N, rfl, by omega, hit0, hb2, by rw [Nat.zero_add, List.drop_zero]; exact HC.out.symm⟩
      case round =>
        clear hb1 hb2 hit0 HC
        obtain ⟨rfl, pos, m, rfl, hm, hit, hbw, hcut⟩ := hrel
        have hsz : (w1.heap.size) < wr.heap.size := (Array.getElem?_eq_some_iff.1 hit).1
        by_cases hp : pos < s.size
        · have hnx : ∀ ty, (Instr.next (.pointer (some ⟨(w1.heap.size), 0, none⟩)) true ty).run Tryd.prog wr = _ := fun ty => Lib.run_next_any_at wr (w1.heap.size) s pos ty hit hp
          have hwd := Lib.decode_width_pos s pos hp
          have hd1 := decode_le s pos
          have hit2 := Lib.iterAt_heap wr (w1.heap.size) s pos (pos + (Utf8.decode s pos).2) hit
          have hbw2 := Lib.below_iterAt hbw (k := (w1.heap.size)) (by omega) s (pos + (Utf8.decode s pos).2)
          have hsz2 : (w1.heap.size) < (wr.iterAt (w1.heap.size) s (pos + (Utf8.decode s pos).2)).heap.size := by rw [Lib.iterAt_size]; omega
          have hmea : s.size - (wr.iterAt (w1.heap.size) s (pos + (Utf8.decode s pos).2)).iterPos (w1.heap.size) < s.size - wr.iterPos (w1.heap.size) := by
            simp only [World.iterPos, hit2, hit]
            omega
          by_cases hm0 : m = 0
          · subst hm0
            have hC2 : pos = C := by rw [← hcut]; rfl
            have HC2 := Lib.hid hC2
            have HCL := Lib.hid (fun W => sclone_any ⟨(s.data.toList.take pos).toArray⟩ W (by
              have : (s.data.toList.take pos).length ≤ s.data.toList.length := by rw [List.length_take]; omega
              have hl : s.data.toList.length = s.size := Array.length_toList
              show (s.data.toList.take pos).toArray.size ≤ _
              rw [List.size_toArray]
              omega))
            have HE := Lib.hid (ext0 s pos)
            clear hC2 hcut hit hmea
            have hp' : (pos : Int) ≤ (s.size : Int) := by omega
            go_wp2_with (go_at_call 46; rw [HE.out]; (with_reducible refine (HCL.out _).mono ?_); rintro e w' ⟨rfl, hb⟩)
            go_ret2
            exact ⟨by rw [HXX.out, ← HC2.out]; rfl, hbw2.trans (hb.mono (by omega))⟩
          · obtain ⟨m, rfl⟩ : ∃ k, m = k + 1 := ⟨m - 1, by omega⟩
            have hm0' : (((m + 1 : Nat) : Int) == 0) = false := by rw [beq_eq_false_iff_ne]; omega
            rw [cutL_step s pos m hp] at hcut
            have HCUT := Lib.hid hcut
            clear hcut
            go_wp2
            go_roundw
            case rel => exact ⟨rfl, pos + (Utf8.decode s pos).2, m, by go_num, by omega, hit2, hbw2, by rw [← HCUT.out]; omega⟩
            case measure => exact hmea
        · have hnx : ∀ ty, (Instr.next (.pointer (some ⟨(w1.heap.size), 0, none⟩)) true ty).run Tryd.prog wr = _ := fun ty => Lib.run_next_end_at wr (w1.heap.size) s pos ty hit hp
          rw [drop_end s pos (by omega), cutL_nil, Nat.add_zero] at hcut
          have HC2 := Lib.hid hcut
          have HCL := Lib.hid (fun W => sclone_any s W (by omega))
          have HE := Lib.hid (whole0 s pos (by omega))
          clear hcut hit
          go_wp2_with (go_at_call 46; (with_reducible refine (HCL.out _).mono ?_); rintro e w' ⟨rfl, hb⟩)
          go_ret2
          exact ⟨by rw [HXX.out, ← HC2.out, ← HE.out]; rfl, hbw.trans (hb.mono (by omega))⟩
end Go.Proofs.YtinhmchekdolmaaDoor
