/- val.parse, val.Parse. -/
import Derived.Test.YtinhmchekdolmaaDoorProg
import Derived.Test.YtinhmchekdolmaaDoorValJ
import Derived.WalkKit
import Derived.WalkSpells
import Derived.WalkLawsBesides
import Derived.WideLaws
import Derived.Deep.QuietTactic
import Derived.BigQuiet
import Derived.KernelRfl
import Derived.Lib.Hide
namespace Go.Proofs.YtinhmchekdolmaaDoor
open Go.RowKit

theorem res40 {w : World} {b : Nat} {v0 v1 v2 : Value} (h : w.heap[b]? = some (.cells #[v0, v1, v2] 23 (0, 0))) (tmps : Array Value) (h2 : tmps.getD 2 undef = .pointer (some ⟨b, 0, none⟩)) :
    (results Tryd.f40 tmps).run Tryd.prog w = .ok (.tuple #[.agg #[v0, v1, v2], tmps.getD 3 undef]) w := by
  have e0 : w.cell? ⟨b, 0, none⟩ = some v0 := cell_of_row w b 0 _ _ _ h
  have e1 : w.cell? ⟨b, 1, none⟩ = some v1 := cell_of_row w b 1 _ _ _ h
  have e2 : w.cell? ⟨b, 2, none⟩ = some v2 := cell_of_row w b 2 _ _ _ h
  have h2' := h2
  simp only [Array.getD_eq_getD_getElem?] at h2'
  simp [results, Tryd.results40, go_sem, h2', e0, e1, e2]

theorem set3 {w : World} {b : Nat} {t : TypeId} {x0 x1 x2 : Value} (h : w.heap[b]? = some (.cells #[x0, x1, x2] t (0, 0))) (v0 v1 v2 : Value) :
    (((w.setCell ⟨b, 0, none⟩ v0).setCell ⟨b, 1, none⟩ v1).setCell ⟨b, 2, none⟩ v2).heap[b]? = some (.cells #[v0, v1, v2] t (0, 0)) := by
  have h1 := heap_setCell_same w b 0 #[x0, x1, x2] t v0 h
  have h2 := heap_setCell_same _ b 1 _ t v1 h1
  have h3 := heap_setCell_same _ b 2 _ t v2 h2
  simpa using h3
theorem below_set3 {B b : Nat} {a w : World} (h : Below B a w) (hb : B ≤ b) (v0 v1 v2 : Value) : Below B a (((w.setCell ⟨b, 0, none⟩ v0).setCell ⟨b, 1, none⟩ v1).setCell ⟨b, 2, none⟩ v2) :=
  ((h.setCell (p := ⟨b, 0, none⟩) hb _).setCell (p := ⟨b, 1, none⟩) hb _).setCell (p := ⟨b, 2, none⟩) hb _

def txtFalse : List UInt8 := [102, 97, 108, 115, 101]
def txtTrue : List UInt8 := [116, 114, 117, 101]
def numV (l : List UInt8) : VVal × Bool := match Lib.atoiAll l with
  | .ok v => (⟨1, v, ⟨#[]⟩⟩, decide (Lib.itoa v = l))
  | Lib.NumEnd.syntax => (⟨1, 0, ⟨#[]⟩⟩, false)
  | .range => (⟨1, Lib.atoiSat l, ⟨#[]⟩⟩, false)
def prsV (s : ByteArray) : VVal × Bool :=
  if s.data.toList = txtFalse then (⟨3, 0, ⟨#[]⟩⟩, true) else if s.data.toList = txtTrue then (⟨3, 1, ⟨#[]⟩⟩, true)
  else if Lib.hasPrefix s.data.toList [34] then (⟨2, 0, ⟨(pText s).1.toArray⟩⟩, (pText s).2) else numV s.data.toList

theorem atoi_ok (s : ByteArray) (v : Int) (w : World) (hs : s.size ≤ 9223372036854775806) (h : Lib.atoiAll s.data.toList = .ok v) :
    Calls Tryd.prog 56 #[.string s] w fun e w' => e = .returned (.tuple #[.int .i64 v, .nilIface]) ∧ Below w.heap.size w w' :=
  (Tryd.strconv_Atoi_ok s hs v h w).mono fun e w' ⟨he, hw⟩ => ⟨he, by
    rcases hw with rfl | ⟨t, rfl⟩
    · exact Below.refl _ _
    · exact Lib.bytesWorld_below _ _ _⟩

set_option maxRecDepth 100000 in
set_option maxHeartbeats 4000000 in
theorem parse_any (s : ByteArray) (w : World) (hs : s.size ≤ 140737488355328) (hT : Tabs w) :
    Calls Tryd.prog 40 #[.string s] w fun e w' => e = .returned (.tuple #[.agg (prsV s).1.cells, .bool (prsV s).2]) ∧ Below w.heap.size w w' := by
  have hP : prsV s = if s.data.toList = txtFalse then (⟨3, 0, ⟨#[]⟩⟩, true) else if s.data.toList = txtTrue then (⟨3, 1, ⟨#[]⟩⟩, true)
    else if Lib.hasPrefix s.data.toList [34] then (⟨2, 0, ⟨(pText s).1.toArray⟩⟩, (pText s).2) else numV s.data.toList := rfl
  obtain ⟨X, hX⟩ : ∃ X, X = prsV s := ⟨_, rfl⟩
  rw [← hX] at hP ⊢
  clear hX
  by_cases hf : s.data.toList = txtFalse
  · have HX : Hid (X = (⟨3, 0, ⟨#[]⟩⟩, true)) := Lib.hid (by rw [hP, if_pos hf])
    obtain rfl : s = ⟨#[102, 97, 108, 115, 101]⟩ := by
      apply ByteArray.ext
      apply Array.toList_inj.1
      rw [hf]
      rfl
    clear hP hf
    go_enter Tryd.func40, Tryd.ntmps40
    go_wp2
    refine bodyPost_ret (res40 (heap_alloc_new w _) _ rfl) rfl ⟨?_, (Below.refl _ _).alloc (Nat.le_refl _) _⟩
    rw [HX.out]
    rfl
  · by_cases ht : s.data.toList = txtTrue
    · have HX : Hid (X = (⟨3, 1, ⟨#[]⟩⟩, true)) := Lib.hid (by rw [hP, if_neg hf, if_pos ht])
      obtain rfl : s = ⟨#[116, 114, 117, 101]⟩ := by
        apply ByteArray.ext
        apply Array.toList_inj.1
        rw [ht]
        rfl
      clear hP hf ht
      go_enter Tryd.func40, Tryd.ntmps40
      go_wp2
      refine bodyPost_ret (res40 (heap_alloc_new w _) _ rfl) rfl ⟨?_, (Below.refl _ _).alloc (Nat.le_refl _) _⟩
      rw [HX.out]
      rfl
    · have bf : (s.toList == [102, 97, 108, 115, 101]) = false := by rw [beq_eq_false_iff_ne, Lib.toList_data]; exact hf
      have bt : (s.toList == [116, 114, 117, 101]) = false := by rw [beq_eq_false_iff_ne, Lib.toList_data]; exact ht
      have hblk : (w.alloc (.cells #[.int .i64 0, .int .i64 0, .string ⟨#[]⟩] 23)).heap[w.heap.size]? = some (.cells #[.int .i64 0, .int .i64 0, .string ⟨#[]⟩] 23 (0, 0)) := heap_alloc_new w _
      have hBW : Below w.heap.size w (w.alloc (.cells #[.int .i64 0, .int .i64 0, .string ⟨#[]⟩] 23)) := (Below.refl _ _).alloc (Nat.le_refl _) _
      have hszW : w.heap.size < (w.alloc (.cells #[.int .i64 0, .int .i64 0, .string ⟨#[]⟩] 23)).heap.size := by simp
      have hTW := hT.alloc (.cells #[.int .i64 0, .int .i64 0, .string ⟨#[]⟩] 23)
      have hpfx := fun W => Tryd.strings_HasPrefix s ⟨#[34]⟩ W
      have hpt := parseText_any s (w.alloc (.cells #[.int .i64 0, .int .i64 0, .string ⟨#[]⟩] 23)) (by omega) hTW
      rw [if_neg hf, if_neg ht] at hP
      obtain ⟨pb, hpb⟩ : ∃ b, b = Lib.hasPrefix s.data.toList [34] := ⟨_, rfl⟩
      have hpfx' : ∀ W, Calls Tryd.prog 54 #[.string s, .string ⟨#[34]⟩] W fun e w' => e = .returned (.bool pb) ∧ w' = W := by rw [hpb]; exact hpfx
      rw [← hpb] at hP
      have HPX := Lib.hid hpfx'
      have HBLK := Lib.hid hblk
      have HBW := Lib.hid hBW
      have HSZ := Lib.hid hszW
      clear hpfx hpfx' hpb hblk hBW hszW hT
      rcases pb with _ | _
      · have hP2 : X = numV s.data.toList := hP
        clear hP hpt hf ht
        rcases hat : Lib.atoiAll s.data.toList with v | _ | _
        · have hvb := Lib.atoiAll_bounds hat
          have hX : X = (⟨1, v, ⟨#[]⟩⟩, decide (Lib.itoa v = s.data.toList)) := by rw [hP2]; unfold numV; rw [hat]
          have hc := atoi_ok s v (w.alloc (.cells #[.int .i64 0, .int .i64 0, .string ⟨#[]⟩] 23)) (by omega) hat
          have HC := Lib.hid hc
          have HTW := Lib.hid hTW
          clear hc hP2 hat hTW
          have hbe : (Lib.itoa v == s.toList) = decide (Lib.itoa v = s.data.toList) := by
            rw [Lib.toList_data]
            by_cases h : Lib.itoa v = s.data.toList
            · rw [decide_eq_true h, beq_iff_eq]; exact h
            · rw [decide_eq_false h, beq_eq_false_iff_ne]; exact h
          have HBE := Lib.hid hbe
          have HX := Lib.hid hX
          clear hbe hX
          go_enter Tryd.func40, Tryd.ntmps40
          go_wp2_with (first
            | (go_at_call 54; (with_reducible refine (HPX.out _).mono ?_); rintro e w' ⟨rfl, rfl⟩)
            | (go_at_call 56; (with_reducible refine HC.out.mono ?_); rintro e w1 ⟨rfl, hb1⟩)
            | (go_at_call 34; (with_reducible refine (itoa_any v _ hvb.1 hvb.2 (HTW.out.below hb1)).mono ?_); rintro e w2 ⟨rfl, hb12⟩; have hb2 := hb1.trans (hb12.mono hb1.size); have hblk2 := (hb2.block w.heap.size HSZ.out).trans HBLK.out; have e0 := cell_of_row w2 w.heap.size 0 _ _ _ hblk2; have e1 := cell_of_row w2 w.heap.size 1 _ _ _ hblk2; have e2 := cell_of_row w2 w.heap.size 2 _ _ _ hblk2; have f0 := frozen_of_row w2 w.heap.size 0 _ _ hblk2; have f1 := frozen_of_row w2 w.heap.size 1 _ _ hblk2; have f2 := frozen_of_row w2 w.heap.size 2 _ _ hblk2; have HB2 := Lib.hid hblk2; clear hblk2))
          refine bodyPost_ret (res40 (set3 HB2.out _ _ _) _ rfl) rfl ⟨?_, below_set3 (HBW.out.trans (hb2.mono HBW.out.size)) (Nat.le_refl _) _ _ _⟩
          rw [HX.out, ← HBE.out]
          rfl
        · have HX : Hid (X = (⟨1, 0, ⟨#[]⟩⟩, false)) := Lib.hid (by rw [hP2]; unfold numV; rw [hat])
          obtain ⟨te, pe, hsv⟩ := hTW.syn
          have hc := Tryd.strconv_Atoi_syntax s (by omega) hat _ (w.alloc (.cells #[.int .i64 0, .int .i64 0, .string ⟨#[]⟩] 23)) hsv (.inr ⟨te, pe, rfl⟩)
          have HC := Lib.hid hc
          clear hc hP2 hat hTW hsv
          go_enter Tryd.func40, Tryd.ntmps40
          go_wp2_with (first
            | (go_at_call 54; (with_reducible refine (HPX.out _).mono ?_); rintro e w' ⟨rfl, rfl⟩)
            | (go_at_call 56; (with_reducible refine HC.out.mono ?_); rintro e w2 ⟨N, rfl, -, -, hb2⟩; have hblk2 := (hb2.block w.heap.size HSZ.out).trans HBLK.out; have e0 := cell_of_row w2 w.heap.size 0 _ _ _ hblk2; have e1 := cell_of_row w2 w.heap.size 1 _ _ _ hblk2; have e2 := cell_of_row w2 w.heap.size 2 _ _ _ hblk2; have f0 := frozen_of_row w2 w.heap.size 0 _ _ hblk2; have f1 := frozen_of_row w2 w.heap.size 1 _ _ hblk2; have f2 := frozen_of_row w2 w.heap.size 2 _ _ hblk2; have HB2 := Lib.hid hblk2; clear hblk2))
          refine bodyPost_ret (res40 (set3 HB2.out _ _ _) _ rfl) rfl ⟨?_, below_set3 (HBW.out.trans (hb2.mono HBW.out.size)) (Nat.le_refl _) _ _ _⟩
          rw [HX.out]
          rfl
        · have HX : Hid (X = (⟨1, Lib.atoiSat s.data.toList, ⟨#[]⟩⟩, false)) := Lib.hid (by rw [hP2]; unfold numV; rw [hat])
          obtain ⟨te, pe, hsv⟩ := hTW.rng
          have hc := Tryd.strconv_Atoi_range s (by omega) hat _ (w.alloc (.cells #[.int .i64 0, .int .i64 0, .string ⟨#[]⟩] 23)) hsv (.inr ⟨te, pe, rfl⟩)
          obtain ⟨Z, hZ⟩ : ∃ Z, Z = Lib.atoiSat s.data.toList := ⟨_, rfl⟩
          rw [← hZ] at hc HX
          have HC := Lib.hid hc
          clear hc hP2 hat hTW hsv hZ
          go_enter Tryd.func40, Tryd.ntmps40
          go_wp2_with (first
            | (go_at_call 54; (with_reducible refine (HPX.out _).mono ?_); rintro e w' ⟨rfl, rfl⟩)
            | (go_at_call 56; (with_reducible refine HC.out.mono ?_); rintro e w2 ⟨N, rfl, -, -, hb2⟩; have hblk2 := (hb2.block w.heap.size HSZ.out).trans HBLK.out; have e0 := cell_of_row w2 w.heap.size 0 _ _ _ hblk2; have e1 := cell_of_row w2 w.heap.size 1 _ _ _ hblk2; have e2 := cell_of_row w2 w.heap.size 2 _ _ _ hblk2; have f0 := frozen_of_row w2 w.heap.size 0 _ _ hblk2; have f1 := frozen_of_row w2 w.heap.size 1 _ _ hblk2; have f2 := frozen_of_row w2 w.heap.size 2 _ _ hblk2; have HB2 := Lib.hid hblk2; clear hblk2))
          refine bodyPost_ret (res40 (set3 HB2.out _ _ _) _ rfl) rfl ⟨?_, below_set3 (HBW.out.trans (hb2.mono HBW.out.size)) (Nat.le_refl _) _ _ _⟩
          rw [HX.out]
          rfl
      · obtain ⟨Y, hY⟩ : ∃ Y, Y = pText s := ⟨_, rfl⟩
        rw [← hY] at hP hpt
        rw [if_pos rfl] at hP
        have HX := Lib.hid hP
        have HPT := Lib.hid hpt
        clear hP hpt hY hf ht hTW
        go_enter Tryd.func40, Tryd.ntmps40
        go_wp2_with (first
          | (go_at_call 54; (with_reducible refine (HPX.out _).mono ?_); rintro e w' ⟨rfl, rfl⟩)
          | (go_at_call 55; (with_reducible refine HPT.out.mono ?_); rintro e w2 ⟨rfl, hb2⟩; have hblk2 := (hb2.block w.heap.size HSZ.out).trans HBLK.out; have e0 := cell_of_row w2 w.heap.size 0 _ _ _ hblk2; have e1 := cell_of_row w2 w.heap.size 1 _ _ _ hblk2; have e2 := cell_of_row w2 w.heap.size 2 _ _ _ hblk2; have f0 := frozen_of_row w2 w.heap.size 0 _ _ hblk2; have f1 := frozen_of_row w2 w.heap.size 1 _ _ hblk2; have f2 := frozen_of_row w2 w.heap.size 2 _ _ hblk2; have HB2 := Lib.hid hblk2; clear hblk2))
        refine bodyPost_ret (res40 (set3 HB2.out _ _ _) _ rfl) rfl ⟨?_, below_set3 (HBW.out.trans (hb2.mono HBW.out.size)) (Nat.le_refl _) _ _ _⟩
        rw [HX.out]
        rfl
end Go.Proofs.YtinhmchekdolmaaDoor
