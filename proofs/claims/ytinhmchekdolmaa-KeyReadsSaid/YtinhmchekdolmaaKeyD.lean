/- awake: the document's examples hold of the program. -/
import Derived.Test.YtinhmchekdolmaaProg
import Derived.Test.YtinhmchekdolmaaKeyC
import Derived.WalkKit
import Derived.WalkSpells
import Derived.WalkLawsBesides
import Derived.Deep.QuietTactic
import Derived.BigQuiet
import Derived.KernelRfl
import Derived.Lib.Hide
namespace Go.Proofs.Ytinhmchekdolmaa
open Go.RowKit

def exA : KPart := ⟨true, ⟨#[97, 0, 98]⟩, 0⟩
def exB : KPart := ⟨false, ⟨#[]⟩, 1⟩
theorem exA_bytes : keyB [exA] = [2, 97, 0, 255, 98, 0, 1] := by decide +kernel
theorem exB_bytes : keyB [exB] = [1, 128, 0, 0, 0, 0, 0, 0, 1] := by decide +kernel

theorem str_any (t : ByteArray) (w : World) : Calls Try.prog 26 #[.string t] w fun e w' => e = .returned (.agg #[.bool true, .string t, .int .i64 0]) ∧ Below w.heap.size w w' := by
  go_enter Try.func26, Try.ntmps26
  go_wp2
  exact bodyPost_ret (v := .agg #[.bool true, .string t, .int .i64 0]) (by simp [results, Try.results26, go_sem]) rfl ⟨rfl, (Below.refl _ _).alloc (Nat.le_refl _) _⟩
theorem num_any (n : Int) (w : World) : Calls Try.prog 24 #[.int .i64 n] w fun e w' => e = .returned (.agg #[.bool false, .string ⟨#[]⟩, .int .i64 n]) ∧ Below w.heap.size w w' := by
  go_enter Try.func24, Try.ntmps24
  go_wp2
  exact bodyPost_ret (v := .agg #[.bool false, .string ⟨#[]⟩, .int .i64 n]) (by simp [results, Try.results24, go_sem]) rfl ⟨rfl, (Below.refl _ _).alloc (Nat.le_refl _) _⟩
theorem enc1 (tx : Bool) (t : ByteArray) (n : Int) (l : List UInt8) (w : World) (hf : KPart.fits ⟨tx, t, n⟩) (hz : partSz ⟨tx, t, n⟩ ≤ 200) (hl : keyB [⟨tx, t, n⟩] = l) :
    Calls Try.prog 13 #[.slice (some ⟨w.heap.size, 0, none⟩) 1 1] (w.alloc (.cells #[.bool tx, .string t, .int .i64 n] 38)) fun e w' =>
      ∃ v', e = .returned (.tuple #[v', .int .i64 0]) ∧ OwnB w' w.heap.size 5 v' l ∧ Below w.heap.size w w' := by
  subst hl
  refine (encode_ok (some ⟨w.heap.size, 0, none⟩) [⟨tx, t, n⟩] 1 1 (w.heap.size + 1) _ rfl (Rd.new w _ _ _) (by simp) (by simp) (by omega) (by intro p hp; simp at hp; subst hp; exact hf) (by simpa [keySz] using hz)).mono ?_
  rintro e w' ⟨v', rfl, hown, hb⟩
  exact ⟨v', rfl, hown.mono (by simp), ((Below.refl _ _).alloc (Nat.le_refl _) _).trans (hb.mono (by simp))⟩

set_option maxRecDepth 100000 in
set_option maxHeartbeats 1000000 in
theorem awake_any (w : World) : Calls Try.prog 10 #[] w fun e w' => e = .returned (.bool true) ∧ Below w.heap.size w w' := by
  go_enter Try.func10, Try.ntmps10
  go_wp2_with (go_at_call 26; refine (str_any _ _).mono ?_; rintro e w1 ⟨rfl, hb1⟩)
  refine (enc1 true ⟨#[97, 0, 98]⟩ 0 [2, 97, 0, 255, 98, 0, 1] w1 ⟨by decide, by decide, by decide⟩ (by decide +kernel) (by decide +kernel)).mono ?_
  rintro e w2 ⟨v1, rfl, hown1, hb2⟩
  have hB2 : Below w.heap.size w w2 := hb1.trans (hb2.mono hb1.size)
  clear hb1 hb2
  go_wp2_with (go_at_call 24; refine (num_any _ _).mono ?_; rintro e w3 ⟨rfl, hb3⟩)
  refine (enc1 false ⟨#[]⟩ 1 [1, 128, 0, 0, 0, 0, 0, 0, 1] w3 ⟨by decide, by decide, by decide⟩ (by decide +kernel) (by decide +kernel)).mono ?_
  rintro e w4 ⟨v2, rfl, hown2, hb4⟩
  have hown1' := (hown1.below hb3 (Nat.le_refl _)).below hb4 (Nat.le_refl _)
  have hB4 : Below w.heap.size w w4 := (hB2.trans (hb3.mono hB2.size)).trans (hb4.mono (by have := hB2.size; have := hb3.size; omega))
  clear hb3 hb4 hown1 hB2
  obtain ⟨A1, c1, rfl, hc1, hm1, hr1, _⟩ := hown1'.shape
  obtain ⟨g, c2, rfl, hg, hgs, hc2, hm2⟩ := hown2.form (by decide)
  have cell1 : w4.cell? ⟨g, 1, none⟩ = some (.int .u8 128) := hown2.cell (j := 1) (by decide)
  have conv1 : (convert 26 9 (.slice A1 7 c1)).run Try.prog w4 = .ok (.string ⟨#[2, 97, 0, 255, 98, 0, 1]⟩) w4 := run_strB (P := Try.prog) w4 26 9 5 A1 _ c1 _ _ Try.underlying26 Try.underlying5 Try.underlying9 rfl hr1
  go_wp2_with fail
  refine (end_any (some ⟨w4.heap.size, 0, none⟩) [1, 255] 2 2 (w4.heap.size + 1) _ rfl (Rd.new w4 #[.int .u8 1, .int .u8 255] 5 (0, 0)) (by simp) (by decide) (by decide) (by decide)).mono ?_
  rintro e w5 ⟨v3, rfl, hown3, hb5⟩
  have he : endN [1, 255] ([1, 255] : List UInt8).length = [2] := by decide +kernel
  rw [he] at hown3
  obtain ⟨A3, c3, rfl, hc3, hm3, hr3, _⟩ := hown3.shape
  have conv3 : (convert 26 9 (.slice A3 1 c3)).run Try.prog w5 = .ok (.string ⟨#[2]⟩) w5 := run_strB (P := Try.prog) w5 26 9 5 A3 _ c3 _ _ Try.underlying26 Try.underlying5 Try.underlying9 rfl hr3
  have hB5 : Below w.heap.size w w5 := (hB4.alloc hB4.size _).trans (hb5.mono (by have := hB4.size; simp; omega))
  clear conv1 cell1 hown1' hr1 hown2 hb5 hr3 hown3 he
  go_wp2
  go_ret
  exact ⟨rfl, hB5⟩
end Go.Proofs.Ytinhmchekdolmaa
