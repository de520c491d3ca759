/- KeyD, what this seat can fill of it. -/
import Derived.Test.YtgjjdmkoamjdpaaGreatDoorProg
import Derived.Test.YtgjjdmkoamjdpaaGreatDoorKeyC
import Derived.WalkKit
import Derived.WalkSpells
import Derived.WalkLawsBesides
import Derived.Deep.QuietTactic
import Derived.BigQuiet
import Derived.KernelRfl
import Derived.Lib.Hide
namespace Go.Proofs.YtgjjdmkoamjdpaaGreatDoor
set_option maxRecDepth 100000
/- awake: the document's examples hold of the program. -/
open Go.RowKit

def exA : KPart := ⟨true, ⟨#[97, 0, 98]⟩, 0⟩
def exB : KPart := ⟨false, ⟨#[]⟩, 1⟩
theorem exA_bytes : keyB [exA] = [2, 97, 0, 255, 98, 0, 1] := by decide +kernel
theorem exB_bytes : keyB [exB] = [1, 128, 0, 0, 0, 0, 0, 0, 1] := by decide +kernel

theorem str_any (t : ByteArray) (w : World) : Calls Tryz.prog 86 #[.string t] w fun e w' => e = .returned (.agg #[.bool true, .string t, .int .i64 0]) ∧ Below w.heap.size w w' := by
  go_enter Tryz.func86, Tryz.ntmps86
  go_wp2
  exact bodyPost_ret (v := .agg #[.bool true, .string t, .int .i64 0]) (by simp [results, Tryz.results86, go_sem]) rfl ⟨rfl, (Below.refl _ _).alloc (Nat.le_refl _) _⟩
theorem num_any (n : Int) (w : World) : Calls Tryz.prog 85 #[.int .i64 n] w fun e w' => e = .returned (.agg #[.bool false, .string ⟨#[]⟩, .int .i64 n]) ∧ Below w.heap.size w w' := by
  go_enter Tryz.func85, Tryz.ntmps85
  go_wp2
  exact bodyPost_ret (v := .agg #[.bool false, .string ⟨#[]⟩, .int .i64 n]) (by simp [results, Tryz.results85, go_sem]) rfl ⟨rfl, (Below.refl _ _).alloc (Nat.le_refl _) _⟩
theorem enc1 (tx : Bool) (t : ByteArray) (n : Int) (l : List UInt8) (w : World) (hf : KPart.fits ⟨tx, t, n⟩) (hz : partSz ⟨tx, t, n⟩ ≤ 200) (hl : keyB [⟨tx, t, n⟩] = l) :
    Calls Tryz.prog 69 #[.slice (some ⟨w.heap.size, 0, none⟩) 1 1] (w.alloc (.cells #[.bool tx, .string t, .int .i64 n] 150)) fun e w' =>
      ∃ v', e = .returned (.tuple #[v', .int .i64 0]) ∧ OwnB w' w.heap.size 5 v' l ∧ Below w.heap.size w w' := by
  subst hl
  refine (encode_ok (some ⟨w.heap.size, 0, none⟩) [⟨tx, t, n⟩] 1 1 (w.heap.size + 1) _ rfl (Rd.new w _ _ _) (by simp) (by simp) (by omega) (by intro p hp; simp at hp; subst hp; exact hf) (by simpa [keySz] using hz)).mono ?_
  rintro e w' ⟨v', rfl, hown, hb⟩
  exact ⟨v', rfl, hown.mono (by simp), ((Below.refl _ _).alloc (Nat.le_refl _) _).trans (hb.mono (by simp))⟩

end Go.Proofs.YtgjjdmkoamjdpaaGreatDoor
