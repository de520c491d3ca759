/- The reference's hex, Show. -/
import Derived.Test.YtinhmchekdolmaaDoorProg
import Derived.Test.YtinhmchekdolmaaDoorValZ
import Derived.Test.YtinhmchekdolmaaDoorValE
import Derived.Test.YtinhmchekdolmaaDoorValV
import Derived.Lib.MapLaws
import Derived.WalkKit
import Derived.WalkSpells
import Derived.WalkLawsBesides
import Derived.Deep.QuietTactic
import Derived.BigQuiet
import Derived.KernelRfl
import Derived.Lib.Hide
namespace Go.Proofs.YtinhmchekdolmaaDoor
open Go.RowKit

def HX : ByteArray := ⟨#[48, 49, 50, 51, 52, 53, 54, 55, 56, 57, 97, 98, 99, 100, 101, 102]⟩
theorem hx_at (d : Nat) (h : d < HX.size) : HX[d].toNat = (hx d).toNat := by
  have hs : HX.size = 16 := rfl
  have h16 : d < 16 := by omega
  match d, h, h16 with
  | 0, _, _ => rfl
  | 1, _, _ => rfl
  | 2, _, _ => rfl
  | 3, _, _ => rfl
  | 4, _, _ => rfl
  | 5, _, _ => rfl
  | 6, _, _ => rfl
  | 7, _, _ => rfl
  | 8, _, _ => rfl
  | 9, _, _ => rfl
  | 10, _, _ => rfl
  | 11, _, _ => rfl
  | 12, _, _ => rfl
  | 13, _, _ => rfl
  | 14, _, _ => rfl
  | 15, _, _ => rfl
  | n + 16, _, h => omega
theorem hexIdx (d : Nat) (h : d < 16) (w : World) : (Instr.index 9 (.string HX) (.int .i64 (d : Int))).run Tryd.prog w = .ok (.int .u8 ((hx d).toNat : Int)) w := by
  have hs : HX.size = 16 := rfl
  rw [run_index_string (P := Tryd.prog) (w := w) 9 HX .i64 (d : Int) Tryd.underlying9, dif_pos ⟨by omega, by rw [hs]; omega⟩]
  congr 2
  have := hx_at d (by omega)
  exact congrArg _ this
theorem hx_enc : ∀ (d : Nat), d < 16 → Utf8.encode ((hx d).toNat : Int) = ⟨#[hx d]⟩
  | 0, _ => by decide +kernel
  | 1, _ => by decide +kernel
  | 2, _ => by decide +kernel
  | 3, _ => by decide +kernel
  | 4, _ => by decide +kernel
  | 5, _ => by decide +kernel
  | 6, _ => by decide +kernel
  | 7, _ => by decide +kernel
  | 8, _ => by decide +kernel
  | 9, _ => by decide +kernel
  | 10, _ => by decide +kernel
  | 11, _ => by decide +kernel
  | 12, _ => by decide +kernel
  | 13, _ => by decide +kernel
  | 14, _ => by decide +kernel
  | 15, _ => by decide +kernel
  | n + 16, h => by omega
theorem hexStr (d : Nat) (h : d < 16) (w : World) : (convert 5 9 (.int .u8 ((hx d).toNat : Int))).run Tryd.prog w = .ok (.string ⟨#[hx d]⟩) w := by
  simp [convert, run_underlying Tryd.underlying5, run_underlying Tryd.underlying9, go_sem]
  simp [Conv.intToString, hx_enc d h, go_sem]

theorem app_nil (s : ByteArray) : s ++ (⟨#[]⟩ : ByteArray) = s := by
  apply ByteArray.ext
  rw [ByteArray.data_append]
  simp

set_option maxRecDepth 100000 in
set_option maxHeartbeats 2000000 in
theorem hex_one (r : Nat) (w : World) (h : r < 16) : Calls Tryd.prog 38 #[.int .i64 (r : Int)] w fun e w' => e = .returned (.string ⟨#[hx r]⟩) ∧ w = w' := by
  have ix := hexIdx r h w
  have ic := hexStr r h w
  unfold HX at ix
  have h15 : ¬ (15 : Int) < (r : Int) := by omega
  have r1 : (r : Int) % 16 = (r : Int) := by omega
  have r2 : (r : Int) / 16 = 0 := by omega
  have HN := Lib.hid (app_nil ⟨#[hx r]⟩)
  go_enter Tryd.func38, Tryd.ntmps38
  go_wp2
  go_loop [0, 3] (fun nv sv => nv = .int .i64 (r : Int) ∧ sv = .string ⟨#[]⟩) (fun _ _ => 0)
  case atStart => exact ⟨rfl, rfl⟩
  case round =>
    obtain ⟨rfl, rfl⟩ := hrel
    go_wp2
    go_ret
    exact ⟨by rw [← HN.out]; rfl, rfl⟩

set_option maxRecDepth 100000 in
set_option maxHeartbeats 2000000 in
theorem hex_two (r : Nat) (w : World) (h0 : 16 ≤ r) (h : r < 256) : Calls Tryd.prog 38 #[.int .i64 (r : Int)] w fun e w' => e = .returned (.string (⟨#[hx (r / 16)]⟩ ++ ⟨#[hx (r % 16)]⟩)) ∧ w = w' := by
  obtain ⟨c, hc⟩ : ∃ c, c = r % 16 := ⟨_, rfl⟩
  obtain ⟨q, hq⟩ : ∃ q, q = r / 16 := ⟨_, rfl⟩
  have hc16 : c < 16 := by omega
  have hq16 : q < 16 := by omega
  have hq0 : ((q : Int) == 0) = false := by rw [beq_eq_false_iff_ne]; omega
  have ix := hexIdx c hc16 w
  have ic := hexStr c hc16 w
  have jx := hexIdx q hq16 w
  have jc := hexStr q hq16 w
  unfold HX at ix jx
  have h15 : (15 : Int) < (r : Int) := by omega
  have k15 : ¬ (15 : Int) < (q : Int) := by omega
  have r1 : (r : Int) % 16 = (c : Int) := by omega
  have r2 : (r : Int) / 16 = (q : Int) := by omega
  have hqr : q < r := by omega
  have HN := Lib.hid (app_nil ⟨#[hx c]⟩)
  rw [← hc, ← hq]
  clear hc hq
  go_enter Tryd.func38, Tryd.ntmps38
  go_wp2
  go_loop [0, 3] (fun nv sv => (nv = .int .i64 (r : Int) ∧ sv = .string ⟨#[]⟩) ∨ (nv = .int .i64 (q : Int) ∧ sv = .string ⟨#[hx c]⟩)) (fun nv _ => (intOf nv).toNat)
  case atStart => exact .inl ⟨rfl, rfl⟩
  case round =>
    rcases hrel with ⟨rfl, rfl⟩ | ⟨rfl, rfl⟩
    · clear jx jc
      go_wp2
      go_round
      case rel => exact .inr ⟨rfl, congrArg Value.string HN.out⟩
      case measure => simp [intOf]; omega
    · clear ix ic
      have hne : ((⟨#[hx c]⟩ : ByteArray).toList == []) = false := by rw [Lib.toList_data]; rfl
      go_wp2
      go_ret
      exact ⟨rfl, rfl⟩

theorem refHex_any (r : Nat) (w : World) (h : r < 256) : Calls Tryd.prog 38 #[.int .i64 (r : Int)] w fun e w' => e = .returned (.string ⟨(hexB r).toArray⟩) ∧ w = w' := by
  unfold hexB
  by_cases h16 : r < 16
  · rw [if_pos h16]
    exact hex_one r w h16
  · rw [if_neg h16]
    refine (hex_two r w (by omega) h).mono fun e w' ⟨he, hw⟩ => ⟨?_, hw⟩
    rw [he]
    congr 2
end Go.Proofs.YtinhmchekdolmaaDoor
