/- The reference's Show. -/
import Derived.Test.YtinhmchekdolmaaDoorProg
import Derived.Test.YtinhmchekdolmaaDoorValAA
import Derived.Test.YtinhmchekdolmaaDoorValX
import Derived.WalkKit
import Derived.WalkSpells
import Derived.WalkLawsBesides
import Derived.Deep.QuietTactic
import Derived.Deep.DeepCutAuto
import Derived.Deep.CutRange
import Derived.BigQuiet
import Derived.KernelRfl
import Derived.Lib.Hide
namespace Go.Proofs.YtinhmchekdolmaaDoor
open Go.RowKit

theorem app_lists (a b : List UInt8) : (⟨a.toArray⟩ : ByteArray) ++ ⟨b.toArray⟩ = ⟨(a ++ b).toArray⟩ := by
  apply ByteArray.ext
  rw [ByteArray.data_append]
  simp
theorem ext_piece (s : ByteArray) (i d : Nat) : s.extract i (i + d) = ⟨((s.data.toList.drop i).take d).toArray⟩ := by
  apply ByteArray.ext
  apply Array.ext'
  rw [Lib.extract_data, Nat.add_sub_cancel_left]
theorem enc_small (r : Nat) (h : r < 128) : Lib.encodeRune (r : Int) = [UInt8.ofNat r] := by
  have : ∀ r : Fin 128, Lib.encodeRune (r.val : Int) = [UInt8.ofNat r.val] := by decide +kernel
  exact this ⟨r, h⟩

set_option maxRecDepth 100000 in
set_option maxHeartbeats 4000000 in
theorem refShow_text (n : Int) (s : ByteArray) (w : World) (hsl : s.size ≤ 64) (hval : Lib.validD s.data.toList = true) :
    Calls Tryd.prog 17 #[.agg #[.int .i64 2, .int .i64 n, .string s]] w fun e w' => e = .returned (.string ⟨(showT s).toArray⟩) ∧ Below w.heap.size w w' := by
  obtain ⟨R, hR⟩ : ∃ R, R = [34] ++ showFrom s s.size 0 := ⟨_, rfl⟩
  have hsh : showT s = R ++ [34] := by rw [hR]; rfl
  have hRl : R.length ≤ 401 := by rw [hR, List.length_append]; have := showFrom_len s s.size 0; simp; omega
  have HSH := Lib.hid hsh
  have HR := Lib.hid hR
  have HV := Lib.hid hval
  clear hsh hR hval
  have hB : Below w.heap.size w (w.alloc (.cells #[.int .i64 2, .int .i64 n, .string s] 23)) := (Below.refl _ _).alloc (Nat.le_refl _) _
  have hc2 : (w.alloc (.cells #[.int .i64 2, .int .i64 n, .string s] 23)).cell? ⟨w.heap.size, 2, none⟩ = some (.string s) := cell_of_row _ _ 2 _ _ _ (heap_alloc_new w _)
  go_enter Tryd.func17, Tryd.ntmps17
  go_wp2
  generalize w.alloc (.cells #[.int .i64 2, .int .i64 n, .string s] 23) = W at *
  go_loop [3, 4] (fun sv iv => ∃ (i fuel : Nat) (acc : List UInt8), sv = .string ⟨acc.toArray⟩ ∧ iv = .int .i64 (i : Int) ∧ i ≤ s.size ∧ s.size ≤ i + fuel ∧ acc ++ showFrom s fuel i = R ∧ Lib.validD (s.data.toList.drop i) = true) (fun _ iv => s.size - (intOf iv).toNat)
  case atStart => exact ⟨0, s.size, [34], rfl, rfl, by omega, by omega, HR.out.symm, by rw [List.drop_zero]; exact HV.out⟩
  case round =>
    clear HR HV
    obtain ⟨i, fuel, acc, rfl, rfl, hi, hfu, hacc, hval⟩ := hrel
    have hal : acc.length ≤ 401 := by
      have := congrArg List.length hacc
      rw [List.length_append] at this
      omega
    rcases Nat.lt_or_ge i s.size with h8 | h8
    · have hru := refRune_any s i W (by omega)
      have hle := runeR_le s i
      obtain ⟨hv1, hv2⟩ := valid_head (drop_ne s i h8) hval
      have hen := Lib.encode_decode (s.data.toList.drop i) (drop_ne s i h8) hv1
      have hrm := Lib.decodeL_rune (s.data.toList.drop i)
      rw [Lib.decodeL_drop] at hv1 hen hrm
      rw [Lib.decodeL_drop, List.drop_drop] at hv2
      have hw := Lib.decodeL_width (s.data.toList.drop i)
      rw [Lib.decodeL_drop] at hw
      obtain ⟨f, rfl⟩ : ∃ f, fuel = f + 1 := ⟨fuel - 1, by omega⟩
      have hstep : showFrom s (f + 1) i = shR (Utf8.decode s i).1 ++ showFrom s f (i + (Utf8.decode s i).2) := by rw [showFrom, if_pos h8]
      have hr : runeR s i = ((Utf8.decode s i).2, (Utf8.decode s i).1) := by
        rcases rune_dec s i h8 with ⟨e1, e2⟩ | ⟨e1, e2⟩
        · exact absurd ⟨by rw [e1], by rw [e1]⟩ hv1
        · exact e1
      have hpc := ext_piece s i (Utf8.decode s i).2
      rw [← hen] at hpc
      rw [hr] at hru hle
      simp only at hru hle
      rw [hstep] at hacc
      obtain ⟨d, hd⟩ : ∃ d, d = (Utf8.decode s i).2 := ⟨_, rfl⟩
      obtain ⟨r, hr2⟩ : ∃ r, r = (Utf8.decode s i).1 := ⟨_, rfl⟩
      rw [← hd] at hru hle hw hv2 hpc hacc
      rw [← hr2] at hru hacc hpc hrm
      have hle2 := hle.2 (by omega)
      have hel : (Lib.encodeRune (r : Int)).length ≤ 4 := by
        have := Lib.runeCells_le (r : Int)
        rw [Lib.runeCells_length] at this
        omega
      have hacc2 : ∀ l, shR r = l → (acc ++ l) ++ showFrom s f (i + d) = R := by
        intro l hl
        rw [← hl, List.append_assoc]
        exact hacc
      have HRU := Lib.hid hru
      have HV2 := Lib.hid hv2
      have HPC := Lib.hid hpc
      have HACC := Lib.hid hacc2
      have hid1 : (i : Int) ≤ (i : Int) + (d : Int) := by omega
      have hid2 : (i : Int) + (d : Int) ≤ (s.size : Int) := by omega
      clear hru hv1 hv2 hr hd hr2 hstep hval hle hpc hacc hacc2 hen
      obtain ⟨E, hE⟩ : ∃ E, E = Lib.encodeRune (r : Int) := ⟨_, rfl⟩
      rw [← hE] at HPC hel
      have HE := Lib.hid hE
      clear hE
      go_upto_region 12 with (go_at_call 37; (with_reducible refine HRU.out.mono ?_); rintro e w' ⟨rfl, rfl⟩)
      rw [HPC.out]
      clear HPC HRU
      by_cases h34 : r = 34 ∨ r = 92
      · have hsr : shR r = 92 :: E := by rw [HE.out, enc_small r (by omega), shR, if_pos h34]
        have HA := Lib.hid (HACC.out _ hsr)
        have g1 : ¬ 9223372036854775807 < 1 + E.length := by omega
        have g2 : ¬ 9223372036854775807 < acc.length + (1 + E.length) := by omega
        clear hsr HE HACC
        rcases h34 with rfl | rfl
        all_goals
          go_wp2
          go_round
          case rel => exact ⟨i + d, f, _, congrArg Value.string ((congrArg _ (app_lists [92] E)).trans (app_lists acc (92 :: E))), by go_num, by omega, by omega, HA.out, HV2.out⟩
          case measure => simp [intOf]; omega
      · have n34 : ((r : Int) == 34) = false := by rw [beq_eq_false_iff_ne]; omega
        have n92 : ((r : Int) == 92) = false := by rw [beq_eq_false_iff_ne]; omega
        by_cases hc : r < 32 ∨ r = 127
        · have hhx := refHex_any r W (by omega)
          have hxl := hexB_le r
          have hsh0 := fun (h10 : ¬ r = 10) (h9 : ¬ r = 9) => (show shR r = [92, 117, 123] ++ hexB r ++ [125] by rw [shR, if_neg h34, if_neg h10, if_neg h9, if_pos hc])
          have hs10 : r = 10 → shR r = [92, 110] := fun h10 => by rw [shR, if_neg h34, if_pos h10]
          have hs9 : r = 9 → shR r = [92, 116] := fun h9 => by rw [shR, if_neg h34, if_neg (by omega), if_pos h9]
          obtain ⟨X, hX⟩ : ∃ X, X = hexB r := ⟨_, rfl⟩
          rw [← hX] at hhx hxl hsh0
          have HHX := Lib.hid hhx
          have HS0 := Lib.hid hsh0
          have HS10 := Lib.hid hs10
          have HS9 := Lib.hid hs9
          have g1 : ¬ 9223372036854775807 < 3 + X.length := by omega
          have g2 : ¬ 9223372036854775807 < 3 + X.length + 1 := by omega
          clear hX hhx hsh0 hs10 hs9 HE
          have hctl : (r : Int) < 32 ∨ (r : Int) = 127 := by omega
          by_cases h10 : r = 10
          · have HA := Lib.hid (HACC.out _ (HS10.out h10))
            have g3 : ¬ 9223372036854775807 < acc.length + 2 := by omega
            clear HACC HS0 HS10 HS9 hc h34 n34 n92 hctl
            subst h10
            replace HHX : Hid (Calls Tryd.prog 38 #[.int .i64 10] W fun e w' => e = .returned (.string ⟨X.toArray⟩) ∧ W = w') := HHX
            go_wp2_with (go_at_call 38; (with_reducible refine HHX.out.mono ?_); rintro e w' ⟨rfl, rfl⟩)
            go_round
            case rel => exact ⟨i + d, f, _, congrArg Value.string (app_lists acc [92, 110]), by go_num, by omega, by omega, HA.out, HV2.out⟩
            case measure => simp [intOf]; omega
          · by_cases h9 : r = 9
            · have HA := Lib.hid (HACC.out _ (HS9.out h9))
              have g3 : ¬ 9223372036854775807 < acc.length + 2 := by omega
              clear HACC HS0 HS10 HS9 hc h34 n34 n92 hctl h10
              subst h9
              replace HHX : Hid (Calls Tryd.prog 38 #[.int .i64 9] W fun e w' => e = .returned (.string ⟨X.toArray⟩) ∧ W = w') := HHX
              go_wp2_with (go_at_call 38; (with_reducible refine HHX.out.mono ?_); rintro e w' ⟨rfl, rfl⟩)
              go_round
              case rel => exact ⟨i + d, f, _, congrArg Value.string (app_lists acc [92, 116]), by go_num, by omega, by omega, HA.out, HV2.out⟩
              case measure => simp [intOf]; omega
            · have HA := Lib.hid (HACC.out _ (HS0.out h10 h9))
              have n10 : ((r : Int) == 10) = false := by rw [beq_eq_false_iff_ne]; omega
              have n9 : ((r : Int) == 9) = false := by rw [beq_eq_false_iff_ne]; omega
              have g3 : ¬ 9223372036854775807 < acc.length + (3 + X.length + 1) := by omega
              clear HACC HS0 HS10 HS9 h34 h10 h9 hctl
              have hcat : (⟨acc.toArray⟩ : ByteArray) ++ ((⟨#[92, 117, 123]⟩ : ByteArray) ++ ⟨X.toArray⟩ ++ ⟨#[125]⟩) = ⟨(acc ++ ([92, 117, 123] ++ X ++ [125])).toArray⟩ := by
                have e1 := app_lists [92, 117, 123] X
                have e2 := app_lists ([92, 117, 123] ++ X) [125]
                have e3 := app_lists acc ([92, 117, 123] ++ X ++ [125])
                rw [← e3, ← e2, ← e1]
              have HCAT := Lib.hid hcat
              clear hcat
              by_cases h32 : r < 32
              · have h32' : (r : Int) < 32 := by omega
                clear hc n34 n92
                have n34 : ((r : Int) == 34) = false := by rw [beq_eq_false_iff_ne]; omega
                have n92 : ((r : Int) == 92) = false := by rw [beq_eq_false_iff_ne]; omega
                go_wp2_with (go_at_call 38; (with_reducible refine HHX.out.mono ?_); rintro e w' ⟨rfl, rfl⟩)
                go_round
                case rel => exact ⟨i + d, f, _, congrArg Value.string HCAT.out, by go_num, by omega, by omega, HA.out, HV2.out⟩
                case measure => simp [intOf]; omega
              · obtain rfl : r = 127 := by omega
                replace HHX : Hid (Calls Tryd.prog 38 #[.int .i64 127] W fun e w' => e = .returned (.string ⟨X.toArray⟩) ∧ W = w') := HHX
                clear n34 n92 n10 n9 hc h32
                go_wp2_with (go_at_call 38; (with_reducible refine HHX.out.mono ?_); rintro e w' ⟨rfl, rfl⟩)
                go_round
                case rel => exact ⟨i + d, f, _, congrArg Value.string HCAT.out, by go_num, by omega, by omega, HA.out, HV2.out⟩
                case measure => simp [intOf]; omega
        · have hsr : shR r = E := by rw [HE.out, shR, if_neg h34, if_neg (by omega), if_neg (by omega), if_neg hc]
          have HA := Lib.hid (HACC.out _ hsr)
          have m32 : ¬ (r : Int) < 32 := by omega
          have n127 : ((r : Int) == 127) = false := by rw [beq_eq_false_iff_ne]; omega
          have n10 : ((r : Int) == 10) = false := by rw [beq_eq_false_iff_ne]; omega
          have n9 : ((r : Int) == 9) = false := by rw [beq_eq_false_iff_ne]; omega
          have g1 : ¬ 9223372036854775807 < acc.length + E.length := by omega
          clear hsr HE HACC h34 hc
          go_wp2
          go_round
          case rel => exact ⟨i + d, f, _, congrArg Value.string (app_lists acc E), by go_num, by omega, by omega, HA.out, HV2.out⟩
          case measure => simp [intOf]; omega
    · have haR : acc = R := by rw [← hacc, showFrom_end s fuel i (by omega), List.append_nil]
      have HAR := Lib.hid haR
      obtain rfl : i = s.size := by omega
      have g1 : ¬ 9223372036854775807 < acc.length + 1 := by omega
      have HCAT := Lib.hid (app_lists acc [34])
      clear haR hacc hval
      go_wp2
      go_ret
      refine ⟨?_, hB⟩
      rw [HSH.out, ← HAR.out, ← HCAT.out]
      rfl

/-- A good value's text, as the document says it. -/
theorem refShow_any (v : VVal) (w : World) (hf : v.fits) (hg : ckN v = 0) :
    Calls Tryd.prog 17 #[.agg v.cells] w fun e w' => e = .returned (.string ⟨(showV v).toArray⟩) ∧ Below w.heap.size w w' := by
  have hz := ckN_zero hg
  obtain ⟨k, n, s⟩ := v
  obtain ⟨f0, f1, f2⟩ := hf
  simp only at f0 f1 f2 hz
  simp only [VVal.cells]
  have hB : Below w.heap.size w (w.alloc (.cells #[.int .i64 k, .int .i64 n, .string s] 23)) := (Below.refl _ _).alloc (Nat.le_refl _) _
  rcases hz with rfl | ⟨rfl, hn⟩ | ⟨rfl, hsl, hv⟩
  · have HE : Hid (showV ⟨1, n, s⟩ = Lib.itoa n) := Lib.hid (if_pos rfl)
    have HD := Lib.hid (fun W => digits_any n W f1 f2)
    go_enter Tryd.func17, Tryd.ntmps17
    go_wp2_with (go_at_call 30; (with_reducible refine (HD.out _).mono ?_); rintro e w2 ⟨rfl, hb2⟩)
    go_ret
    exact ⟨by rw [HE.out]; rfl, hB.trans (hb2.mono hB.size)⟩
  · rcases hn with rfl | rfl
    all_goals
      go_enter Tryd.func17, Tryd.ntmps17
      go_wp2
      go_ret
      exact ⟨rfl, hB⟩
  · exact refShow_text n s w hsl hv
end Go.Proofs.YtinhmchekdolmaaDoor
