/- The document's Once. -/
import Derived.Test.YtgldcahhliokeaaJoBE
namespace Go.Proofs.Ytgldcahhliokeaa
open Go.RowKit Go.Maps

theorem any_mem {l : List Ed} {m : Ed} : (l.any fun e => decide (e = m)) = decide (m ∈ l) := by
  by_cases hm : m ∈ l
  · rw [decide_eq_true hm, List.any_eq_true]
    exact ⟨_, hm, decide_eq_true rfl⟩
  · rw [decide_eq_false hm, List.any_eq_false]
    intro e he h
    exact hm (of_decide_eq_true h ▸ he)
set_option maxRecDepth 100000 in
set_option maxHeartbeats 4000000 in
theorem ronce_any (A : Option Addr) (c : Nat) (es : List Ed) (w : World) (h : Eds w A c es) : Calls Try.prog 39 #[.slice A es.length c] w (OnPost w (onceL es)) := by
  have hs := h.sm
  have HA := Lib.hid h
  clear h
  go_enter Try.func39, Try.ntmps39
  go_wp2_with (fail)
  go_loopw [3, 9] (fun v i wr => ∃ k : Nat, k ≤ es.length ∧ i = .int .i64 (k : Int) ∧ Hid (EdRow w.heap.size wr v (onceL (es.take k)) ∧ Below w.heap.size w wr)) (fun _ i _ => es.length - (intOf i).toNat)
  case atStart => exact ⟨0, by omega, rfl, Lib.hid ⟨EdRow.nil _ _, Below.refl _ _⟩⟩
  case round =>
    obtain ⟨k, hk, rfl, hrel⟩ := hrel
    rename World => wq
    have hok : ∀ e ∈ onceL (es.take k), e.Ok := fun e he => HA.out.ok e (List.mem_of_mem_take (onceL_mem.1 he))
    have hol : (onceL (es.take k)).length ≤ 200 := by have h1 := onceL_len (es.take k); rw [List.length_take] at h1; omega
    obtain ⟨A3, c3, rfl, hE3⟩ := hrel.out.1.eds hok hol
    by_cases hlt : k < es.length
    · obtain ⟨b, o, hA, hb, c0, c1, c2⟩ := HA.out.cell hlt
      have hlI : (k : Int) < (es.length : Int) := by omega
      have hot := onceL_take hlt
      rw [hA]
      generalize es[k] = y at c0 c1 c2 hot
      generalize hO : onceL (es.take k) = O at hrel hot hok hol hE3 ⊢
      have HC := Lib.hid (And.intro hb (And.intro c0 (And.intro c1 c2)))
      have HR := Lib.hid (And.intro hrel.out.1 (And.intro hrel.out.2 (And.intro hE3 hot)))
      clear hb c0 c1 c2 hot hok hE3 hrel hA hO
      go_wp2_with (fail)
      go_loopw [5, 14] (fun s5 i wl => ∃ n : Nat, n ≤ O.length ∧ s5 = .bool ((O.take n).any fun e => decide (e = y)) ∧ i = .int .i64 (n : Int) ∧ Hid (Below wq.heap.size wq wl)) (fun _ i _ => O.length - (intOf i).toNat)
      case atStart => exact ⟨0, by omega, rfl, rfl, Lib.hid (Below.refl _ _)⟩
      case round =>
        obtain ⟨n, hn, rfl, rfl, hrel⟩ := hrel
        rename World => wl
        have hBl := HR.out.2.1.trans (lower' hrel.out HR.out.2.1.size)
        have c0 := (hBl.cell (p := ⟨b, o + k * 3, none⟩) HC.out.1).trans HC.out.2.1
        have c1 := (hBl.cell (p := ⟨b, o + k * 3 + 1, none⟩) HC.out.1).trans HC.out.2.2.1
        have c2 := (hBl.cell (p := ⟨b, o + k * 3 + 2, none⟩) HC.out.1).trans HC.out.2.2.2
        by_cases hnt : n < O.length
        · obtain ⟨eb, eo, hEA, _, d0, d1, d2⟩ := (HR.out.2.2.1.below hrel.out).cell hnt
          have hnI : (n : Int) < (O.length : Int) := by omega
          have han := any_take (p := fun e => decide (e = y)) hnt
          rw [hEA]
          generalize O[n] = z at d0 d1 d2 han
          generalize (O.take n).any (fun e => decide (e = y)) = U at han ⊢
          have BL := Lib.hid hrel.out
          have HAN := Lib.hid han
          clear hBl hEA han hrel
          cases U with
          | true =>
            go_upto_region 9 with (fail)
            go_quiet (fail)
            go_wp2_with (fail)
            go_roundw
            case rel => exact ⟨n + 1, by omega, by rw [HAN.out]; rfl, by go_num, Lib.hid (Below.drewN' BL.out _)⟩
            case measure => simp [intOf]; omega
          | false =>
            by_cases h1 : z.f = y.f
            · by_cases h2 : z.lab = y.lab
              · by_cases h3 : z.t = y.t
                · have HE := Lib.hid (show decide (z = y) = true from decide_eq_true (by cases z; cases y; simp at h1 h2 h3; rw [h1, h2, h3]))
                  go_upto_region 9 with (fail)
                  go_quiet (fail)
                  clear h1 h2 h3
                  go_wp2_with (fail)
                  go_roundw
                  case rel => exact ⟨n + 1, by omega, by rw [HAN.out, HE.out]; rfl, by go_num, Lib.hid (Below.drewN' BL.out _)⟩
                  case measure => simp [intOf]; omega
                · have HE := Lib.hid (show decide (z = y) = false from decide_eq_false (fun e => h3 (by rw [e])))
                  go_upto_region 9 with (fail)
                  go_quiet (fail)
                  clear h1 h2 h3
                  go_wp2_with (fail)
                  go_roundw
                  case rel => exact ⟨n + 1, by omega, by rw [HAN.out, HE.out]; rfl, by go_num, Lib.hid (Below.drewN' BL.out _)⟩
                  case measure => simp [intOf]; omega
              · have HE := Lib.hid (show decide (z = y) = false from decide_eq_false (fun e => h2 (by rw [e])))
                go_upto_region 9 with (fail)
                go_quiet (fail)
                clear h1 h2
                go_wp2_with (fail)
                go_roundw
                case rel => exact ⟨n + 1, by omega, by rw [HAN.out, HE.out]; rfl, by go_num, Lib.hid (Below.drewN' BL.out _)⟩
                case measure => simp [intOf]; omega
            · have HE := Lib.hid (show decide (z = y) = false from decide_eq_false (fun e => h1 (by rw [e])))
              go_upto_region 9 with (fail)
              go_quiet (fail)
              clear h1
              go_wp2_with (fail)
              go_roundw
              case rel => exact ⟨n + 1, by omega, by rw [HAN.out, HE.out]; rfl, by go_num, Lib.hid (Below.drewN' BL.out _)⟩
              case measure => simp [intOf]; omega
        · obtain rfl : n = O.length := by omega
          have hnI : ¬ (O.length : Int) < (O.length : Int) := by omega
          rw [List.take_length, any_mem]
          cases hd : decide (y ∈ O) with
          | true =>
            have hadd : addE O y = O := by unfold addE; rw [if_pos (of_decide_eq_true hd)]
            have HN := Lib.hid (And.intro hadd (And.intro (HR.out.1.kept hrel.out) hBl))
            clear hd hadd hBl hrel
            go_wp2_with (fail)
            go_roundw
            case rel => exact ⟨k + 1, by omega, by go_num, Lib.hid (by rw [HR.out.2.2.2, HN.out.1]; exact HN.out.2)⟩
            case measure => simp [intOf]; omega
          | false =>
            have hadd : addE O y = O ++ [y] := by unfold addE; rw [if_neg (of_decide_eq_false hd)]
            obtain ⟨v5, w5, hrun, h5, b5⟩ := (HR.out.1.kept hrel.out).push y (by omega) hBl.size
            have HN := Lib.hid (And.intro hadd (And.intro h5 (hBl.trans b5)))
            clear hd hadd hBl hrel h5 b5
            go_wp2_with (at_builtin; refine wpL_appK _ rfl (.tmp 32) (.tmp 37) 26 rfl rfl _ _ _ _ rfl rfl hrun ?_)
            go_roundw
            case rel => exact ⟨k + 1, by omega, by go_num, Lib.hid (by rw [HR.out.2.2.2, HN.out.1]; exact HN.out.2)⟩
            case measure => simp [intOf]; omega
    · obtain rfl : k = es.length := by omega
      have hlI : ¬ (es.length : Int) < (es.length : Int) := by omega
      rw [List.take_length] at hE3 ⊢
      have HF := Lib.hid (And.intro hE3 hrel.out.2)
      clear hE3 hrel hok hol
      go_wp2_with (fail)
      go_ret
      exact ⟨A3, c3, rfl, HF.out.1, HF.out.2⟩
end Go.Proofs.Ytgldcahhliokeaa
