/- The walk of WaitOne. -/
import Derived.Test.YtiadphgodhfhjabWoA
import Derived.Deep.Cut
import Derived.Deep.CutBlock
namespace Go.Proofs.Ytiadphgodhfhjab
open Go.RowKit

theorem ses_num (x : Int) : wrap64 (wrap64 ((IntKind.u64.wrap x).tmod 16) + 1) = (((x % 16).toNat + 1 : Nat) : Int) := by
  rw [IntKind.wrap_u64, Int.tmod_eq_emod_of_nonneg (by omega)]
  unfold wrap64
  omega
theorem ses_snoc {l : List Nat} (h : Ses l) {n : Nat} (hn : n ∉ l) (h1 : 1 ≤ n) (h2 : n ≤ 16) : Ses (l ++ [n]) := by
  refine ⟨?_, fun x hx => ?_⟩
  · rw [List.nodup_append]
    exact ⟨h.nd, List.pairwise_singleton _ _, fun a ha b hb => by rw [List.mem_singleton.1 hb]; exact fun e => hn (e ▸ ha)⟩
  · rcases List.mem_append.1 hx with hx | hx
    · exact h.bnd x hx
    · rw [List.mem_singleton.1 hx]; exact ⟨h1, h2⟩
/-- A pair more, behind a draw. -/
theorem app_pr1d (w : World) (base : Nat) (v : Value) (l : List (Int × Int)) (hown : OwnP w base v l) (hB : base ≤ w.heap.size) (x y : Int) (hl : l.length ≤ 5000) :
    ∃ A5 c5 w5, (Builtin.append_ #[22, 22] 22 #[v, .slice (some ⟨w.heap.size, 0, none⟩) 1 1]).run Try.prog (w.alloc (.cells #[.int .i64 x, .int .i64 y] 30)).drew = .ok (.slice A5 (l.length + 1) c5) w5 ∧ OwnP w5 base (.slice A5 (l.length + 1) c5) (l ++ [(x, y)]) ∧ Below base w w5 ∧ Fr w w5 v.ownBlock.toList := by
  have hb0 : Below w.heap.size w (w.alloc (.cells #[.int .i64 x, .int .i64 y] 30)).drew := ((Below.refl _ _).alloc (Nat.le_refl _) _).drew
  obtain ⟨A5, c5, w5, h1, h2, h3, -, h5⟩ := (hown.below hb0).app (A := some ⟨w.heap.size, 0, none⟩) (k := 1) (c := 1) (Nat.le_trans hB hb0.size) (m := [(x, y)]) rfl (rd_prs (l := [(x, y)]) (show (w.alloc (.cells #[.int .i64 x, .int .i64 y] 30)).drew.heap[w.heap.size]? = _ from heap_alloc_new w _)) (by simp; omega)
  exact ⟨A5, c5, w5, h1, h2, (lower' hb0 hB).trans h5, (Fr.of_below hb0 _).trans h3⟩
set_option maxRecDepth 100000 in
set_option maxHeartbeats 8000000 in
theorem waitOne_walk (A : Option Addr) (O : List Int) (c : Nat) (Ab : Option Addr) (B : List Int) (cb : Nat) (W : World) (h : IntL W A c O) (hb : O.length ≤ 17592186044416) (hi : IntL W Ab cb B) (hO : ∀ n ∈ O, -9223372036854775808 ≤ n ∧ n ≤ 9223372036854775807) :
    Calls Try.prog 7 #[.slice A O.length c, .slice Ab B.length cb] W fun e W' => e = .returned (.bool true) ∧ Below W.heap.size W W' := by
  have HA := Lib.hid (fun w => awake_any w)
  have hOI : (O.length : Int) ≤ 17592186044416 := by omega
  have HL := Lib.hid (And.intro h (And.intro hi (And.intro hO hb)))
  clear h hb hi hO
  go_enter Try.func7, Try.ntmps7
  go_wp2_with (go_at_call 9; (with_reducible refine (HA.out _).mono ?_); rintro e w1 ⟨rfl, hb1⟩; have H1 := Lib.hid hb1; clear hb1)
  go_loopg [5, 28] O.length (fun gk v5 v28 wr => ∃ (A5 : Option Addr) (c5 : Nat) (l : List Nat) (k : Nat), k ≤ O.length ∧ k + gk = O.length ∧ l.length ≤ 16 ∧ v5 = .slice A5 l.length c5 ∧ v28 = .int .i64 (k : Int) ∧ Hid (OwnZ wr w1.heap.size (.slice A5 l.length c5) (natZ l) ∧ Ses l ∧ Below w1.heap.size w1 wr))
  case atStart => exact ⟨none, 0, [], 0, by omega, by omega, by simp, rfl, rfl, Lib.hid ⟨OwnZ.nil _ _, ⟨.nil, fun _ h => nomatch h⟩, Below.refl _ _⟩⟩
  case round =>
    obtain ⟨A5, c5, l, k, hk, hkg, hll, rfl, rfl, hrel⟩ := hrel
    have HBW := Lib.hid (H1.out.trans (lower' hrel.out.2.2 H1.out.size))
    have hlI : (l.length : Int) ≤ 16 := by omega
    by_cases hlt : k < O.length
    · have hkI : (k : Int) < (O.length : Int) := by omega
      obtain ⟨ab, ao, rfl, -, q0⟩ := (HL.out.1.below HBW.out).cell hlt
      obtain ⟨x, hx⟩ : ∃ x, x = O[k] := ⟨_, rfl⟩
      have hxb := HL.out.2.2.1 x (by rw [hx]; exact List.getElem_mem hlt)
      rw [← hx] at q0
      have HK := Lib.hid (And.intro hlt (And.intro hkg hll))
      clear hx hlt hkg hll hk
      go_upto_region 8 with (fail)
      rw [ses_num x]
      obtain ⟨n, hn⟩ : ∃ n, n = (x % 16).toNat + 1 := ⟨_, rfl⟩
      have hn1 : 1 ≤ n ∧ n ≤ 16 := by omega
      rw [← hn]
      have HN := Lib.hid hn1
      clear hn hn1 hxb q0
      go_wp2_with (fail)
      go_loopg [9, 39] 20 (fun g2 v9 v39 wq => ∃ (j : Nat) (t : Bool), j ≤ l.length ∧ j + g2 = 20 ∧ v9 = .bool t ∧ v39 = .int .i64 (j : Int) ∧ Hid (wr = wq ∧ (t = true ↔ n ∈ l.take j)))
      case atStart => exact ⟨0, false, by omega, by omega, rfl, rfl, Lib.hid ⟨rfl, by simp⟩⟩
      case round =>
        rename Nat => g2
        rename World => wq
        obtain ⟨j, t, hj, hjg, rfl, rfl, hrel2⟩ := hrel
        obtain rfl : wr = wq := hrel2.out.1
        by_cases hjl : j < l.length
        · have hjI : (j : Int) < (l.length : Int) := by omega
          obtain ⟨g5, rfl, -, -, -, hcl⟩ := hrel.out.1.at (by rw [natZ_len]; omega)
          have r0 := hcl j (by rw [natZ_len]; exact hjl)
          rw [natZ_at] at r0
          obtain ⟨y, hy⟩ : ∃ y, y = l.getD j 0 := ⟨_, rfl⟩
          rw [← hy] at r0
          have htk : l.take (j + 1) = l.take j ++ [y] := by rw [List.take_succ_eq_append_getElem hjl, hy, List.getD_eq_getElem?_getD, List.getElem?_eq_getElem hjl]; rfl
          have HJ := Lib.hid (And.intro hjl (And.intro hjg htk))
          clear hjl hjg htk hy hcl hj
          cases t
          · by_cases e : y = n
            · subst e
              go_wp2_with (fail)
              go_roundg (g2 - 1)
              case rel => exact ⟨j + 1, true, HJ.out.1, by have := HJ.out.2.1; omega, rfl, by go_num, Lib.hid ⟨rfl, by rw [HJ.out.2.2]; simp⟩⟩
              case measure => have := HJ.out; omega
            · have hx2 : ((y : Int) == (n : Int)) = false := by rw [beq_eq_false_iff_ne]; omega
              have HE := Lib.hid e
              clear e
              go_wp2_with (fail)
              go_roundg (g2 - 1)
              case rel => exact ⟨j + 1, false, HJ.out.1, by have := HJ.out.2.1; omega, rfl, by go_num, Lib.hid ⟨rfl, by
                rw [HJ.out.2.2, hrel2.out.2, List.mem_append, List.mem_singleton]
                exact ⟨.inl, fun h => h.elim id fun h => absurd h.symm HE.out⟩⟩⟩
              case measure => have := HJ.out; omega
          · go_wp2_with (fail)
            go_roundg (g2 - 1)
            case rel => exact ⟨j + 1, true, HJ.out.1, by have := HJ.out.2.1; omega, rfl, by go_num, Lib.hid ⟨rfl, by
              rw [HJ.out.2.2, List.mem_append]
              exact ⟨fun _ => .inl (hrel2.out.2.1 (by simp)), fun _ => by simp⟩⟩⟩
            case measure => have := HJ.out; omega
        · obtain rfl : j = l.length := by omega
          have hz : ¬ (l.length : Int) < (l.length : Int) := by omega
          have hmem := hrel2.out.2
          rw [List.take_length] at hmem
          have HM := Lib.hid hmem
          clear hmem hrel2 hjl hjg hj
          cases t
          · have hnl : n ∉ l := fun h => Bool.false_ne_true (HM.out.2 h)
            have hsn := ses_snoc hrel.out.2.1 hnl HN.out.1 HN.out.2
            obtain ⟨A6, c6, w6, hrun, hown, -, -, hb6⟩ := app_intZ wr w1.heap.size (.slice A5 l.length c5) (natZ l) hrel.out.1 hrel.out.2.2.size (n : Int) (by rw [natZ_len]; omega)
            rw [natZ_len] at hrun hown
            have HX := Lib.hid (And.intro hown (And.intro hsn (And.intro (hrel.out.2.2.trans hb6) hsn.len)))
            clear hnl hsn hown hb6
            go_wp2_with (at_builtin; refine wpL_appK _ rfl (.tmp 52) (.tmp 54) 25 rfl rfl _ _ _ _ rfl rfl hrun ?_)
            go_roundg (gk - 1)
            case rel => exact ⟨A6, c6, l ++ [n], k + 1, HK.out.1, by have := HK.out; omega, HX.out.2.2.2, by rw [List.length_append]; rfl, by go_num, Lib.hid ⟨by rw [List.length_append, natZ_app]; exact HX.out.1, HX.out.2.1, HX.out.2.2.1⟩⟩
            case measure => have := HK.out; omega
          · go_wp2_with (fail)
            go_roundg (gk - 1)
            case rel => exact ⟨A5, c5, l, k + 1, HK.out.1, by have := HK.out; omega, HK.out.2.2, rfl, by go_num, hrel⟩
            case measure => have := HK.out; omega
    · obtain rfl : k = O.length := by omega
      have hz : ¬ (O.length : Int) < (O.length : Int) := by omega
      clear hk hkg hlt
      by_cases hl0 : l.length = 0
      · go_wp2_with (fail)
        go_ret
        exact ⟨rfl, HBW.out⟩
      · have hlz : ((l.length : Int) == 0) = false := by rw [beq_eq_false_iff_ne]; omega
        obtain ⟨g5, rfl, hgw, -, -, hcl⟩ := hrel.out.1.at (by rw [natZ_len]; omega)
        have hpI : (0 : Int) < (l.length : Int) := by omega
        have hc0 := hcl 0 (by rw [natZ_len]; omega)
        rw [natZ_at] at hc0
        obtain ⟨y0, hy0⟩ : ∃ y, y = l.getD 0 0 := ⟨_, rfl⟩
        rw [← hy0] at hc0
        have hil : IntL wr (some ⟨g5, 0, none⟩) c5 (natZ l) := by
          obtain ⟨A7, c7, e7, hi7⟩ := hrel.out.1.il
          injection e7 with e7 _ e8
          subst e7 e8
          exact hi7
        have HLL := Lib.hid (And.intro hrel.out.2.1 (And.intro hil (And.intro (show 0 < l.length by omega) hy0)))
        clear hcl hl0 hil hy0 hgw hrel hll
        go_upto_region 21 with (fail)
        go_wp2_with (fail)
        go_loopg [12, 14] 20 (fun gk v12 v14 wq => ∃ (A8 : Option Addr) (c8 i : Nat), i + 1 ≤ l.length ∧ i + gk = 20 ∧ v12 = .slice A8 (rowE l i).length c8 ∧ v14 = .int .i64 (i : Int) ∧ Hid (OwnP wq wr.heap.size (.slice A8 (rowE l i).length c8) (rowE l i) ∧ Below wr.heap.size wr wq))
        case atStart => exact ⟨none, 0, 0, by omega, by omega, rfl, rfl, Lib.hid ⟨OwnP.nil _ _, Below.refl _ _⟩⟩
        case round =>
          rename World => wq
          obtain ⟨A8, c8, i, hi1, hig, rfl, rfl, hrel⟩ := hrel
          have hBQ := HBW.out.trans (lower' hrel.out.2 HBW.out.size)
          have HBQ := Lib.hid hBQ
          clear hBQ
          by_cases hlt : i + 1 < l.length
          · have hiI : (i : Int) + 1 < (l.length : Int) := by omega
            have hiI2 : (i : Int) < (l.length : Int) := by omega
            have hilq := HLL.out.2.1.below hrel.out.2
            obtain ⟨gb, go', eg, -, x0⟩ := hilq.cell (k := i) (by rw [natZ_len]; omega)
            injection eg with eg
            injection eg with eg1 eg2
            subst eg1 eg2
            obtain ⟨gb, go', eg, -, x1⟩ := hilq.cell (k := i + 1) (by rw [natZ_len]; omega)
            injection eg with eg
            injection eg with eg1 eg2
            subst eg1 eg2
            rw [natZ_at, Nat.zero_add] at x0 x1
            have hsc := rowE_succ l i
            have hrl := rowE_len l i
            obtain ⟨P, hP⟩ : ∃ P, P = rowE l i := ⟨_, rfl⟩
            rw [← hP] at hrel hsc hrl ⊢
            obtain ⟨x, hx⟩ : ∃ x, x = l.getD i 0 := ⟨_, rfl⟩
            obtain ⟨y, hy⟩ : ∃ y, y = l.getD (i + 1) 0 := ⟨_, rfl⟩
            rw [← hx] at x0 hsc
            rw [← hy] at x1 hsc
            obtain ⟨A9, c9, w9, hrun, hown, hb9, -⟩ := app_pr1d wq wr.heap.size (.slice A8 P.length c8) P hrel.out.1 hrel.out.2.size (x : Int) (y : Int) (by omega)
            have hil9 := HLL.out.2.1.below (hrel.out.2.trans hb9)
            obtain ⟨gb, go', eg, -, y0'⟩ := hil9.cell (k := i) (by rw [natZ_len]; omega)
            injection eg with eg
            injection eg with eg1 eg2
            subst eg1 eg2
            obtain ⟨gb, go', eg, -, y1'⟩ := hil9.cell (k := i + 1) (by rw [natZ_len]; omega)
            injection eg with eg
            injection eg with eg1 eg2
            subst eg1 eg2
            rw [natZ_at, Nat.zero_add, ← hx] at y0'
            rw [natZ_at, Nat.zero_add, ← hy] at y1'
            have hwr : IntKind.i64.wrap ((i : Int) + 1) = (i : Int) + 1 := by rw [IntKind.wrap_i64]; omega
            have hnn : (0 : Int) ≤ (i : Int) + 1 := by omega
            have htn : ((i : Int) + 1).toNat = i + 1 := by omega
            have HX := Lib.hid (And.intro hown (And.intro (hrel.out.2.trans hb9) (And.intro hsc (And.intro hlt hig))))
            clear hown hb9 hil9 hsc hrl hP hx hy hlt hig hilq
            go_upto_region 24 with (fail)
            go_region_held3 (fun w' => w'.cell? ⟨g5, i, none⟩ = some (.int .i64 (x : Int)) ∧ w'.cell? ⟨g5, i + 1, none⟩ = some (.int .i64 (y : Int)))
              (first | go_keep | (with_reducible exact ⟨y0', y1'⟩))
              ((refine step_appK _ (by rfl) (.tmp 70) (.tmp 81) 22 rfl rfl _ _ _ _ rfl rfl hrun ?_))
            go_wp2_with (fail)
            go_roundg (gk - 1)
            case rel => exact ⟨A9, c9, i + 1, by have := HX.out.2.2.2; omega, by have := HX.out.2.2.2; omega, by rw [HX.out.2.2.1, List.length_append]; rfl, by go_num, by rw [HX.out.2.2.1, List.length_append]; exact Lib.hid ⟨HX.out.1, HX.out.2.1⟩⟩
            case measure => have := HX.out.2.2.2; omega
          · obtain ⟨n, hn⟩ : ∃ n, l.length = n + 1 := ⟨l.length - 1, by omega⟩
            obtain rfl : i = n := by omega
            have hil := HLL.out.2.1.below hrel.out.2
            have hprl := hrel.out.1.prl
            have HRW := Lib.hid (And.intro hrel.out.1 (And.intro hn (And.intro (show l.length - 1 = i by omega) hrel.out.2)))
            have hrl := rowE_len l i
            rw [hrl] at HRW hprl ⊢
            obtain ⟨A9, c9, e9, hp9⟩ := hprl
            injection e9 with e9 e10 e11
            subst e9 e11
            clear e10
            have HP9 := Lib.hid (And.intro hp9 hil)
            have hnI : (i : Int) + 1 ≤ 16 := by omega
            have hz : ¬ (i : Int) + 1 < (l.length : Int) := by omega
            rw [hn] at hz hlI hlz hpI ⊢
            clear hp9 hil hrl hig hi1 hlt hrel hn
            go_wp2_with (fail)
            go_loopg [13, 85] 20 (fun g2 v13 v85 wz => ∃ k v : Nat, k ≤ i + 1 ∧ k + g2 = 20 ∧ v13 = .int .i64 (v : Int) ∧ v85 = .int .i64 (k : Int) ∧ Hid (BestW (birthF B) l k v ∧ wq = wz))
            case atStart => exact ⟨0, y0, by omega, by omega, rfl, rfl, Lib.hid ⟨by rw [HLL.out.2.2.2]; exact BestW.start HLL.out.2.2.1, rfl⟩⟩
            case round =>
              rename Nat => g2
              rename World => wz
              obtain ⟨k, v, hk, hkg, rfl, rfl, hrel2⟩ := hrel
              obtain rfl : wq = wz := hrel2.out.2
              by_cases hkl : k < i + 1
              · have hkI : (k : Int) < (i : Int) + 1 := by omega
                have hkl2 : k < l.length := by rw [HRW.out.2.1]; exact hkl
                obtain ⟨gb, go', eg, -, s0⟩ := HP9.out.2.cell (k := k) (by rw [natZ_len]; exact hkl2)
                injection eg with eg
                injection eg with eg1 eg2
                subst eg1 eg2
                rw [natZ_at, Nat.zero_add] at s0
                obtain ⟨x, hx⟩ : ∃ x, x = l.getD k 0 := ⟨_, rfl⟩
                rw [← hx] at s0
                have hx16 : x ≤ 16 := by rw [hx]; exact (HLL.out.1.bnd _ (getD_mem0 hkl2)).2
                have hv16 : v ≤ 16 := (HLL.out.1.bnd _ hrel2.out.1.mem).2
                have hturn := hrel2.out.1.turn hkl2 hx
                have hkeep := hrel2.out.1.keep hkl2 hx
                have ca := age_any wq (HL.out.2.1.below HBQ.out) x hx16
                have cv := age_any wq (HL.out.2.1.below HBQ.out) v hv16
                obtain ⟨bx, hbx⟩ : ∃ bx, bx = birthF B x := ⟨_, rfl⟩
                obtain ⟨bv, hbv⟩ : ∃ bv, bv = birthF B v := ⟨_, rfl⟩
                rw [← hbx] at ca hturn hkeep
                rw [← hbv] at cv hturn hkeep
                have HCA := Lib.hid (And.intro ca cv)
                have HJ := Lib.hid (And.intro hkl (And.intro hkg (And.intro hturn hkeep)))
                clear hx ca cv hbx hbv hkl hkg hk hkl2 hx16 hv16 hturn hkeep
                have hcase : bv < bx ∨ (bx = bv ∧ v < x) ∨ (bx = bv ∧ ¬ v < x) ∨ bx < bv := by omega
                rcases hcase with h1 | ⟨h1, h2⟩ | ⟨h1, h2⟩ | h1
                · go_wp2_with (first
                    | (go_at_call 21; (with_reducible refine HCA.out.1.mono ?_); rintro e w12 ⟨rfl, h12⟩; obtain rfl : wq = w12 := h12.symm)
                    | (go_at_call 21; (with_reducible refine HCA.out.2.mono ?_); rintro e w12 ⟨rfl, h12⟩; obtain rfl : wq = w12 := h12.symm))
                  go_roundg (g2 - 1)
                  case rel => exact ⟨k + 1, x, HJ.out.1, by have := HJ.out.2.1; omega, rfl, by go_num, Lib.hid ⟨HJ.out.2.2.1 (.inl h1), rfl⟩⟩
                  case measure => have := HJ.out.1; have := HJ.out.2.1; omega
                · subst h1
                  have h3 : (v : Int) < (x : Int) := by omega
                  go_wp2_with (first
                    | (go_at_call 21; (with_reducible refine HCA.out.1.mono ?_); rintro e w12 ⟨rfl, h12⟩; obtain rfl : wq = w12 := h12.symm)
                    | (go_at_call 21; (with_reducible refine HCA.out.2.mono ?_); rintro e w12 ⟨rfl, h12⟩; obtain rfl : wq = w12 := h12.symm))
                  go_roundg (g2 - 1)
                  case rel => exact ⟨k + 1, x, HJ.out.1, by have := HJ.out.2.1; omega, rfl, by go_num, Lib.hid ⟨HJ.out.2.2.1 (by simp [h2]), rfl⟩⟩
                  case measure => have := HJ.out.1; have := HJ.out.2.1; omega
                · subst h1
                  have h3 : (x : Int) ≤ (v : Int) := by omega
                  go_wp2_with (first
                    | (go_at_call 21; (with_reducible refine HCA.out.1.mono ?_); rintro e w12 ⟨rfl, h12⟩; obtain rfl : wq = w12 := h12.symm)
                    | (go_at_call 21; (with_reducible refine HCA.out.2.mono ?_); rintro e w12 ⟨rfl, h12⟩; obtain rfl : wq = w12 := h12.symm))
                  go_roundg (g2 - 1)
                  case rel => exact ⟨k + 1, v, HJ.out.1, by have := HJ.out.2.1; omega, rfl, by go_num, Lib.hid ⟨HJ.out.2.2.2 (fun h => by omega), rfl⟩⟩
                  case measure => have := HJ.out.1; have := HJ.out.2.1; omega
                · have h3 : (bx == bv) = false := by rw [beq_eq_false_iff_ne]; omega
                  have h4 : bx ≤ bv := by omega
                  go_wp2_with (first
                    | (go_at_call 21; (with_reducible refine HCA.out.1.mono ?_); rintro e w12 ⟨rfl, h12⟩; obtain rfl : wq = w12 := h12.symm)
                    | (go_at_call 21; (with_reducible refine HCA.out.2.mono ?_); rintro e w12 ⟨rfl, h12⟩; obtain rfl : wq = w12 := h12.symm))
                  go_roundg (g2 - 1)
                  case rel => exact ⟨k + 1, v, HJ.out.1, by have := HJ.out.2.1; omega, rfl, by go_num, Lib.hid ⟨HJ.out.2.2.2 (fun h => by omega), rfl⟩⟩
                  case measure => have := HJ.out.1; have := HJ.out.2.1; omega
              · obtain rfl : k = i + 1 := by omega
                have hz2 : ¬ (i : Int) + 1 < (i : Int) + 1 := by omega
                have hy : Yst (birthF B) l v := by
                  have := hrel2.out.1
                  rw [← HRW.out.2.1] at this
                  exact this.fin
                have hgood : goodE (rowE l i) := by rw [← HRW.out.2.2.1]; exact HLL.out.1.row_good
                have hnone : caughtL (EdR (rowE l i)) = [] := by rw [← HRW.out.2.2.1]; exact HLL.out.1.row_none
                have hring : rowE l i ++ [(((l.getD i 0 : Nat) : Int), (y0 : Int))] = ringE l := by rw [HLL.out.2.2.2]; unfold ringE; rw [HRW.out.2.2.1]
                have hca := Caught_yes wq HP9.out.1 hgood
                rw [rowE_len] at hca
                have HY := Lib.hid (And.intro hy (And.intro hnone hring))
                have HCA := Lib.hid hca
                clear hca hgood hy hnone hring hrel2 hkl hkg hk
                go_upto_region 32 with (go_at_call 11; (with_reducible refine HCA.out.mono ?_); rintro e w10 ⟨A10, c10, rfl, -, hb10⟩; rw [HY.out.2.1]; have H10 := Lib.hid hb10; clear hb10)
                have hilq := HP9.out.2.below H10.out
                obtain ⟨gb, go', eg, -, x0⟩ := hilq.cell (k := i) (by rw [natZ_len, HRW.out.2.1]; omega)
                injection eg with eg
                injection eg with eg1 eg2
                subst eg1 eg2
                obtain ⟨gb, go', eg, -, x1⟩ := hilq.cell (k := 0) (by rw [natZ_len]; exact HLL.out.2.2.1)
                injection eg with eg
                injection eg with eg1 eg2
                subst eg1 eg2
                rw [natZ_at, Nat.zero_add] at x0 x1
                rw [← HLL.out.2.2.2] at x1
                obtain ⟨x, hx⟩ : ∃ x, x = l.getD i 0 := ⟨_, rfl⟩
                rw [← hx] at x0 HY
                have hsz10 := HBQ.out
                obtain ⟨A11, c11, w11, hrun, hown, hb11, -⟩ := app_pr1d w10 wr.heap.size (.slice A8 i c8) (rowE l i) (HRW.out.1.below H10.out) (Nat.le_trans HRW.out.2.2.2.size H10.out.size) (x : Int) (y0 : Int) (by rw [rowE_len]; omega)
                rw [rowE_len] at hrun hown
                rw [HY.out.2.2] at hown
                have hil11 := HLL.out.2.1.below (HRW.out.2.2.2.trans ((lower' H10.out HRW.out.2.2.2.size).trans hb11))
                obtain ⟨gb, go', eg, -, y0'⟩ := hil11.cell (k := i) (by rw [natZ_len, HRW.out.2.1]; omega)
                injection eg with eg
                injection eg with eg1 eg2
                subst eg1 eg2
                obtain ⟨gb, go', eg, -, y1'⟩ := hil11.cell (k := 0) (by rw [natZ_len]; exact HLL.out.2.2.1)
                injection eg with eg
                injection eg with eg1 eg2
                subst eg1 eg2
                rw [natZ_at, Nat.zero_add] at y0' y1'
                rw [← HLL.out.2.2.2] at y1'
                rw [← hx] at y0'
                have hwr : IntKind.i64.wrap ((i : Int) + 1 - 1) = (i : Int) := by rw [IntKind.wrap_i64]; omega
                have hwr2 : IntKind.i64.wrap (i : Int) = (i : Int) := by rw [IntKind.wrap_i64]; omega
                have hil0 : (i : Int) < (i : Int) + 1 := by omega
                have hil1 : (0 : Int) < (i : Int) + 1 := by omega
                have hw11 := HBW.out.trans (lower' (HRW.out.2.2.2.trans ((lower' H10.out HRW.out.2.2.2.size).trans hb11)) HBW.out.size)
                have hrL : (ringE l).length = i + 1 := by rw [← HY.out.2.2, List.length_append, rowE_len]; rfl
                rw [← hrL] at hown
                obtain ⟨A12, c12, e12, hp12⟩ := hown.prl
                injection e12 with e12 e13 e14
                subst e12 e14
                clear e13
                have hg12 := HLL.out.1.ring_good HLL.out.2.2.1
                have hc12 := Caught_yes w11 hp12 hg12
                have hb12 := fun (w : World) (hw : Below w11.heap.size w11 w) => Break_yes w (hp12.below hw) hg12 (HL.out.2.1.below (hw11.trans (lower' hw hw11.size)))
                rw [hrL] at hc12 hb12
                have hrn := HLL.out.1.ring_len HLL.out.2.2.1
                rw [HRW.out.2.1] at hrn
                have HC12 := Lib.hid (And.intro hc12 (And.intro hb12 (And.intro hrn hw11)))
                have hvc := HLL.out.1.ring_vics HLL.out.2.2.1 HY.out.1
                have HVC := Lib.hid hvc
                clear hilq hil11 hx hsz10 hown hb11 hw11 hrL hp12 hg12 hc12 hb12 hrn hvc
                go_region_held3 (fun w' => w'.cell? ⟨g5, i, none⟩ = some (.int .i64 (x : Int)) ∧ w'.cell? ⟨g5, 0, none⟩ = some (.int .i64 (y0 : Int)))
                  (first | go_keep | (with_reducible exact ⟨y0', y1'⟩))
                  ((refine step_appK _ (by rfl) (.tmp 117) (.tmp 128) 22 rfl rfl _ _ _ _ rfl rfl hrun ?_))
                clear hrun x0 x1 y0' y1'
                go_upto_region 34 with (go_at_call 11; (with_reducible refine HC12.out.1.mono ?_); rintro e w13 ⟨A13, c13, rfl, -, hb13⟩; rw [HC12.out.2.2.1]; have H13 := Lib.hid hb13; clear hb13)
                go_upto_region 35 with (go_at_call 18; (with_reducible refine (HC12.out.2.1 _ H13.out).mono ?_); rintro e w14 ⟨A14, c14, V, rfl, ho14, hv14, hb14⟩; obtain rfl : V = [v] := hv14.uniq HVC.out; have H14 := Lib.hid (And.intro ho14 (H13.out.trans (lower' hb14 H13.out.size))); clear ho14 hv14 hb14)
                obtain ⟨A15, c15, e15, hi15⟩ := H14.out.1.il
                injection e15 with e15 e16 e17
                subst e15 e17
                clear e16
                have hb16 : Below w14.heap.size w14 (w14.alloc (.cells #[.int .i64 (v : Int)] 3)) := (Below.refl _ _).alloc (Nat.le_refl _) _
                have hin := intsZ_any _ (hi15.below hb16) (il_lit (l := [(v : Int)]) (heap_alloc_new w14 (.cells #[.int .i64 (v : Int)] 3))) (by simp [natZ])
                have HIN := Lib.hid (show Calls Try.prog 13 #[.slice A14 1 c14, .slice (some ⟨w14.heap.size, 0, none⟩) 1 1] (w14.alloc (.cells #[.int .i64 (v : Int)] 3)) (fun e w' => e = .returned (.bool true) ∧ Below w14.heap.size w14 w') from hin.mono fun e w' ⟨he, hb⟩ => ⟨by rw [he, decide_eq_true (show natZ [v] = [(v : Int)] from rfl)], hb16.trans (lower' hb hb16.size)⟩)
                clear hi15 hb16 hin
                go_wp2_with (go_at_call 13; (with_reducible refine HIN.out.mono ?_); rintro e w17 ⟨rfl, hb17⟩)
                go_ret
                have h14 := HC12.out.2.2.2.trans (lower' H14.out.2 HC12.out.2.2.2.size)
                exact ⟨rfl, h14.trans (lower' hb17 h14.size)⟩
end Go.Proofs.Ytiadphgodhfhjab
