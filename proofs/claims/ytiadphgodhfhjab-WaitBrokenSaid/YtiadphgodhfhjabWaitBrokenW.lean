/- The walk of WaitBroken. -/
import Derived.Test.YtiadphgodhfhjabWtR
import Derived.Deep.Cut
namespace Go.Proofs.Ytiadphgodhfhjab
open Go.RowKit

set_option maxRecDepth 100000 in
set_option maxHeartbeats 8000000 in
theorem waitBroken_walk (A : Option Addr) (L : List (Int × Int)) (c : Nat) (Ab : Option Addr) (B : List Int) (cb : Nat) (W : World) (h : PrL W A c L) (hb : L.length ≤ 8796093022208) (hi : IntL W Ab cb B) (hB : B.length ≤ 17592186044416) :
    Calls Try.prog 6 #[.slice A L.length c, .slice Ab B.length cb] W fun e W' => e = .returned (.bool true) ∧ Below W.heap.size W W' := by
  have HA := Lib.hid (fun w => awake_any w)
  by_cases hl : L.length ≤ 256
  · have hlI : (L.length : Int) ≤ 256 := by omega
    have HL := Lib.hid (And.intro h (And.intro hl hi))
    have HO := Lib.hid (fun (w : World) (hw : Below W.heap.size W w) => own_any w (h.below hw) (by omega))
    clear h hl hb hi hB
    by_cases hg : goodE L
    · have HG := Lib.hid hg
      clear hg
      go_enter Try.func6, Try.ntmps6
      go_upto_region 6 with (first
        | (go_at_call 9; (with_reducible refine (HA.out _).mono ?_); rintro e w1 ⟨rfl, hb1⟩; have H1 := Lib.hid hb1; clear hb1)
        | (go_at_call 10; (with_reducible refine (HO.out _ H1.out).mono ?_); rintro e w2 ⟨A2, c2, rfl, ho2, hb2⟩; have H2 := Lib.hid (And.intro ho2 (H1.out.trans (lower' hb2 H1.out.size))); clear ho2 hb2; obtain ⟨A2', c2', e2, hp2⟩ := H2.out.1.prl; injection e2 with e2 e3 e4; subst e2 e4; clear e3; have HV := Lib.hid (Break_yes w2 hp2 HG.out (HL.out.2.2.below H2.out.2)); clear hp2)
        | (go_at_call 18; (with_reducible refine HV.out.mono ?_); rintro e w3 ⟨A3, c3, V, rfl, ho3, hv3, hb3⟩; have H3 := Lib.hid (And.intro ho3 (And.intro hv3 (H2.out.2.trans (lower' hb3 H2.out.2.size)))); clear ho3 hv3 hb3))
      obtain ⟨A4, c4, e4, hi4⟩ := H3.out.1.il
      injection e4 with e4 e5 e6
      subst e4 e6
      clear e5
      have hvl := H3.out.2.1.1.len
      have hvI : (V.length : Int) ≤ 16 := by omega
      have HI4 := Lib.hid hi4
      clear hi4 hvl
      go_wp2_with (go_at_call 10; (with_reducible refine (HO.out _ H3.out.2.2).mono ?_); rintro e w5 ⟨A5, c5, rfl, ho5, hb5⟩; have H5 := Lib.hid (And.intro ho5 (And.intro hb5 (H3.out.2.2.trans (lower' hb5 H3.out.2.2.size)))); clear ho5 hb5)
      obtain ⟨A5', c5', e5, hp5⟩ := H5.out.1.prl
      injection e5 with e5 e6 e7
      subst e5 e7
      clear e6
      have HP5 := Lib.hid hp5
      clear hp5
      go_loopg [7, 43] 20 (fun gk v7 v43 wr => ∃ (A7 : Option Addr) (c7 : Nat) (E : List (Int × Int)) (i : Nat), i ≤ V.length ∧ i + gk = 20 ∧ v7 = .slice A7 E.length c7 ∧ v43 = .int .i64 (i : Int) ∧ Hid (PrL wr A7 c7 E ∧ goodE E ∧ EdR E = Off (EdR L) (V.take i) ∧ Below w5.heap.size w5 wr))
      case atStart => exact ⟨A5, c5, L, 0, by omega, by omega, rfl, rfl, Lib.hid ⟨HP5.out, HG.out, by rw [List.take_zero, off_nil], Below.refl _ _⟩⟩
      case round =>
        obtain ⟨A7, c7, E, i, hik, hig, rfl, rfl, hrel⟩ := hrel
        have hbW := H5.out.2.2.trans (lower' hrel.out.2.2.2 H5.out.2.2.size)
        have h35 := H5.out.2.1.trans (lower' hrel.out.2.2.2 H5.out.2.1.size)
        have HBW := Lib.hid (And.intro hbW h35)
        clear hbW h35
        by_cases hlt : i < V.length
        · have hiI : (i : Int) < (V.length : Int) := by omega
          obtain ⟨lb, lo, rfl, -, q0⟩ := (HI4.out.below HBW.out.2).cell (k := i) (by rw [natZ_len]; exact hlt)
          rw [natZ_at] at q0
          obtain ⟨v, hv⟩ : ∃ v, v = V.getD i 0 := ⟨_, rfl⟩
          rw [← hv] at q0
          have hve : V[i] = v := by rw [hv, List.getD_eq_getElem?_getD, List.getElem?_eq_getElem hlt]; rfl
          have hy := H3.out.2.1.1.each i hlt
          rw [← hrel.out.2.2.1, hve] at hy
          have hvm := mem_caughtL.1 hy.mem
          have htk : V.take (i + 1) = V.take i ++ [v] := by rw [List.take_succ_eq_append_getElem hlt, hve]
          have hel := hrel.out.2.1.1
          have helI : (E.length : Int) ≤ 256 := by omega
          have HRg := Lib.hid (Ring_yes wr hrel.out.1 hrel.out.2.1 v hvm.1 hvm.2)
          have HK := Lib.hid (And.intro hlt (And.intro hig (And.intro hy (And.intro hvm.1 htk))))
          clear hlt hig hv hve hy hvm htk hik hel
          go_upto_region 14 with (first
            | (go_at_call 15; (with_reducible refine HRg.out.mono ?_); rintro e w8 ⟨A8, c8, r, rfl, -, hr8, -, -, hb8⟩; have hrp := hr8.pos; have hrz : ((r.length : Int) == 0) = false := (by rw [beq_eq_false_iff_ne]; omega); have H8 := Lib.hid hb8; clear hb8 hr8 hrp; have HCg := Lib.hid (Caught_yes w8 (hrel.out.1.below H8.out) hrel.out.2.1))
            | (go_at_call 11; (with_reducible refine HCg.out.mono ?_); rintro e w9 ⟨A9, c9, rfl, ho9, hb9⟩; have H9 := Lib.hid (And.intro ho9 (H8.out.trans (lower' hb9 H8.out.size))); clear ho9 hb9))
          obtain ⟨A10, c10, e10, hi10⟩ := H9.out.1.il
          injection e10 with e10 e11 e12
          subst e10 e12
          clear e11
          have hQl := caught_len (EdR E)
          obtain ⟨Q, hQ⟩ : ∃ Q, Q = caughtL (EdR E) := ⟨_, rfl⟩
          have hyQ := HK.out.2.2.1
          have hQb : ∀ y ∈ Q, y ≤ 16 := fun y hy => by rw [hQ] at hy; exact mem_caught16 y hy
          rw [← hQ] at hi10 hQl hyQ ⊢
          have hqI : (Q.length : Int) ≤ 16 := by omega
          have HQ := Lib.hid (And.intro hi10 (And.intro hQl (And.intro hyQ hQb)))
          have hW9 := HBW.out.1.trans (lower' H9.out.2 HBW.out.1.size)
          have HW9 := Lib.hid hW9
          clear hi10 hQl hyQ hQb hQ hW9
          go_wp2_with (fail)
          go_loopg [71] 20 (fun g2 v71 wq => ∃ j : Nat, j ≤ Q.length ∧ j + g2 = 20 ∧ v71 = .int .i64 (j : Int) ∧ Hid (w9 = wq))
          case atStart => exact ⟨0, by omega, by omega, rfl, Lib.hid rfl⟩
          case round =>
            rename Nat => g2
            rename World => wq
            obtain ⟨j, hj, hjg, rfl, hrel2⟩ := hrel
            obtain rfl : w9 = wq := hrel2.out
            by_cases hjl : j < Q.length
            · have hjI : (j : Int) < (Q.length : Int) := by omega
              obtain ⟨sb, so, rfl, -, s0⟩ := HQ.out.1.cell (k := j) (by rw [natZ_len]; exact hjl)
              rw [natZ_at] at s0
              obtain ⟨x, hx⟩ : ∃ x, x = Q.getD j 0 := ⟨_, rfl⟩
              rw [← hx] at s0
              have hxm : x ∈ Q := by rw [hx]; exact getD_mem0 hjl
              have htop := HQ.out.2.2.1.top x hxm
              have ca := age_any w9 (HL.out.2.2.below HW9.out) x (HQ.out.2.2.2 x hxm)
              have cv := age_any w9 (HL.out.2.2.below HW9.out) v (by have := HK.out.2.2.2.1; omega)
              obtain ⟨bx, hbx⟩ : ∃ bx, bx = birthF B x := ⟨_, rfl⟩
              obtain ⟨bv, hbv⟩ : ∃ bv, bv = birthF B v := ⟨_, rfl⟩
              rw [← hbx] at ca htop
              rw [← hbv] at cv htop
              have hle : ¬ bv < bx := by omega
              have HCA := Lib.hid (And.intro ca cv)
              have HJ := Lib.hid (And.intro hjl hjg)
              clear hx hxm htop ca cv hbx hbv hjl hjg hj
              go_wp2_with (first
                | (go_at_call 21; (with_reducible refine HCA.out.1.mono ?_); rintro e w12 ⟨rfl, h12⟩; obtain rfl : w9 = w12 := h12.symm)
                | (go_at_call 21; (with_reducible refine HCA.out.2.mono ?_); rintro e w12 ⟨rfl, h12⟩; obtain rfl : w9 = w12 := h12.symm))
              go_roundg (g2 - 1)
              case rel => exact ⟨j + 1, HJ.out.1, by have := HJ.out; omega, by go_num, Lib.hid rfl⟩
              case measure => have := HJ.out; have := HQ.out.2.1; omega
            · obtain rfl : j = Q.length := by omega
              have hz : ¬ (Q.length : Int) < (Q.length : Int) := by omega
              have hPE := hrel.out.1.below H9.out.2
              have HPE := Lib.hid (And.intro hPE (And.intro hrel.out.2.1 hrel.out.2.2.1))
              have h59 := hrel.out.2.2.2.trans (lower' H9.out.2 hrel.out.2.2.2.size)
              have H59 := Lib.hid h59
              clear hrel hrel2 hPE h59
              go_wp2_with (fail)
              go_loopg [16, 85] 300 (fun g3 v16 v85 wz => ∃ (A5 : Option Addr) (c5 k : Nat), k ≤ E.length ∧ k + g3 = 300 ∧ v16 = .slice A5 (cutE (E.take k) (v : Int)).length c5 ∧ v85 = .int .i64 (k : Int) ∧ Hid (OwnP wz w9.heap.size (.slice A5 (cutE (E.take k) (v : Int)).length c5) (cutE (E.take k) (v : Int)) ∧ Below w9.heap.size w9 wz))
              case atStart => exact ⟨none, 0, 0, by omega, by omega, rfl, rfl, Lib.hid ⟨OwnP.nil _ _, Below.refl _ _⟩⟩
              case round =>
                rename Nat => g3
                rename World => wz
                obtain ⟨A13, c13, k, hk, hkg, rfl, rfl, hrel3⟩ := hrel
                by_cases hkl : k < E.length
                · have hlI2 : (k : Int) < (E.length : Int) := by omega
                  obtain ⟨ab, ao, rfl, hab, q0, q1⟩ := (HPE.out.1.below hrel3.out.2).cell hkl
                  have hyes := fun h => cutE_yes (s := (v : Int)) hkl h
                  have hno := fun h => cutE_no (s := (v : Int)) hkl h
                  have hcl := cutE_len (E.take k) (v : Int)
                  have hcl2 := List.length_take_le k E
                  obtain ⟨⟨e0, e1⟩, he⟩ : ∃ e, e = E[k] := ⟨_, rfl⟩
                  rw [← he] at q0 q1 hyes hno
                  dsimp only at q0 q1 hyes hno
                  obtain ⟨P, hP⟩ : ∃ P, P = cutE (E.take k) (v : Int) := ⟨_, rfl⟩
                  rw [← hP] at hrel3 hyes hno hcl ⊢
                  have hb14 : Below wz.heap.size wz (wz.alloc (.cells #[.int .i64 e0, .int .i64 e1] 30)) := (Below.refl _ _).alloc (Nat.le_refl _) _
                  have hg14 := heap_alloc_new wz (.cells #[.int .i64 e0, .int .i64 e1] 30)
                  have HK3 := Lib.hid (And.intro hkl (And.intro hkg (And.intro hyes (And.intro hno (show P.length ≤ 256 by have := HPE.out.2.1.1; omega)))))
                  have H14 := Lib.hid (And.intro hb14 (And.intro hg14 (And.intro (hrel3.out.1.below hb14) (hrel3.out.2.trans (lower' hb14 hrel3.out.2.size)))))
                  clear hyes hno hcl hcl2 he hP hkl hkg hk hab hb14 hg14
                  go_upto_region 24 with (fail)
                  generalize wz.alloc (.cells #[.int .i64 e0, .int .i64 e1] 30) = W14 at H14 ⊢
                  have z0 := cell_of_row W14 wz.heap.size 0 _ _ _ H14.out.2.1
                  have z1 := cell_of_row W14 wz.heap.size 1 _ _ _ H14.out.2.1
                  clear q0 q1
                  by_cases h0 : e0 = (v : Int)
                  · have hb0 : (e0 != (v : Int)) = false := by simp [h0]
                    have HN := Lib.hid (HK3.out.2.2.2.1 fun h => h.1 h0)
                    clear h0
                    go_wp2_with (fail)
                    go_roundg (g3 - 1)
                    case rel => exact ⟨A13, c13, k + 1, HK3.out.1, by have := HK3.out.2.1; omega, by rw [HN.out], by go_num, by rw [HN.out]; exact Lib.hid H14.out.2.2⟩
                    case measure => have := HK3.out; omega
                  · have hb0 : (e0 != (v : Int)) = true := by simp [h0]
                    by_cases h1 : e1 = (v : Int)
                    · have hb1 : (e1 != (v : Int)) = false := by simp [h1]
                      have HN := Lib.hid (HK3.out.2.2.2.1 fun h => h.2 h1)
                      clear h0 h1
                      go_wp2_with (fail)
                      go_roundg (g3 - 1)
                      case rel => exact ⟨A13, c13, k + 1, HK3.out.1, by have := HK3.out.2.1; omega, by rw [HN.out], by go_num, by rw [HN.out]; exact Lib.hid H14.out.2.2⟩
                      case measure => have := HK3.out; omega
                    · have hb1 : (e1 != (v : Int)) = true := by simp [h1]
                      have HN := Lib.hid (HK3.out.2.2.1 ⟨h0, h1⟩)
                      obtain ⟨A6, c6, w6, hrun, hown, hb6⟩ := app_pr1 W14 w9.heap.size (.slice A13 P.length c13) P H14.out.2.2.1 H14.out.2.2.2.size e0 e1 (by have := HK3.out.2.2.2.2; omega)
                      have HX := Lib.hid (And.intro hown (H14.out.2.2.2.trans hb6))
                      clear h0 h1 hown hb6
                      go_wp2_with (at_builtin; refine wpL_appK _ rfl (.tmp 99) (.tmp 101) 22 rfl rfl _ _ _ _ rfl rfl hrun ?_)
                      go_roundg (g3 - 1)
                      case rel => exact ⟨A6, c6, k + 1, HK3.out.1, by have := HK3.out.2.1; omega, by rw [HN.out, List.length_append]; rfl, by go_num, by rw [HN.out, List.length_append]; exact HX⟩
                      case measure => have := HK3.out; omega
                · obtain rfl : k = E.length := by omega
                  have hz2 : ¬ (E.length : Int) < (E.length : Int) := by omega
                  rw [List.take_length] at hrel3 ⊢
                  obtain ⟨A15, c15, e15, hp15⟩ := hrel3.out.1.prl
                  injection e15 with e15 e16 e17
                  subst e15 e17
                  clear e16
                  have HN := Lib.hid (And.intro hp15 (And.intro (cutE_good HPE.out.2.1 (v : Int)) (And.intro (show EdR (cutE E (v : Int)) = Off (EdR L) (V.take (i + 1)) from by rw [HK.out.2.2.2.2]; exact cutE_off HPE.out.2.2) (H59.out.trans (lower' hrel3.out.2 H59.out.size)))))
                  clear hp15
                  go_wp2_with (fail)
                  go_roundg (gk - 1)
                  case rel => exact ⟨A13, c13, cutE E (v : Int), i + 1, HK.out.1, by have := HK.out.2.1; omega, rfl, by go_num, HN⟩
                  case measure => have := HK.out; omega
        · obtain rfl : i = V.length := by omega
          have hz : ¬ (V.length : Int) < (V.length : Int) := by omega
          have hcz : caughtL (EdR E) = [] := by
            rw [hrel.out.2.2.1, List.take_length]
            exact H3.out.2.1.2
          have HC := Lib.hid (And.intro (Caught_yes wr hrel.out.1 hrel.out.2.1) hcz)
          clear hcz
          go_wp2_with (go_at_call 11; (with_reducible refine HC.out.1.mono ?_); rintro e w9 ⟨A9, c9, rfl, ho9, hb9⟩; rw [HC.out.2]; have H9 := Lib.hid hb9; clear ho9 hb9)
          go_ret
          exact ⟨rfl, HBW.out.1.trans (lower' H9.out HBW.out.1.size)⟩
    · have HG := Lib.hid hg
      clear hg
      go_enter Try.func6, Try.ntmps6
      go_wp2_with (first
        | (go_at_call 9; (with_reducible refine (HA.out _).mono ?_); rintro e w1 ⟨rfl, hb1⟩; have H1 := Lib.hid hb1; clear hb1)
        | (go_at_call 10; (with_reducible refine (HO.out _ H1.out).mono ?_); rintro e w2 ⟨A2, c2, rfl, ho2, hb2⟩; have H2 := Lib.hid (And.intro ho2 (H1.out.trans (lower' hb2 H1.out.size))); clear ho2 hb2; obtain ⟨A2', c2', e2, hp2⟩ := H2.out.1.prl; injection e2 with e2 e3 e4; subst e2 e4; clear e3; have HV := Lib.hid (Break_no w2 hp2 (by have := HL.out.2.1; omega) HG.out (.slice Ab B.length cb)); clear hp2)
        | (go_at_call 18; (with_reducible refine HV.out.mono ?_); rintro e w3 ⟨rfl, hb3⟩; have H3 := Lib.hid (H2.out.2.trans (lower' hb3 H2.out.2.size)); clear hb3))
      go_ret
      exact ⟨rfl, H3.out⟩
  · have hlI : (256 : Int) < (L.length : Int) := by omega
    have hlI2 : (L.length : Int) ≤ 8796093022208 := by omega
    clear h hl hb hi hB
    go_enter Try.func6, Try.ntmps6
    go_wp2_with (first
      | (go_at_call 9; (with_reducible refine (HA.out W).mono ?_); rintro e w1 ⟨rfl, hb1⟩; have H1 := Lib.hid hb1; clear hb1)
      | (go_at_call 9; (with_reducible refine (HA.out w1).mono ?_); rintro e w2 ⟨rfl, hb2⟩; have H2 := Lib.hid hb2; clear hb2))
    go_ret
    exact ⟨rfl, H1.out.trans (lower' H2.out H1.out.size)⟩
end Go.Proofs.Ytiadphgodhfhjab
