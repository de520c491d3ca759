/- The law RecordLong, walked. -/
import Derived.Test.YtnkpnffpfgampaaDoorRcH
import Derived.Deep.CutRange
import Derived.Deep.CutBlock
namespace Go.Proofs.YtnkpnffpfgampaaDoor
open Go.RowKit Go.Maps

/-- So many changes are put together. -/
def mnL (z : Nat) : Nat := min (3998 / (25 + z)) 60
theorem mnL_code {z : Nat} (hz : z < 65) : encCode (List.replicate (mnL z) (oneC z)) = 0 ∧ encCode (List.replicate (mnL z + 1) (oneC z)) = (if 3998 / (25 + z) < 60 then 3 else 1) := by
  have hd := Nat.div_add_mod 3998 (25 + z)
  have hm := Nat.mod_lt 3998 (show 0 < 25 + z by omega)
  have hp : (25 + z) * (3998 / (25 + z)) ≤ 3998 := Nat.mul_div_le _ _
  rw [manyC_code hz, manyC_code hz]
  unfold mnL
  obtain ⟨q, hq⟩ : ∃ q, q = 3998 / (25 + z) := ⟨_, rfl⟩
  rw [← hq] at hd hp ⊢
  by_cases h60 : q < 60
  · rw [Nat.min_eq_left (by omega), if_neg (by omega), if_neg (by rw [Nat.mul_comm]; omega), if_neg (by omega), if_pos h60, if_pos (by rw [Nat.succ_mul, Nat.mul_comm q]; omega)]
    exact ⟨rfl, rfl⟩
  · rw [Nat.min_eq_right (by omega), if_neg (by omega), if_neg h60]
    have h1 : 60 * (25 + z) ≤ q * (25 + z) := Nat.mul_le_mul_right _ (by omega)
    rw [Nat.mul_comm q] at h1
    rw [if_neg (by omega), if_pos (by omega)]
    exact ⟨rfl, rfl⟩
set_option maxRecDepth 100000 in
set_option maxHeartbeats 4000000 in
theorem recordLong_walk (n : Int) (W : World) (hT : Tabs W) : Calls Tryd.prog 4 #[.int .i64 n] W fun e w' => e = .returned (.bool true) ∧ Below W.heap.size W w' := by
  obtain ⟨z, hz, hzn⟩ := rem65 n
  have haw := awake15_any W hT
  have hmk := makeU8 z (by omega)
  have hone := oneC_fits hz
  obtain ⟨D, hD⟩ : ∃ D, D = 25 + z := ⟨_, rfl⟩
  obtain ⟨L, hL⟩ : ∃ L, L = D + 2 := ⟨_, rfl⟩
  obtain ⟨q, hq⟩ : ∃ q, q = 3998 / D := ⟨_, rfl⟩
  obtain ⟨M, hM⟩ : ∃ M, M = min q 60 := ⟨_, rfl⟩
  have hMz : M = mnL z := by rw [hM, hq, hD]; rfl
  have hcode := mnL_code hz
  rw [← hMz, ← hD, ← hq] at hcode
  have hcode1 := manyC_code hz 1
  rw [if_neg (by omega), if_neg (by omega)] at hcode1
  have hlen1 : (encByt (List.replicate 1 (oneC z))).length = L := by
    have h1 := manyC hz 1
    have hg : ¬ goodC (List.replicate 1 (oneC z)) = false := by unfold goodC; rw [decide_eq_true (by simp), h1.2]; simp
    have hw : (wcB (List.replicate 1 (oneC z))).length = L := by unfold wcB; rw [List.length_cons, List.length_cons, h1.1]; omega
    unfold encByt
    rw [if_neg hg, if_neg (by rw [hw]; omega), hw]
  have hfit : ∀ m, ∀ x ∈ List.replicate m (oneC z), x.fits := fun m x hx => by rw [(List.mem_replicate.1 hx).2]; exact hone
  have henc : ∀ (l : List ChV) (m : Nat), l.length = m → (∀ x ∈ l, x.fits) → ∀ (w : World) (A : Option Addr) (c : Nat), Below W.heap.size W w → Chs w A c l → Calls Tryd.prog 8 #[.agg #[.int .i64 1, .slice A m c, .string ⟨#[]⟩, .int .i64 0, .slice none 0 0, .slice none 0 0, .string ⟨#[]⟩, .string ⟨#[]⟩]] w fun e w' => ∃ A2 c2, e = .returned (.tuple #[.slice A2 (encByt l).length c2, .int .i64 (encCode l)]) ∧ Below w.heap.size w w' := fun l m hm hf w A c hb hc => by
    subst hm
    refine (enc_commit ⟨#[]⟩ ⟨#[]⟩ ⟨#[]⟩ 0 none none 0 0 0 0 A c l w hc (hT.below hb)).mono ?_
    rintro e w' ⟨v', rfl, ho, hb2⟩
    obtain ⟨A2, c2, rfl, _⟩ := ho.shape
    exact ⟨A2, c2, rfl, hb2⟩
  have hD1 : 25 ≤ D := by omega
  have hD2 : D ≤ 89 := by omega
  have hqD : q ≤ 200 := by rw [hq]; exact Nat.le_trans (Nat.div_le_div_left hD1 (by omega)) (by decide)
  have hdivI : (3998 : Int).tdiv (D : Int) = (q : Int) := by rw [hq]; rfl
  have hsubI : (L : Int) - 2 = (D : Int) := by omega
  have hL4 : ¬ (L : Int) < 4 := by omega
  have hDne : ¬ (D : Int) = 0 := by omega
  have hDbe : ((D : Int) == 0) = false := beq_eq_false_iff_ne.2 hDne
  have hMI : min (q : Int) 60 = (M : Int) := by omega
  have hM60 : M ≤ 60 := by omega
  have HAW := Lib.hid haw
  have HENC := Lib.hid henc
  have HC := Lib.hid (And.intro hcode (And.intro hcode1 (And.intro hlen1 hfit)))
  have HMQ := Lib.hid (And.intro hM hL)
  clear haw hT henc hcode hcode1 hlen1 hfit hMz hM hq hD hL hone
  go_enter Tryd.func4, Tryd.ntmps4
  go_upto_region 5 with (go_at_call 5; (with_reducible refine HAW.out.mono ?_); rintro e w1 ⟨rfl, b1⟩; have B1 := Lib.hid b1; clear b1; have hmk1 := hmk w1)
  have hown0 : OwnB (w1.alloc (.cells (u8s (List.replicate z 0)).toArray 5)) W.heap.size 5 (.slice (some ⟨w1.heap.size, 0, none⟩) (xsL z 0).length z) (xsL z 0) := by
    have h := OwnB.litN (base := W.heap.size) (e := 5) w1 (List.replicate z 0) B1.out.size (by simp; omega)
    rw [xsL_zero]
    rw [List.length_replicate] at h ⊢
    exact h
  have hb0 : Below W.heap.size W (w1.alloc (.cells (u8s (List.replicate z 0)).toArray 5)) := B1.out.alloc B1.out.size _
  generalize w1.alloc (.cells (u8s (List.replicate z 0)).toArray 5) = wa at hown0 hb0 ⊢
  generalize w1.heap.size = g at hown0 ⊢
  have H0 := Lib.hid (And.intro hown0 hb0)
  clear hown0 hb0 hmk hmk1 hzn
  go_wp2_with (fail)
  go_loopw [25] (fun v25 wr => ∃ k : Nat, k ≤ z ∧ v25 = .int .i64 (k : Int) ∧ Hid (OwnB wr W.heap.size 5 (.slice (some ⟨g, 0, none⟩) (xsL z k).length z) (xsL z k) ∧ Below W.heap.size W wr)) (fun v25 _ => z - (intOf v25).toNat)
  case atStart => exact ⟨0, by omega, rfl, H0⟩
  case round =>
    obtain ⟨k, hk, rfl, hrel⟩ := hrel
    rename World => wr
    by_cases hlt : k < z
    · have hkI : (k : Int) < (z : Int) := by omega
      have hkl : k < (xsL z k).length := by rw [xsL_len hk]; exact hlt
      have c0 := hrel.out.1.cell hkl
      have f0 := hrel.out.1.free k
      have hst := hrel.out.1.store k 120
      have hbl : W.heap.size ≤ g := (World.ownsRow.lt hrel.out.1 g (by simp [Value.ownBlock])).1
      have HN := Lib.hid (show OwnB (wr.setCell ⟨g, k, none⟩ (.int .u8 120)) W.heap.size 5 (.slice (some ⟨g, 0, none⟩) (xsL z (k + 1)).length z) (xsL z (k + 1)) ∧ Below W.heap.size W (wr.setCell ⟨g, k, none⟩ (.int .u8 120)) from ⟨by
        have h := hst
        rw [xsL_set hlt, show (xsL z k).length = (xsL z (k + 1)).length by rw [xsL_len hk, xsL_len (by omega)]] at h
        exact h, hrel.out.2.trans ((Fr.of_grown (World.ownsRow.stored hrel.out.1 k (.int .u8 120)).2).below hrel.out.2.size (fun x hx => by rw [List.mem_singleton.1 hx]; exact hbl))⟩)
      generalize (xsL z k)[k]'hkl = y at c0
      clear hrel hst hbl hkl
      go_wp2_with (fail)
      go_roundw
      case rel => exact ⟨k + 1, by omega, by go_num, HN⟩
      case measure => simp [intOf]; omega
    · obtain rfl : k = z := by omega
      have hkI : ¬ (k : Int) < (k : Int) := by omega
      have hr := hrel.out.1
      rw [xsL_all] at hr
      have hcv := strAt (w := wr) (A := some ⟨g, 0, none⟩) (n := k) (c := k) (l := List.replicate k 120) (by
        obtain ⟨A', c', e, _, _, h3, _⟩ := hr.shape
        injection e with e1 e2 e3
        subst e1
        exact h3) (by simp)
      obtain ⟨XS, hXS⟩ : ∃ XS : ByteArray, XS = ⟨(List.replicate k 120).toArray⟩ := ⟨_, rfl⟩
      rw [← hXS] at hcv
      have hcells : (oneC k).cells = #[.int .i64 5, .int .i64 1, .int .i64 0, .string ⟨#[]⟩, .int .i64 0, .string ⟨#[107]⟩, .int .i64 2, .int .i64 0, .string XS] := by rw [hXS]; rfl
      have hpb : Below W.heap.size W (wr.alloc (.cells #[.int .i64 5, .int .i64 1, .int .i64 0, .string ⟨#[]⟩, .int .i64 0, .string ⟨#[107]⟩, .int .i64 2, .int .i64 0, .string XS] 27)) := hrel.out.2.alloc hrel.out.2.size _
      have hpx := heap_alloc_new wr (.cells #[.int .i64 5, .int .i64 1, .int .i64 0, .string ⟨#[]⟩, .int .i64 0, .string ⟨#[107]⟩, .int .i64 2, .int .i64 0, .string XS] 27)
      have HCE := Lib.hid hcells
      clear hrel hr hXS hcells
      go_upto_region 11 with (fail)
      clear hcv
      generalize wr.alloc (.cells #[.int .i64 5, .int .i64 1, .int .i64 0, .string ⟨#[]⟩, .int .i64 0, .string ⟨#[107]⟩, .int .i64 2, .int .i64 0, .string XS] 27) = wb at hpb hpx ⊢
      generalize wr.heap.size = pb at hpx ⊢
      obtain ⟨x, hx⟩ : ∃ x, x = oneC k := ⟨_, rfl⟩
      rw [← hx] at HCE HC
      have hE1 : Calls Tryd.prog 8 #[.agg #[.int .i64 1, .slice (some ⟨wb.heap.size, 0, none⟩) 1 1, .string ⟨#[]⟩, .int .i64 0, .slice none 0 0, .slice none 0 0, .string ⟨#[]⟩, .string ⟨#[]⟩]] (wb.alloc (.cells #[.int .i64 5, .int .i64 1, .int .i64 0, .string ⟨#[]⟩, .int .i64 0, .string ⟨#[107]⟩, .int .i64 2, .int .i64 0, .string XS] 27)) fun e w' => ∃ A2 c2, e = .returned (.tuple #[.slice A2 L c2, .int .i64 0]) ∧ Below wb.heap.size wb w' := by
        have hb1 : Below wb.heap.size wb (wb.alloc (.cells #[.int .i64 5, .int .i64 1, .int .i64 0, .string ⟨#[]⟩, .int .i64 0, .string ⟨#[107]⟩, .int .i64 2, .int .i64 0, .string XS] 27)) := (Below.refl _ _).alloc (Nat.le_refl _) _
        refine (HENC.out (List.replicate 1 x) 1 (by simp) (HC.out.2.2.2 1) _ _ 1 (hpb.trans (lower' hb1 hpb.size)) ⟨?_, by simp, HC.out.2.2.2 1⟩).mono ?_
        · rw [← HCE.out, alloc1_size]
          have h := Rd.new wb x.cells 27 (0, 0)
          have e : chsC (List.replicate 1 x) = x.cells.toList := by simp [chsC, chC]
          rw [e]
          exact h
        · rintro e w' ⟨A2, c2, rfl, hb2⟩
          rw [HC.out.2.1, HC.out.2.2.1]
          exact ⟨A2, c2, rfl, hb1.trans (lower' hb2 hb1.size)⟩
      have hw1 : wrap64 ((L : Int) - 2) = (D : Int) := by rw [hsubI]; unfold wrap64; omega
      have hw2 : wrap64 ((3998 : Int).tdiv (D : Int)) = (q : Int) := by rw [hdivI]; unfold wrap64; omega
      obtain ⟨q0, q1, q2, q3, q4, q5, q6, q7, q8⟩ := box9 hpx
      have HE1 := Lib.hid hE1
      have HB := Lib.hid (And.intro hpb hpx)
      clear hpb hpx hE1 hx
      go_upto_region 15 with (go_at_call 8; (with_reducible refine HE1.out.mono ?_); rintro e w3 ⟨A2, c2, rfl, b3⟩; have B3 := Lib.hid b3; clear b3)
      have hx3 := (B3.out.block pb (heap_lt HB.out.2)).trans HB.out.2
      have hb3 : Below W.heap.size W w3 := HB.out.1.trans (lower' B3.out HB.out.1.size)
      have H3 := Lib.hid (And.intro hb3 hx3)
      clear q0 q1 q2 q3 q4 q5 q6 q7 q8 HE1 hx3 hb3
      go_wp2_with (fail)
      go_loopw [9, 10] (fun v9 v10 wq => ∃ (j : Nat) (A9 : Option Addr) (c9 : Nat), j ≤ M ∧ v9 = .slice A9 j c9 ∧ v10 = .int .i64 (j : Int) ∧ Hid (OwnC wq w3.heap.size (.slice A9 j c9) (List.replicate j x) ∧ Below w3.heap.size w3 wq)) (fun _ v10 _ => M - (intOf v10).toNat)
      case atStart => exact ⟨0, none, 0, by omega, rfl, rfl, Lib.hid ⟨World.ownsRow_nil _ _ _ _, Below.refl _ _⟩⟩
      case round =>
        obtain ⟨j, A9, c9, hj, rfl, rfl, hrel⟩ := hrel
        rename World => wq
        obtain ⟨q0, q1, q2, q3, q4, q5, q6, q7, q8⟩ := box9 ((hrel.out.2.block pb (heap_lt H3.out.2)).trans H3.out.2)
        by_cases hjl : j < M
        · have hjI : (j : Int) < (M : Int) := by omega
          obtain ⟨A5, c5, w5, hrun, ho5, _, b5⟩ := app_change wq w3.heap.size _ _ hrel.out.1 hrel.out.2.size x (by rw [List.length_replicate]; omega)
          rw [HCE.out, List.length_replicate] at hrun
          rw [List.length_replicate] at ho5
          have HN := Lib.hid (show OwnC w5 w3.heap.size (.slice A5 (j + 1) c5) (List.replicate (j + 1) x) ∧ Below w3.heap.size w3 w5 from ⟨by rw [List.replicate_succ']; exact ho5, hrel.out.2.trans b5⟩)
          clear hrel ho5 b5
          go_wp2_with (at_builtin; refine wpL_appK _ rfl (.tmp 60) (.tmp 62) 36 rfl rfl _ _ _ _ rfl rfl hrun ?_)
          go_roundw
          case rel => exact ⟨j + 1, A5, c5, by omega, rfl, by go_num, HN⟩
          case measure => simp [intOf]; omega
        · obtain rfl : j = M := by omega
          have hjI : ¬ (j : Int) < (j : Int) := by omega
          have hbq : Below W.heap.size W wq := H3.out.1.trans (lower' hrel.out.2 H3.out.1.size)
          have hc1 : Chs wq A9 c9 (List.replicate j x) := hrel.out.1.chs (by simp) (HC.out.2.2.2 j)
          have hE2 := HENC.out (List.replicate j x) j (by simp) (HC.out.2.2.2 j) wq A9 c9 hbq hc1
          rw [HC.out.1.1] at hE2
          have hE3 : ∀ w4, Below wq.heap.size wq w4 → ∃ A5 c5 w5, (Builtin.append_ #[36, 36] 36 #[.slice A9 j c9, .slice (some ⟨w4.heap.size, 0, none⟩) 1 1]).run Tryd.prog (w4.alloc (.cells #[.int .i64 5, .int .i64 1, .int .i64 0, .string ⟨#[]⟩, .int .i64 0, .string ⟨#[107]⟩, .int .i64 2, .int .i64 0, .string XS] 27)) = .ok (.slice A5 (j + 1) c5) w5 ∧ Below W.heap.size W w5 ∧ Calls Tryd.prog 8 #[.agg #[.int .i64 1, .slice A5 (j + 1) c5, .string ⟨#[]⟩, .int .i64 0, .slice none 0 0, .slice none 0 0, .string ⟨#[]⟩, .string ⟨#[]⟩]] w5 fun e w' => ∃ A2 c2 n2, e = .returned (.tuple #[.slice A2 n2 c2, .int .i64 (if q < 60 then 3 else 1)]) ∧ Below w5.heap.size w5 w' := fun w4 hb4 => by
            have hw34 : w3.heap.size ≤ w4.heap.size := Nat.le_trans hrel.out.2.size hb4.size
            obtain ⟨A5, c5, w5, hrun, ho5, _, b5⟩ := app_change w4 w3.heap.size _ _ (own_below hrel.out.1 hb4 (Nat.le_refl _)) hw34 x (by rw [List.length_replicate]; omega)
            rw [HCE.out, List.length_replicate] at hrun
            rw [List.length_replicate] at ho5
            have hb5 : Below W.heap.size W w5 := (hbq.trans (lower' hb4 hbq.size)).trans (lower' b5 H3.out.1.size)
            have ho6 : OwnC w5 w3.heap.size (.slice A5 (j + 1) c5) (List.replicate (j + 1) x) := by rw [List.replicate_succ']; exact ho5
            refine ⟨A5, c5, w5, hrun, hb5, (HENC.out (List.replicate (j + 1) x) (j + 1) (by simp) (HC.out.2.2.2 (j + 1)) w5 A5 c5 hb5 (ho6.chs (by simp) (HC.out.2.2.2 (j + 1)))).mono ?_⟩
            rintro e w' ⟨A2, c2, rfl, hb⟩
            rw [HC.out.1.2]
            exact ⟨A2, c2, _, rfl, hb⟩
          have HE2 := Lib.hid hE2
          have HE3 := Lib.hid hE3
          have HX4 := Lib.hid ((hrel.out.2.block pb (heap_lt H3.out.2)).trans H3.out.2)
          have hxlt : pb < wq.heap.size := Nat.lt_of_lt_of_le (heap_lt H3.out.2) hrel.out.2.size
          clear hrel hbq hc1 hE2 hE3 q0 q1 q2 q3 q4 q5 q6 q7 q8
          by_cases h60 : q < 60
          · have h60I : (q : Int) < 60 := by omega
            have HIF := Lib.hid (show (if q < 60 then (3 : Int) else 1) = 3 from if_pos h60)
            clear h60
            go_wp2_with (first
              | (go_at_call 8; (with_reducible refine HE2.out.mono ?_); rintro e w4 ⟨A4, c4, rfl, b4⟩; obtain ⟨q0, q1, q2, q3, q4, q5, q6, q7, q8⟩ := box9 ((b4.block pb hxlt).trans HX4.out); obtain ⟨A5, c5, w5, hrun, b5, hE⟩ := HE3.out w4 b4; rw [HIF.out] at hE; have HE4 := Lib.hid hE; have B5 := Lib.hid b5; clear b5 hE b4)
              | (at_builtin; refine wpL_appK _ rfl (.tmp 71) (.tmp 73) 36 rfl rfl _ _ _ _ rfl rfl hrun ?_)
              | (go_at_call 8; (with_reducible refine HE4.out.mono ?_); rintro e w6 ⟨A6, c6, n6, rfl, b6⟩; have B6 := Lib.hid (B5.out.trans (lower' b6 B5.out.size)); clear b6))
            go_ret
            exact ⟨rfl, B6.out⟩
          · have h60I : ¬ (q : Int) < 60 := by omega
            have HIF := Lib.hid (show (if q < 60 then (3 : Int) else 1) = 1 from if_neg h60)
            clear h60
            go_wp2_with (first
              | (go_at_call 8; (with_reducible refine HE2.out.mono ?_); rintro e w4 ⟨A4, c4, rfl, b4⟩; obtain ⟨q0, q1, q2, q3, q4, q5, q6, q7, q8⟩ := box9 ((b4.block pb hxlt).trans HX4.out); obtain ⟨A5, c5, w5, hrun, b5, hE⟩ := HE3.out w4 b4; rw [HIF.out] at hE; have HE4 := Lib.hid hE; have B5 := Lib.hid b5; clear b5 hE b4)
              | (at_builtin; refine wpL_appK _ rfl (.tmp 71) (.tmp 73) 36 rfl rfl _ _ _ _ rfl rfl hrun ?_)
              | (go_at_call 8; (with_reducible refine HE4.out.mono ?_); rintro e w6 ⟨A6, c6, n6, rfl, b6⟩; have B6 := Lib.hid (B5.out.trans (lower' b6 B5.out.size)); clear b6))
            go_ret
            exact ⟨rfl, B6.out⟩
end Go.Proofs.YtnkpnffpfgampaaDoor
