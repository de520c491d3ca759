/- ValBack: the walk. -/
import Derived.Test.YtinhmchekdolmaaDoorProg
import Derived.Test.YtinhmchekdolmaaDoorValN
import Derived.Test.YtinhmchekdolmaaDoorValMM
import Derived.Test.YtinhmchekdolmaaDoorValJJ
import Derived.Test.YtinhmchekdolmaaDoorValS
import Derived.WalkKit
import Derived.WalkSpells
import Derived.WalkLawsBesides
import Derived.Deep.QuietTactic
import Derived.Deep.RegionHeld3
import Derived.Deep.DeepCutAuto
import Derived.Deep.CutRange
import Derived.BigQuiet
import Derived.KernelRfl
import Derived.Lib.Hide
import Derived.Lib.ItoaLen
namespace Go.Proofs.YtinhmchekdolmaaDoor
open Go.RowKit

/-- No true beginning of a value's bytes is read. -/
theorem digs_cut (x j : Nat) (hx : x ≤ 18446744073709551615) (hj : j < (digs x).length) : (rdD ((digs x).take j)).2 = 0 := by
  rcases Nat.eq_zero_or_pos (rdD ((digs x).take j)).2 with h | h
  · exact h
  · exfalso
    obtain ⟨r, e1, e2, e3⟩ := rdD_rf ((digs x).take j) (by omega)
    obtain ⟨N, hN⟩ : ∃ N, N = rfN ((digs x).take j) := ⟨_, rfl⟩
    have hlt : N ≤ 18446744073709551615 := by
      have := rgG_lt 10 0 1 ((digs x).take j)
      rw [hN]; unfold rfN; omega
    rw [← hN] at e1 e2 e3
    have e4 : digs x = digs N ++ (r ++ (digs x).drop j) := by rw [← List.append_assoc, ← e3, List.take_append_drop]
    have h1 := rdD_digs N (r ++ (digs x).drop j) hlt
    have h2 := rdD_digs x [] hx
    rw [List.append_nil, e4, h1] at h2
    have h3 := congrArg List.length e3
    rw [List.length_take, List.length_append] at h3
    injection h2 with h5 h6
    subst h5
    omega
theorem rvV_cut (v : VVal) (j : Nat) (hf : v.fits) (hg : ckN v = 0) (hj : j < (encV v).length) : rvV ((encV v).take j) = (noV, 0) := by
  have hz := ckN_zero hg
  obtain ⟨k, n, s⟩ := v
  obtain ⟨f0, f1, f2⟩ := hf
  simp only at f0 f1 f2 hz
  by_cases h2 : j < 2
  · exact rv_short _ (by rw [List.length_take]; omega)
  · rcases hz with rfl | ⟨rfl, hn⟩ | ⟨rfl, hsl, hv⟩
    · have e : encV ⟨1, n, s⟩ = 1 :: digs (foldN n) := if_pos rfl
      rw [e] at hj ⊢
      rw [List.length_cons] at hj
      obtain ⟨i, rfl⟩ : ∃ i, j = i + 1 := ⟨j - 1, by omega⟩
      rw [List.take_succ_cons]
      have hc := digs_cut (foldN n) i (foldN_lt n f1 f2) (by omega)
      unfold rvV
      rw [if_neg (by rw [List.length_cons, List.length_take]; omega), if_pos (by rfl)]
      simp only [List.drop_succ_cons, List.drop_zero]
      rw [if_pos hc]
    · have e : (encV ⟨3, n, s⟩).length = 2 := by unfold encV; simp
      omega
    · have e : encV ⟨2, n, s⟩ = 2 :: UInt8.ofNat s.size :: s.data.toList := by unfold encV; simp
      have hmb : (UInt8.ofNat s.size).toNat = s.size := by rw [UInt8.toNat_ofNat']; omega
      have hl : s.data.toList.length = s.size := Array.length_toList
      rw [e] at hj ⊢
      simp only [List.length_cons, hl] at hj
      obtain ⟨i, rfl⟩ : ∃ i, j = i + 1 + 1 := ⟨j - 2, by omega⟩
      rw [List.take_succ_cons, List.take_succ_cons]
      have g1 : ((2 : UInt8) :: UInt8.ofNat s.size :: s.data.toList.take i).getD 1 0 = UInt8.ofNat s.size := rfl
      refine rv_text _ (by simp only [List.length_cons]; omega) rfl ?_
      rw [g1, hmb]
      simp only [List.length_cons, List.length_take]
      omega
theorem vc_plain (v : VVal) : vc v (plainV v) = 0 := by
  unfold vc plainV
  by_cases h : v.kind = 2
  · rw [if_pos h, if_neg (by simp [h]), if_pos h]
    exact cb_self _
  · rw [if_neg h, if_neg (by simp), if_neg h]
    exact (ci_eq _ _).mpr rfl

theorem encV_len (v : VVal) (hf : v.fits) (hg : ckN v = 0) : (encV v).length ≤ 100 := by
  have hz := ckN_zero hg
  obtain ⟨k, n, s⟩ := v
  obtain ⟨f0, f1, f2⟩ := hf
  simp only at f0 f1 f2 hz
  rcases hz with rfl | ⟨rfl, hn⟩ | ⟨rfl, hsl, hv⟩
  · have := digs_length 10 (foldN n) (by have := foldN_lt n f1 f2; omega)
    unfold encV; rw [if_pos rfl, List.length_cons]; show (digs (foldN n)).length + 1 ≤ 100; omega
  · unfold encV; simp
  · have hl : s.data.toList.length = s.size := Array.length_toList
    unfold encV
    rw [if_neg (by simp), if_neg (by simp)]
    simp only [List.length_cons, hl]
    omega
theorem showV_len (v : VVal) (hf : v.fits) (hg : ckN v = 0) : (showV v).length ≤ 1000 := by
  have hz := ckN_zero hg
  obtain ⟨k, n, s⟩ := v
  obtain ⟨f0, f1, f2⟩ := hf
  simp only at f0 f1 f2 hz
  rcases hz with rfl | ⟨rfl, hn⟩ | ⟨rfl, hsl, hv⟩
  · have := Lib.itoa_length_le n f1 f2
    unfold showV; rw [if_pos rfl]; show (Lib.itoa n).length ≤ 1000; omega
  · unfold showV
    rw [if_neg (by simp), if_pos rfl]
    split <;> simp
  · have := showFrom_len s s.size 0
    have e : showV ⟨2, n, s⟩ = showT s := by unfold showV; simp
    rw [e]; unfold showT
    simp only [List.length_append, List.length_cons, List.length_nil]
    omega

/-- What a good value's calls answer. -/
theorem back_calls (v : VVal) (hf : v.fits) (hg : ckN v = 0) (x : VVal) (hx : x = plainV v) (E : List UInt8) (hE : E = encV v) (S : ByteArray) (hS : S = ⟨(showV v).toArray⟩) :
    (∀ W, Tabs W → Calls Tryd.prog 13 #[.agg v.cells] W fun e w' => ∃ A c, e = .returned (.tuple #[.slice A E.length c, .int .i64 0]) ∧ E.length ≤ c ∧ c ≤ 9223372036854775807 ∧ Rd w' w'.heap.size A (u8s E) ∧ Below W.heap.size W w')
    ∧ (∀ W, Tabs W → Calls Tryd.prog 14 #[.agg v.cells] W fun e w' => e = .returned (.tuple #[.string S, .int .i64 0]) ∧ Below W.heap.size W w')
    ∧ (∀ W, Calls Tryd.prog 18 #[.agg v.cells] W fun e w' => e = .returned (.agg x.cells) ∧ Below W.heap.size W w')
    ∧ (∀ W A (y : List UInt8) n c, Tabs W → n = E.length + y.length → Rd W W.heap.size A (u8s (E ++ y)) → y.length ≤ 140737488351232 → n ≤ c → c ≤ 9223372036854775807 → Calls Tryd.prog 19 #[.slice A n c] W fun e w' => e = .returned (.tuple #[.agg x.cells, .int .i64 (E.length : Int), .int .i64 0]) ∧ Below W.heap.size W w')
    ∧ (∀ W, Tabs W → Calls Tryd.prog 20 #[.string S] W fun e w' => e = .returned (.tuple #[.agg x.cells, .int .i64 0]) ∧ Below W.heap.size W w')
    ∧ (∀ W, Calls Tryd.prog 21 #[.agg v.cells, .agg x.cells] W fun e w' => e = .returned (.bool true) ∧ Below W.heap.size W w')
    ∧ (∀ W A c (j : Nat), Tabs W → Rd W W.heap.size A (u8s E) → j < E.length → E.length ≤ c → c ≤ 9223372036854775807 → Calls Tryd.prog 19 #[.slice A j c] W fun e w' => e = .returned (.tuple #[.agg noV.cells, .int .i64 0, .int .i64 6]) ∧ Below W.heap.size W w') := by
  subst hx hE hS
  have henc : encR v = encV v := if_pos hg
  have hsh : showR v = showV v := if_pos hg
  have hlen := encV_len v hf hg
  refine ⟨fun W hT => ?_, fun W hT => ?_, fun W => plain_any v W, fun W A y n c hT hn hr hy hc hcm => ?_, fun W hT => ?_, fun W => ?_, fun W A c j hT hr hj hc hcm => ?_⟩
  · refine (encode_any _ W hf hT).mono ?_
    rintro e w' ⟨v', rfl, hown, hb⟩
    rw [henc] at hown
    obtain ⟨Ae, ce, rfl, hc, hm, hr, -⟩ := hown.shape
    rw [hg]
    exact ⟨Ae, ce, rfl, hc, hm, hr, hb⟩
  · refine (show_any _ W hf hT).mono ?_
    rintro e w' ⟨rfl, hb⟩
    rw [hsh, hg]
    exact ⟨rfl, hb⟩
  · refine (decode_any A (encV v ++ y) n c W.heap.size W (by rw [hn, List.length_append]) hr (Nat.le_refl _) (by rw [List.length_append]; omega) (by rw [List.length_append]; omega) hcm hT).mono ?_
    rintro e w' ⟨rfl, hb⟩
    have hp : 0 < (encV v).length := by
      unfold encV
      split
      · simp
      · split <;> simp
    have hdc : dcV (encV v ++ y) = (plainV v, (encV v).length, 0) := by
      unfold dcV
      rw [rvV_enc v y hf hg, if_neg (by simp only; omega)]
    rw [hdc]
    exact ⟨rfl, hb⟩
  · refine (parseV_any _ W (by have := showV_len v hf hg; show (showV v).toArray.size ≤ _; rw [List.size_toArray]; omega) hT).mono ?_
    rintro e w' ⟨rfl, hb⟩
    rw [parV_show v hf hg]
    exact ⟨rfl, hb⟩
  · refine (vsame_any v (plainV v) W).mono ?_
    rintro e w' ⟨rfl, hb⟩
    rw [vc_plain]
    exact ⟨rfl, hb⟩
  · have hjl : ((encV v).take j).length = j := by rw [List.length_take]; omega
    refine (decode_any A ((encV v).take j) j c W.heap.size W hjl.symm (by rw [u8s_take]; exact hr.take j) (Nat.le_refl _) (by omega) (by omega) hcm hT).mono ?_
    rintro e w' ⟨rfl, hb⟩
    have hdc : dcV ((encV v).take j) = (noV, 0, 6) := by
      unfold dcV
      rw [rvV_cut v j hf hg hj, if_pos rfl]
    rw [hdc]
    exact ⟨rfl, hb⟩

set_option maxRecDepth 100000 in
set_option maxHeartbeats 4000000 in
theorem valBack_walk (a : VVal) (A : Option Addr) (l : List UInt8) (c : Nat) (w : World) (hf : a.fits) (hr : Rd w w.heap.size A (u8s l)) (_hc : l.length ≤ c) (_hcm : c ≤ 140737488351232) (hT : Tabs w) :
    Calls Tryd.prog 4 #[.agg a.cells, .slice A l.length c] w fun e w' => e = .returned (.bool true) ∧ Below w.heap.size w w' := by
  obtain ⟨i0, hi, hz0, hz1, hz2⟩ := info_parts infoU8
  have h1 := fun W (h : Tabs W) => encode_any a W hf h
  have h2 := fun W (h : Tabs W) => show_any a W hf h
  have hbk := fun (hg : ckN a = 0) => back_calls a hf hg
  have hen := fun (hg : ckN a = 0) => encV_len a hf hg
  obtain ⟨⟨pk, pn, ps⟩, hx⟩ : ∃ x, x = plainV a := ⟨_, rfl⟩
  obtain ⟨E, hE⟩ : ∃ x, x = encV a := ⟨_, rfl⟩
  obtain ⟨S, hS⟩ : ∃ x : ByteArray, x = ⟨(showV a).toArray⟩ := ⟨_, rfl⟩
  have hbk2 := fun hg => hbk hg _ hx E hE S hS
  rw [← hE] at hen
  obtain ⟨ck, hck⟩ : ∃ x, x = ckN a := ⟨_, rfl⟩
  rw [← hck] at h1 h2 hbk2 hen
  clear hbk hx hE hS hck
  obtain ⟨k, n, s⟩ := a
  simp only [VVal.cells, noV] at h1 h2 hbk2 ⊢
  have H1 := Lib.hid h1
  have H2 := Lib.hid h2
  have HBK := Lib.hid hbk2
  have HEN := Lib.hid hen
  have hB0 : Below w.heap.size w (w.alloc (.cells #[.int .i64 k, .int .i64 n, .string s] 23)) := (Below.refl _ _).alloc (Nat.le_refl _) _
  have hg0 : (w.alloc (.cells #[.int .i64 k, .int .i64 n, .string s] 23)).heap[w.heap.size]? = some (.cells #[.int .i64 k, .int .i64 n, .string s] 23 (0, 0)) := heap_alloc_new w _
  have hz0' : w.heap.size < (w.alloc (.cells #[.int .i64 k, .int .i64 n, .string s] 23)).heap.size := by simp
  have HT0 := Lib.hid (hT.below hB0)
  have HB0 := Lib.hid hB0
  have HG0 := Lib.hid hg0
  have HZ0 := Lib.hid hz0'
  have HTW := Lib.hid hT
  have HR := Lib.hid hr
  clear h1 h2 hbk2 hen hT hB0 hg0 hz0' hr
  by_cases hlen : 2000 < l.length
  · have hlen' : (2000 : Int) < (l.length : Int) := by omega
    clear hlen
    go_enter Tryd.func4, Tryd.ntmps4
    go_wp2_with fail
    refine (awake_any _ HT0.out).mono ?_
    rintro e w1 ⟨rfl, hb1⟩
    have HT1 := Lib.hid (HT0.out.below hb1)
    have hB1 := HB0.out.trans (hb1.mono HB0.out.size)
    clear hb1
    go_wp2_with fail
    refine (awake_any _ HT1.out).mono ?_
    rintro e w2 ⟨rfl, hb2⟩
    go_wp2
    go_ret
    exact ⟨rfl, hB1.trans (hb2.mono hB1.size)⟩
  · have hlen' : ¬ (2000 : Int) < (l.length : Int) := by omega
    have hl2 : l.length ≤ 2000 := by omega
    clear hlen
    go_enter Tryd.func4, Tryd.ntmps4
    go_wp2_with fail
    refine (awake_any _ HT0.out).mono ?_
    rintro e w1 ⟨rfl, hb1⟩
    have hg := (hb1.block w.heap.size HZ0.out).trans HG0.out
    have hB := HB0.out.trans (hb1.mono HB0.out.size)
    have hz := Nat.lt_of_lt_of_le HZ0.out hb1.size
    have HT := Lib.hid (HT0.out.below hb1)
    clear hb1 HG0 HB0 HZ0 HT0
    by_cases hck : ck = 0
    · obtain ⟨c1, c2, c3, c4, c5, c6, c7⟩ := HBK.out hck
      have hEl := HEN.out hck
      have C1 := Lib.hid c1
      have C2 := Lib.hid c2
      have C3 := Lib.hid c3
      have C4 := Lib.hid c4
      have C5 := Lib.hid c5
      have C6 := Lib.hid c6
      have C7 := Lib.hid c7
      clear c1 c2 c3 c4 c5 c6 c7 H1 H2 HBK HEN hck
      have a0 := cell_of_row w1 w.heap.size 0 _ _ _ hg
      have a1 := cell_of_row w1 w.heap.size 1 _ _ _ hg
      have a2 := cell_of_row w1 w.heap.size 2 _ _ _ hg
      go_wp2_with fail
      clear a0 a1 a2
      refine (C1.out _ HT.out).mono ?_
      rintro e w2 ⟨AE, cE, rfl, hcE, hmE, hrE, hb⟩
      replace hg := (hb.block w.heap.size hz).trans hg
      replace HT := Lib.hid (HT.out.below hb)
      replace hB := hB.trans (hb.mono hB.size)
      replace hz := Nat.lt_of_lt_of_le hz hb.size
      clear hb
      have a0 := cell_of_row w2 w.heap.size 0 _ _ _ hg
      have a1 := cell_of_row w2 w.heap.size 1 _ _ _ hg
      have a2 := cell_of_row w2 w.heap.size 2 _ _ _ hg
      go_wp2_with fail
      clear a0 a1 a2
      refine (C2.out _ HT.out).mono ?_
      rintro e w3 ⟨rfl, hb⟩
      replace hg := (hb.block w.heap.size hz).trans hg
      replace HT := Lib.hid (HT.out.below hb)
      replace hB := hB.trans (hb.mono hB.size)
      replace hz := Nat.lt_of_lt_of_le hz hb.size
      replace hrE := (hrE.below hb (Nat.le_refl _)).more hb.size
      clear hb
      have a0 := cell_of_row w3 w.heap.size 0 _ _ _ hg
      have a1 := cell_of_row w3 w.heap.size 1 _ _ _ hg
      have a2 := cell_of_row w3 w.heap.size 2 _ _ _ hg
      go_wp2_with fail
      clear a0 a1 a2
      refine (C3.out _).mono ?_
      rintro e w4 ⟨rfl, hb⟩
      replace hg := at_old ((hb.block w.heap.size hz).trans hg) (.cells #[.int .i64 pk, .int .i64 pn, .string ps] 23) (Nat.lt_of_lt_of_le hz hb.size)
      replace HT := Lib.hid ((HT.out.below hb).alloc (.cells #[.int .i64 pk, .int .i64 pn, .string ps] 23))
      replace hB := hB.trans (hb.mono hB.size)
      have hz4 := Nat.lt_of_lt_of_le hz hb.size
      replace hrE := ((hrE.below hb (Nat.le_refl _)).more hb.size).alloc (Nat.le_refl _) (.cells #[.int .i64 pk, .int .i64 pn, .string ps] 23)
      have hp := heap_alloc_new w4 (.cells #[.int .i64 pk, .int .i64 pn, .string ps] 23)
      replace hB := hB.alloc hB.size (.cells #[.int .i64 pk, .int .i64 pn, .string ps] 23)
      have hzp : w4.heap.size < (w4.alloc (.cells #[.int .i64 pk, .int .i64 pn, .string ps] 23)).heap.size := by simp
      have hrL := HR.out.below hB (Nat.le_refl _)
      clear hb hz
      obtain ⟨W5, hW5⟩ : ∃ W, W = w4.alloc (.cells #[.int .i64 pk, .int .i64 pn, .string ps] 23) := ⟨_, rfl⟩
      rw [← hW5] at hg HT hB hrE hp hzp hrL
      go_upto_region 8 with fail
      rw [← hW5]
      have hsW := hB.size
      have hr4 : w4.heap.size ≤ W5.heap.size := Nat.le_of_lt hzp
      clear hW5
      go_wp2_with (first
        | (at_builtin; refine wpList_appB _ rfl (.tmp 49) (.tmp 50) _ rfl W5.heap.size 5 i0 _ Tryd.underlying26 hi hz0 hz1 hz2 rfl (.slice (some ⟨W5.heap.size, 0, none⟩) 0 0) [] rfl (OwnB.lit0 W5 (Nat.le_refl _)) w4.heap.size AE E.length cE E rfl rfl (hrE.alloc hr4 _) (by simp; omega) (by simp) ?_; intro v6 w6 hown6 hg6 hat6; rw [List.nil_append] at hown6; have hb6 : Below W5.heap.size W5 w6 := ((Below.refl _ _).alloc (Nat.le_refl _) _).grown hg6 (by simp) (by intro k hk; simp [Value.ownBlock] at hk; omega); have hrL6 := hrL.below hb6 hsW)
        | (at_builtin; refine wpList_appB _ rfl (.tmp 51) (.tmp 52) _ rfl W5.heap.size 5 i0 _ Tryd.underlying26 hi hz0 hz1 hz2 rfl v6 E rfl hown6 w.heap.size A l.length c l rfl rfl hrL6 (by omega) hb6.size ?_; intro v7 w7 hown7 hg7 hat7; have hb7 := hb6.grown hg7 hb6.size (fun k hk => (World.ownsRow.lt hown6 k hk).1)))
      obtain ⟨A7, c7, rfl, hc7, hm7, hr7, -⟩ := hown7.shape
      have hn7 : (E ++ l).length = E.length + l.length := List.length_append
      have hs7 := hb7.size
      have HT7 := Lib.hid (HT.out.below hb7)
      have hg7' := (hb7.block w.heap.size (by omega)).trans hg
      have hp7 := (hb7.block w4.heap.size hzp).trans hp
      have hrE7 := hrE.below hb7 hr4
      have hB7 := hB.trans (hb7.mono hsW)
      clear hb6 hb7 hown6 hown7 hg6 hg7 hat6 hat7 hrL hrL6 hrE hg hp hB HT
      refine (C4.out w7 A7 l _ c7 HT7.out hn7 hr7 (by omega) hc7 hm7).mono ?_
      rintro e w8 ⟨rfl, hb⟩
      have hs8 := hb.size
      have hs8' : (w8.alloc (.cells #[.int .i64 pk, .int .i64 pn, .string ps] 23)).heap.size = w8.heap.size + 1 := by simp
      have hg8 := at_old ((hb.block w.heap.size (by omega)).trans hg7') (.cells #[.int .i64 pk, .int .i64 pn, .string ps] 23) (by omega)
      have hp8 := at_old ((hb.block w4.heap.size (by omega)).trans hp7) (.cells #[.int .i64 pk, .int .i64 pn, .string ps] 23) (by omega)
      have hx8 := heap_alloc_new w8 (.cells #[.int .i64 pk, .int .i64 pn, .string ps] 23)
      have HT8 := Lib.hid ((HT7.out.below hb).alloc (.cells #[.int .i64 pk, .int .i64 pn, .string ps] 23))
      have hrE8 := (hrE7.below hb (by omega)).alloc (by omega) (.cells #[.int .i64 pk, .int .i64 pn, .string ps] 23)
      have hB8 := hB7.trans (hb.mono hB7.size)
      replace hB8 := hB8.alloc hB8.size (.cells #[.int .i64 pk, .int .i64 pn, .string ps] 23)
      clear hb hg7' hp7 HT7 hrE7 hB7 hr7 C4
      go_wp2_with fail
      refine (C5.out _ HT8.out).mono ?_
      rintro e w9 ⟨rfl, hb⟩
      have hs9 := hb.size
      rw [hs8'] at hs9
      have hs9' : (w9.alloc (.cells #[.int .i64 pk, .int .i64 pn, .string ps] 23)).heap.size = w9.heap.size + 1 := by simp
      have hg9 := at_old ((hb.block w.heap.size (by omega)).trans hg8) (.cells #[.int .i64 pk, .int .i64 pn, .string ps] 23) (by omega)
      have hp9 := at_old ((hb.block w4.heap.size (by omega)).trans hp8) (.cells #[.int .i64 pk, .int .i64 pn, .string ps] 23) (by omega)
      have hx9 := at_old ((hb.block w8.heap.size (by omega)).trans hx8) (.cells #[.int .i64 pk, .int .i64 pn, .string ps] 23) (by omega)
      have hy9 := heap_alloc_new w9 (.cells #[.int .i64 pk, .int .i64 pn, .string ps] 23)
      have HT9 := Lib.hid ((HT8.out.below hb).alloc (.cells #[.int .i64 pk, .int .i64 pn, .string ps] 23))
      have hrE9 := (hrE8.below hb (by omega)).alloc (by omega) (.cells #[.int .i64 pk, .int .i64 pn, .string ps] 23)
      have hB9 := hB8.trans (hb.mono hB8.size)
      replace hB9 := hB9.alloc hB9.size (.cells #[.int .i64 pk, .int .i64 pn, .string ps] 23)
      clear hb hg8 hp8 hx8 HT8 hrE8 hB8 C5
      have a0 := cell_of_row _ w.heap.size 0 _ _ _ hg9
      have a1 := cell_of_row _ w.heap.size 1 _ _ _ hg9
      have a2 := cell_of_row _ w.heap.size 2 _ _ _ hg9
      have b0 := cell_of_row _ w4.heap.size 0 _ _ _ hp9
      have b1 := cell_of_row _ w4.heap.size 1 _ _ _ hp9
      have b2 := cell_of_row _ w4.heap.size 2 _ _ _ hp9
      have d0 := cell_of_row _ w8.heap.size 0 _ _ _ hx9
      have d1 := cell_of_row _ w8.heap.size 1 _ _ _ hx9
      have d2 := cell_of_row _ w8.heap.size 2 _ _ _ hx9
      have e0 := cell_of_row _ w9.heap.size 0 _ _ _ hy9
      have e1 := cell_of_row _ w9.heap.size 1 _ _ _ hy9
      have e2 := cell_of_row _ w9.heap.size 2 _ _ _ hy9
      clear hg9 hp9 hx9 hy9
      go_wp2_with fail
      refine (C6.out _).mono ?_
      rintro e w10 ⟨rfl, hb⟩
      have hrE10 := hrE9.below hb (by omega)
      have hB10 := hB9.trans (hb.mono hB9.size)
      have hs10 := hb.size
      rw [hs9'] at hs10
      clear a0 a1 a2 b0 b1 b2 d0 d1 d2 e0 e1 e2 hb hrE9 hB9 HT9 C6
      go_wp2_with fail
      go_loopw [93] (fun iv wr => ∃ i : Nat, iv = .int .i64 (i : Int) ∧ i ≤ E.length ∧ Below w10.heap.size w10 wr) (fun iv _ => E.length - (intOf iv).toNat)
      case atStart => exact ⟨0, rfl, by omega, Below.refl _ _⟩
      case round =>
        obtain ⟨i, rfl, hi1, hbr⟩ := hrel
        have hsr := hbr.size
        by_cases hi2 : i < E.length
        · have hrEr := (hrE10.below hbr (by omega)).more (show w4.heap.size ≤ wr.heap.size by omega)
          have hBr := hB10.trans (hbr.mono hB10.size)
          have HTr := Lib.hid (HTW.out.below hBr)
          go_wp2_with fail
          refine (C7.out wr AE cE i HTr.out hrEr hi2 hcE hmE).mono ?_
          rintro e w11 ⟨rfl, hb⟩
          have hb11 := (hbr.trans (hb.mono hsr)).alloc (Nat.le_trans hsr hb.size) (.cells #[.int .i64 0, .int .i64 0, .string ⟨#[]⟩] 23)
          clear hb hrEr hBr HTr
          go_wp2
          go_roundw
          case rel => exact ⟨i + 1, by go_num, by omega, hb11⟩
          case measure => simp [intOf]; omega
        · have hi3 : i = E.length := by omega
          subst hi3
          go_wp2
          go_ret
          exact ⟨rfl, hB10.trans (hbr.mono hB10.size)⟩
    · have hck' : ((ck : Int) == 0) = false := by rw [beq_eq_false_iff_ne]; omega
      clear HBK HEN
      have a0 := cell_of_row w1 w.heap.size 0 _ _ _ hg
      have a1 := cell_of_row w1 w.heap.size 1 _ _ _ hg
      have a2 := cell_of_row w1 w.heap.size 2 _ _ _ hg
      go_wp2_with fail
      clear a0 a1 a2
      refine (H1.out _ HT.out).mono ?_
      rintro e w2 ⟨v2, rfl, hown, hb⟩
      replace hg := (hb.block w.heap.size hz).trans hg
      replace HT := Lib.hid (HT.out.below hb)
      replace hB := hB.trans (hb.mono hB.size)
      clear hb hown
      have a0 := cell_of_row w2 w.heap.size 0 _ _ _ hg
      have a1 := cell_of_row w2 w.heap.size 1 _ _ _ hg
      have a2 := cell_of_row w2 w.heap.size 2 _ _ _ hg
      go_wp2_with fail
      clear a0 a1 a2
      refine (H2.out _ HT.out).mono ?_
      rintro e w3 ⟨rfl, hb⟩
      replace hB := hB.trans (hb.mono hB.size)
      clear hb HT hg
      go_wp2
      go_ret
      exact ⟨by simp, hB⟩
end Go.Proofs.YtinhmchekdolmaaDoor
