/- readChange. -/
import Derived.Test.YtgjjdmkoamjdpaaGreatDoorRcK
namespace Go.Proofs.YtgjjdmkoamjdpaaGreatDoor
open Go.RowKit Go.Maps
set_option maxRecDepth 100000

theorem decK_len {l : List UInt8} (h : decE l = 0) : (decK l).length ≤ l.length ∧ ∀ p ∈ decK l, p.fits := by
  obtain ⟨h1, h2, _, h4⟩ := enc_dec l h
  refine ⟨?_, h4⟩
  have hk : keyB (decK l) = l := by
    unfold encE at h1
    unfold encB at h2
    by_cases hs : keySz (decK l) ≤ 200
    · rw [if_pos hs] at h2; exact h2
    · rw [if_neg hs] at h1; exact absurd h1 (by decide)
  have hp : ∀ ks : List KPart, ks.length ≤ (keyB ks).length := fun ks => by
    induction ks with
    | nil => exact Nat.le_refl _
    | cons p ks ih =>
      show ks.length + 1 ≤ (partB p ++ keyB ks).length
      rw [List.length_append]
      have := partB_pos p
      omega
  have := hp (decK l)
  rw [hk] at this
  exact this
theorem ofK_fits {ks : List KPart} {c : ChV} (hf : ∀ p ∈ ks, p.fits) (h : ofK ks = some c) : c.lab.size ≤ 140737488355328 ∧ c.key.size ≤ 140737488355328 ∧ c.v = ⟨0, 0, ⟨#[]⟩⟩ := by
  match ks, h, hf with
  | [a, b], h, hf =>
    rw [ofK_two] at h
    split at h
    · injection h with h; subst h; exact ⟨by show (0 : Nat) ≤ _; omega, by show (0 : Nat) ≤ _; omega, rfl⟩
    · cases h
  | [a, b, d], h, hf =>
    rw [ofK_three] at h
    split at h
    · injection h with h; subst h; exact ⟨by show (0 : Nat) ≤ _; omega, (hf d (by simp)).1, rfl⟩
    · cases h
  | [a, b, d, e], h, hf =>
    rw [ofK_four] at h
    split at h
    · injection h with h; subst h; exact ⟨(hf d (by simp)).1, by show (0 : Nat) ≤ _; omega, rfl⟩
    · cases h
  | [], h, _ => cases h
  | [_], h, _ => cases h
  | _ :: _ :: _ :: _ :: _ :: _, h, _ => cases h
theorem rvV_le (l : List UInt8) : (rvV l).2 ≤ 300 := by
  have h1 := (rdD_le (l.drop 1)).2
  have h2 := UInt8.toNat_lt (l.getD 1 0)
  unfold rvV rtV
  repeat' split
  all_goals (try dsimp only); omega
theorem rd_from {w : World} {B b o : Nat} {xs : List Value} (h : Rd w B (some ⟨b, o, none⟩) xs) (k : Nat) : Rd w B (some ⟨b, o + k, none⟩) (xs.drop k) := fun hn => by
  obtain ⟨b', o', e, hb, hc⟩ := h (fun e => hn (by rw [e]; simp))
  cases e
  exact ⟨b, o + k, rfl, hb, fun j u hu => by rw [Nat.add_assoc]; exact hc (k + j) u (by rw [List.getElem?_drop] at hu; exact hu)⟩
theorem resRC {w : World} {b : Nat} {v0 v1 v2 v3 v4 v5 v6 v7 v8 : Value} (h : w.heap[b]? = some (.cells #[v0, v1, v2, v3, v4, v5, v6, v7, v8] 53 (0, 0))) (tmps : Array Value) (h2 : tmps.getD 2 undef = .pointer (some ⟨b, 0, none⟩)) :
    (results Tryz.f62 tmps).run Tryz.prog w = .ok (.tuple #[.agg #[v0, v1, v2, v3, v4, v5, v6, v7, v8], tmps.getD 3 undef]) w := by
  obtain ⟨e0, e1, e2, e3, e4, e5, e6, e7, e8⟩ := box9 h
  have h2' := h2
  simp only [Array.getD_eq_getD_getElem?] at h2'
  simp [results, Tryz.results62, go_sem, h2', e0, e1, e2, e3, e4, e5, e6, e7, e8]
def RchPost (w : World) (r : Option (ChV × Nat)) (e : Ending) (w' : World) : Prop := e = .returned (.tuple #[.agg (r.getD (zeroC, 0)).1.cells, .int .i64 ((r.getD (zeroC, 0)).2 : Int)]) ∧ Below w.heap.size w w'
set_option maxHeartbeats 4000000 in
theorem readChange_any (A : Option Addr) (l : List UInt8) (n c B : Nat) (w : World) (hn : n = l.length) (hr : Rd w B A (u8s l)) (hB : B ≤ w.heap.size) (hl : l.length ≤ 100000) (hc : l.length ≤ c) (hcm : c ≤ 9223372036854775807) (hT : Tabs w) : Calls Tryz.prog 62 #[.slice A n c] w (RchPost w (rdC l)) := by
  have hb0 : Below w.heap.size w (w.alloc (.cells cellsZ 53)) := (Below.refl _ _).alloc (Nat.le_refl _) _
  have hz0 := heap_alloc_new w (.cells cellsZ 53)
  have HB := Lib.hid (And.intro hb0 hz0)
  cases l with
  | nil =>
    subst hn
    obtain ⟨e0, e1, e2, e3, e4, e5, e6, e7, e8⟩ := box9 hz0
    obtain ⟨f0, f1, f2, f3, f4, f5, f6, f7, f8⟩ := fr9 hz0
    clear hb0 hz0 hr hl hT
    go_enter Tryz.func62, Tryz.ntmps62
    go_wp2_with (fail)
    exact bodyPost_ret (resRC HB.out.2 _ rfl) rfl ⟨rfl, HB.out.1⟩
  | cons x t =>
    obtain ⟨b, o, rfl, hb, p0⟩ := hr.get (k := 0) (by rw [u8s_length]; simp)
    rw [u8s_get _ 0 (by simp)] at p0
    simp only [List.getElem_cons_zero, Nat.add_zero] at p0
    have hlt : b < w.heap.size := Nat.lt_of_lt_of_le hb hB
    have q0 := (hb0.cell (p := ⟨b, o, none⟩) hlt).trans p0
    obtain ⟨X, hX⟩ : ∃ X, X = x.toNat := ⟨_, rfl⟩
    have hX255 : X ≤ 255 := by rw [hX]; have := x.toNat_lt; omega
    rw [← hX] at q0 p0
    obtain ⟨m, hm⟩ : ∃ m, m = t.length := ⟨_, rfl⟩
    rw [List.length_cons, ← hm] at hn hl hc
    subst hn
    have hrd : rdC (x :: t) = rdC1 x t := rfl
    rw [hrd]
    obtain ⟨R, hRR⟩ : ∃ R, R = rdC1 x t := ⟨_, rfl⟩
    rw [← hRR]
    unfold rdC1 at hRR
    rw [← hX, ← hm] at hRR
    have HRD := Lib.hid hRR
    clear hRR
    have HI := Lib.hid (And.intro hr (And.intro hT (And.intro hm hX)))
    obtain ⟨e0, e1, e2, e3, e4, e5, e6, e7, e8⟩ := box9 hz0
    obtain ⟨f0, f1, f2, f3, f4, f5, f6, f7, f8⟩ := fr9 hz0
    have hne : ((m : Int) + 1 == 0) = false := beq_eq_false_iff_ne.2 (by omega)
    clear hb0 hz0 hr hT hm hX p0 hrd
    by_cases hmx : m < X
    · have hI : (m : Int) + 1 < 1 + (X : Int) := by omega
      have hRn : R = none := by rw [HRD.out, if_pos hmx]
      rw [hRn]
      go_enter Tryz.func62, Tryz.ntmps62
      go_wp2_with (fail)
      exact bodyPost_ret (resRC HB.out.2 _ rfl) rfl ⟨rfl, HB.out.1⟩
    · have hI : ¬ (m : Int) + 1 < 1 + (X : Int) := by omega
      have hRm := HRD.out
      rw [if_neg hmx] at hRm
      replace HRD := Lib.hid hRm
      clear hRm
      have hrk : ∀ W, Below w.heap.size w W → Rd W B (if c = 1 then some ⟨b, o, none⟩ else some ⟨b, o + 1, none⟩) (u8s (t.take X)) := fun W hW => by
        by_cases hc0 : c = 1
        · have hX0 : X = 0 := by omega
          intro hn
          rw [hX0] at hn
          exact absurd rfl hn
        rw [if_neg hc0]
        have h1 := rd_from (HI.out.1.below hW hB) 1
        rw [← u8s_drop] at h1
        rw [u8s_take]
        exact h1.take X
      have hkd : ∀ W, Below w.heap.size w W → Calls Tryz.prog 75 #[.slice (if c = 1 then some ⟨b, o, none⟩ else some ⟨b, o + 1, none⟩) X (c - 1)] W fun e w' => ∃ v, e = .returned (.tuple #[v, .int .i64 (decE (t.take X))]) ∧ OwnP w' W.heap.size 150 v (decK (t.take X)) ∧ Below W.heap.size W w' := fun W hW =>
        kdecode_any _ (t.take X) X (c - 1) B W (by rw [List.length_take, ← HI.out.2.2.1]; omega) (hrk W hW) (Nat.le_trans hB hW.size) (by rw [List.length_take]; omega) (by omega) (by rw [List.length_take]; omega)
      have HKD := Lib.hid hkd
      clear hkd hrk
      have hc1 : (1 : Int) + (X : Int) ≤ (c : Int) := by omega
      go_enter Tryz.func62, Tryz.ntmps62
      go_upto_region 7 with (go_at_call 75; (with_reducible refine (HKD.out _ HB.out.1).mono ?_); rintro e w2 ⟨v2, rfl, o2, b2⟩; obtain ⟨A2, c2, rfl, hc2, hm2, r2⟩ := o2.shape; have O2 := Lib.hid (And.intro r2 (And.intro hc2 b2)); clear o2 b2 hc2 hm2 r2)
      clear e0 e1 e2 e3 e4 e5 e6 e7 e8 f0 f1 f2 f3 f4 f5 f6 f7 f8 HKD
      generalize (if c = 1 then some (⟨b, o, none⟩ : Addr) else some ⟨b, o + 1, none⟩) = Ai
      have hb2 : Below w.heap.size w w2 := HB.out.1.trans (lower' O2.out.2.2 HB.out.1.size)
      have hz2 := (O2.out.2.2.block w.heap.size (heap_lt HB.out.2)).trans HB.out.2
      obtain ⟨r, hr⟩ : ∃ r, r = w.heap.size := ⟨_, rfl⟩
      rw [← hr] at hz2 ⊢
      have HR0 := Lib.hid hr
      have H2 := Lib.hid (And.intro hb2 hz2)
      clear hb2 hz2 hr
      obtain ⟨K, hK⟩ : ∃ K, K = decK (t.take X) := ⟨_, rfl⟩
      obtain ⟨D, hD⟩ : ∃ D, D = decE (t.take X) := ⟨_, rfl⟩
      rw [← hK] at O2 HRD ⊢
      rw [← hD] at HRD ⊢
      have HKD := Lib.hid (And.intro hK hD)
      clear hK hD
      by_cases hD0 : D = 0
      · subst hD0
        have hRm := HRD.out
        rw [if_neg (by simp)] at hRm
        replace HRD := Lib.hid hRm
        clear hRm
        obtain ⟨hkl, hkf⟩ := decK_len HKD.out.2.symm
        rw [← HKD.out.1] at hkl hkf
        have hok := ofKey_any A2 K K.length c2 w2.heap.size w2 rfl O2.out.1 (Nat.le_refl _) (by rw [List.length_take] at hkl; omega)
        unfold OkPost at hok
        cases ho : ofK K with
        | none =>
          rw [ho] at hok
          have hRn : R = none := by rw [HRD.out, ho]
          have HRN := Lib.hid hRn
          dsimp only [Option.getD_none, Option.isSome_none, zeroC, ChV.cells] at hok
          have HOK := Lib.hid hok
          clear hok ho hkl hkf hRn
          go_upto_region 11 with (go_at_call 76; (with_reducible refine HOK.out.mono ?_); rintro e w3 ⟨rfl, b3⟩; have B3 := Lib.hid b3; clear b3)
          have hb4 : Below w.heap.size w (w3.alloc (.cells #[.int .i64 0, .int .i64 0, .int .i64 0, .string ⟨#[]⟩, .int .i64 0, .string ⟨#[]⟩, .int .i64 0, .int .i64 0, .string ⟨#[]⟩] 53)) := (H2.out.1.trans (lower' B3.out H2.out.1.size)).alloc (H2.out.1.trans (lower' B3.out H2.out.1.size)).size _
          have hz4 := (((Below.refl w3.heap.size w3).alloc (Nat.le_refl _) (.cells #[.int .i64 0, .int .i64 0, .int .i64 0, .string ⟨#[]⟩, .int .i64 0, .string ⟨#[]⟩, .int .i64 0, .int .i64 0, .string ⟨#[]⟩] 53)).block r (Nat.lt_of_lt_of_le (heap_lt H2.out.2) B3.out.size)).trans ((B3.out.block r (heap_lt H2.out.2)).trans H2.out.2)
          generalize w3.alloc (.cells #[.int .i64 0, .int .i64 0, .int .i64 0, .string ⟨#[]⟩, .int .i64 0, .string ⟨#[]⟩, .int .i64 0, .int .i64 0, .string ⟨#[]⟩] 53) = W4 at hb4 hz4 ⊢
          obtain ⟨e0, e1, e2, e3, e4, e5, e6, e7, e8⟩ := box9 hz4
          obtain ⟨f0, f1, f2, f3, f4, f5, f6, f7, f8⟩ := fr9 hz4
          have H4 := Lib.hid (And.intro hb4 hz4)
          clear hb4 hz4
          go_wp2_with (fail)
          have hR := set9 H4.out.2 (.int .i64 0) (.int .i64 0) (.int .i64 0) (.string ⟨#[]⟩) (.int .i64 0) (.string ⟨#[]⟩) (.int .i64 0) (.int .i64 0) (.string ⟨#[]⟩)
          have hL := below_set9 (show Below r w W4 from HR0.out ▸ H4.out.1) (Nat.le_refl _) (.int .i64 0) (.int .i64 0) (.int .i64 0) (.string ⟨#[]⟩) (.int .i64 0) (.string ⟨#[]⟩) (.int .i64 0) (.int .i64 0) (.string ⟨#[]⟩)
          generalize (((((((((W4.setCell ⟨r, 0, none⟩ (.int .i64 0)).setCell ⟨r, 1, none⟩ (.int .i64 0)).setCell ⟨r, 2, none⟩ (.int .i64 0)).setCell ⟨r, 3, none⟩ (.string ⟨#[]⟩)).setCell ⟨r, 4, none⟩ (.int .i64 0)).setCell ⟨r, 5, none⟩ (.string ⟨#[]⟩)).setCell ⟨r, 6, none⟩ (.int .i64 0)).setCell ⟨r, 7, none⟩ (.int .i64 0)).setCell ⟨r, 8, none⟩ (.string ⟨#[]⟩)) = wX at hR hL ⊢
          exact bodyPost_ret (resRC hR _ rfl) rfl ⟨by rw [HRN.out]; rfl, by have h := hL; rw [HR0.out] at h; exact h⟩
        | some ch =>
          rw [ho] at hok
          obtain ⟨hlab, hkey, hv0⟩ := ofK_fits hkf ho
          obtain ⟨kk, nn, ef, lab, et, key, v⟩ := ch
          dsimp only at hlab hkey hv0
          subst hv0
          have hRm := HRD.out
          rw [ho] at hRm
          dsimp only at hRm
          replace HRD := Lib.hid hRm
          dsimp only [Option.getD_some, Option.isSome_some, ChV.cells] at hok
          have HOK := Lib.hid hok
          have HLK := Lib.hid (And.intro hlab hkey)
          clear hok ho hkl hkf hRm hlab hkey
          go_upto_region 12 with (go_at_call 76; (with_reducible refine HOK.out.mono ?_); rintro e w3 ⟨rfl, b3⟩; have B3 := Lib.hid b3; clear b3)
          have hb4 : Below w.heap.size w (w3.alloc (.cells #[.int .i64 kk, .int .i64 nn, .int .i64 ef, .string lab, .int .i64 et, .string key, .int .i64 0, .int .i64 0, .string ⟨#[]⟩] 53)) := (H2.out.1.trans (lower' B3.out H2.out.1.size)).alloc (H2.out.1.trans (lower' B3.out H2.out.1.size)).size _
          have hr3 := Nat.lt_of_lt_of_le (heap_lt H2.out.2) B3.out.size
          have hz4 := (((Below.refl w3.heap.size w3).alloc (Nat.le_refl _) (.cells #[.int .i64 kk, .int .i64 nn, .int .i64 ef, .string lab, .int .i64 et, .string key, .int .i64 0, .int .i64 0, .string ⟨#[]⟩] 53)).block r hr3).trans ((B3.out.block r (heap_lt H2.out.2)).trans H2.out.2)
          have hx4 := heap_alloc_new w3 (.cells #[.int .i64 kk, .int .i64 nn, .int .i64 ef, .string lab, .int .i64 et, .string key, .int .i64 0, .int .i64 0, .string ⟨#[]⟩] 53)
          generalize w3.alloc (.cells #[.int .i64 kk, .int .i64 nn, .int .i64 ef, .string lab, .int .i64 et, .string key, .int .i64 0, .int .i64 0, .string ⟨#[]⟩] 53) = W4 at hb4 hz4 hx4 ⊢
          have hnex : r ≠ w3.heap.size := by omega
          have hx7 : w.heap.size ≤ w3.heap.size := by rw [← HR0.out]; omega
          generalize w3.heap.size = x7 at hx4 hnex hx7 ⊢
          have H4 := Lib.hid (And.intro hb4 (And.intro hz4 (And.intro hx4 (And.intro hnex hx7))))
          obtain ⟨e0, e1, e2, e3, e4, e5, e6, e7, e8⟩ := box9 hx4
          clear hb4 hz4 hx4 hnex hx7 hr3
          have hT4 : Tabs W4 := HI.out.2.1.below H4.out.1
          by_cases h5 : kk = 5
          · subst h5
            have hRm := HRD.out
            rw [if_pos rfl] at hRm
            replace HRD := Lib.hid hRm
            clear hRm
            by_cases hcX : c = 1 + X
            · subst hcX
              have hmX : m = X := by omega
              subst hmX
              have hd0 : t.drop m = [] := List.drop_of_length_le (by rw [← HI.out.2.2.1]; exact Nat.le_refl _)
              have hvd := decode_any (some ⟨b, o, none⟩) [] 0 0 0 W4 rfl (fun hn => absurd rfl hn) (by omega) (by simp) (by simp) (by omega) hT4
              have hRn : R = none := by rw [HRD.out, hd0]; rfl
              have HRN := Lib.hid hRn
              have hdc : dcV [] = (noV, 0, 6) := rfl
              rw [hdc] at hvd
              dsimp only [noV, VVal.cells] at hvd
              have HVD := Lib.hid hvd
              clear hvd hRn hT4 hd0 hdc
              go_upto_region 15 with (go_at_call 77; (with_reducible refine HVD.out.mono ?_); rintro e w6 ⟨rfl, b6⟩; have B6 := Lib.hid b6; clear b6)
              clear e0 e1 e2 e3 e4 e5 e6 e7 e8
              have hb8 : Below w.heap.size w (w6.alloc (.cells #[.int .i64 0, .int .i64 0, .string ⟨#[]⟩] 51)) := (H4.out.1.trans (lower' B6.out H4.out.1.size)).alloc (H4.out.1.trans (lower' B6.out H4.out.1.size)).size _
              have hz8 := (((Below.refl w6.heap.size w6).alloc (Nat.le_refl _) (.cells #[.int .i64 0, .int .i64 0, .string ⟨#[]⟩] 51)).block r (Nat.lt_of_lt_of_le (heap_lt H4.out.2.1) B6.out.size)).trans ((B6.out.block r (heap_lt H4.out.2.1)).trans H4.out.2.1)
              generalize w6.alloc (.cells #[.int .i64 0, .int .i64 0, .string ⟨#[]⟩] 51) = W8 at hb8 hz8 ⊢
              obtain ⟨e0, e1, e2, e3, e4, e5, e6, e7, e8⟩ := box9 hz8
              obtain ⟨f0, f1, f2, f3, f4, f5, f6, f7, f8⟩ := fr9 hz8
              have H8 := Lib.hid (And.intro hb8 hz8)
              clear hb8 hz8
              go_wp2_with (fail)
              have hR := set9 H8.out.2 (.int .i64 0) (.int .i64 0) (.int .i64 0) (.string ⟨#[]⟩) (.int .i64 0) (.string ⟨#[]⟩) (.int .i64 0) (.int .i64 0) (.string ⟨#[]⟩)
              have hL := below_set9 (show Below r w W8 from HR0.out ▸ H8.out.1) (Nat.le_refl _) (.int .i64 0) (.int .i64 0) (.int .i64 0) (.string ⟨#[]⟩) (.int .i64 0) (.string ⟨#[]⟩) (.int .i64 0) (.int .i64 0) (.string ⟨#[]⟩)
              generalize (((((((((W8.setCell ⟨r, 0, none⟩ (.int .i64 0)).setCell ⟨r, 1, none⟩ (.int .i64 0)).setCell ⟨r, 2, none⟩ (.int .i64 0)).setCell ⟨r, 3, none⟩ (.string ⟨#[]⟩)).setCell ⟨r, 4, none⟩ (.int .i64 0)).setCell ⟨r, 5, none⟩ (.string ⟨#[]⟩)).setCell ⟨r, 6, none⟩ (.int .i64 0)).setCell ⟨r, 7, none⟩ (.int .i64 0)).setCell ⟨r, 8, none⟩ (.string ⟨#[]⟩)) = wX at hR hL ⊢
              exact bodyPost_ret (resRC hR _ rfl) rfl ⟨by rw [HRN.out]; rfl, by have h := hL; rw [HR0.out] at h; exact h⟩
            · have hrdv : Rd W4 B (some ⟨b, o + (1 + X), none⟩) (u8s (t.drop X)) := by
                have h1 := rd_from (HI.out.1.below H4.out.1 hB) (1 + X)
                rw [← u8s_drop, Nat.add_comm 1 X, List.drop_succ_cons, Nat.add_comm X 1] at h1
                exact h1
              have hvd := decode_any (some ⟨b, o + (1 + X), none⟩) (t.drop X) (m + 1 - (1 + X)) (c - (1 + X)) B W4 (by rw [List.length_drop, ← HI.out.2.2.1]; omega) hrdv (Nat.le_trans hB H4.out.1.size) (by rw [List.length_drop, ← HI.out.2.2.1]; omega) (by rw [List.length_drop, ← HI.out.2.2.1]; omega) (by omega) hT4
              have hvl := rvV_le (t.drop X)
              have hvf := rvV_fits (t.drop X) (by rw [List.length_drop, ← HI.out.2.2.1]; omega)
              obtain ⟨⟨⟨vk, vn, vs⟩, vz⟩, hV⟩ : ∃ V, V = rvV (t.drop X) := ⟨_, rfl⟩
              have hRm := HRD.out
              unfold dcV at hvd
              rw [← hV] at hvd hvf hvl hRm
              dsimp only at hvf hvl hRm
              replace HRD := Lib.hid hRm
              clear hrdv hV hRm
              by_cases hvz : vz = 0
              · subst hvz
                rw [if_pos rfl] at hvd
                have hRn : R = none := by rw [HRD.out]; simp
                have HRN := Lib.hid hRn
                dsimp only [noV, VVal.cells] at hvd
                have HVD := Lib.hid hvd
                clear hvd hvf hRn hT4
                go_upto_region 15 with (go_at_call 77; (with_reducible refine HVD.out.mono ?_); rintro e w6 ⟨rfl, b6⟩; have B6 := Lib.hid b6; clear b6)
                clear e0 e1 e2 e3 e4 e5 e6 e7 e8
                have hb8 : Below w.heap.size w (w6.alloc (.cells #[.int .i64 0, .int .i64 0, .string ⟨#[]⟩] 51)) := (H4.out.1.trans (lower' B6.out H4.out.1.size)).alloc (H4.out.1.trans (lower' B6.out H4.out.1.size)).size _
                have hz8 := (((Below.refl w6.heap.size w6).alloc (Nat.le_refl _) (.cells #[.int .i64 0, .int .i64 0, .string ⟨#[]⟩] 51)).block r (Nat.lt_of_lt_of_le (heap_lt H4.out.2.1) B6.out.size)).trans ((B6.out.block r (heap_lt H4.out.2.1)).trans H4.out.2.1)
                generalize w6.alloc (.cells #[.int .i64 0, .int .i64 0, .string ⟨#[]⟩] 51) = W8 at hb8 hz8 ⊢
                obtain ⟨e0, e1, e2, e3, e4, e5, e6, e7, e8⟩ := box9 hz8
                obtain ⟨f0, f1, f2, f3, f4, f5, f6, f7, f8⟩ := fr9 hz8
                have H8 := Lib.hid (And.intro hb8 hz8)
                clear hb8 hz8
                go_wp2_with (fail)
                have hR := set9 H8.out.2 (.int .i64 0) (.int .i64 0) (.int .i64 0) (.string ⟨#[]⟩) (.int .i64 0) (.string ⟨#[]⟩) (.int .i64 0) (.int .i64 0) (.string ⟨#[]⟩)
                have hL := below_set9 (show Below r w W8 from HR0.out ▸ H8.out.1) (Nat.le_refl _) (.int .i64 0) (.int .i64 0) (.int .i64 0) (.string ⟨#[]⟩) (.int .i64 0) (.string ⟨#[]⟩) (.int .i64 0) (.int .i64 0) (.string ⟨#[]⟩)
                generalize (((((((((W8.setCell ⟨r, 0, none⟩ (.int .i64 0)).setCell ⟨r, 1, none⟩ (.int .i64 0)).setCell ⟨r, 2, none⟩ (.int .i64 0)).setCell ⟨r, 3, none⟩ (.string ⟨#[]⟩)).setCell ⟨r, 4, none⟩ (.int .i64 0)).setCell ⟨r, 5, none⟩ (.string ⟨#[]⟩)).setCell ⟨r, 6, none⟩ (.int .i64 0)).setCell ⟨r, 7, none⟩ (.int .i64 0)).setCell ⟨r, 8, none⟩ (.string ⟨#[]⟩)) = wX at hR hL ⊢
                exact bodyPost_ret (resRC hR _ rfl) rfl ⟨by rw [HRN.out]; rfl, by have h := hL; rw [HR0.out] at h; exact h⟩
              · rw [if_neg hvz] at hvd
                have hRm := HRD.out
                rw [if_neg hvz] at hRm
                replace HRD := Lib.hid hRm
                dsimp only [VVal.cells] at hvd
                have HVD := Lib.hid hvd
                have HVF := Lib.hid hvf
                have hvzI : (vz : Int) ≤ 100000 := by omega
                clear hvd hvf hRm hT4
                go_upto_region 16 with (go_at_call 77; (with_reducible refine HVD.out.mono ?_); rintro e w6 ⟨rfl, b6⟩; have B6 := Lib.hid b6; clear b6)
                clear e0 e1 e2 e3 e4 e5 e6 e7 e8
                have hb8 : Below w.heap.size w (w6.alloc (.cells #[.int .i64 vk, .int .i64 vn, .string vs] 51)) := (H4.out.1.trans (lower' B6.out H4.out.1.size)).alloc (H4.out.1.trans (lower' B6.out H4.out.1.size)).size _
                have hz8 := (((Below.refl w6.heap.size w6).alloc (Nat.le_refl _) (.cells #[.int .i64 vk, .int .i64 vn, .string vs] 51)).block r (Nat.lt_of_lt_of_le (heap_lt H4.out.2.1) B6.out.size)).trans ((B6.out.block r (heap_lt H4.out.2.1)).trans H4.out.2.1)
                have hx8 := (((Below.refl w6.heap.size w6).alloc (Nat.le_refl _) (.cells #[.int .i64 vk, .int .i64 vn, .string vs] 51)).block x7 (Nat.lt_of_lt_of_le (heap_lt H4.out.2.2.1) B6.out.size)).trans ((B6.out.block x7 (heap_lt H4.out.2.2.1)).trans H4.out.2.2.1)
                have hv8 := heap_alloc_new w6 (.cells #[.int .i64 vk, .int .i64 vn, .string vs] 51)
                have hxv : x7 ≠ w6.heap.size := by have := Nat.lt_of_lt_of_le (heap_lt H4.out.2.2.1) B6.out.size; omega
                generalize w6.alloc (.cells #[.int .i64 vk, .int .i64 vn, .string vs] 51) = W8 at hb8 hz8 hx8 hv8 ⊢
                generalize w6.heap.size = v8 at hv8 hxv ⊢
                have g0 := cell_of_row W8 v8 0 _ _ _ hv8
                have g1 := cell_of_row W8 v8 1 _ _ _ hv8
                have g2 := cell_of_row W8 v8 2 _ _ _ hv8
                obtain ⟨e0, e1, e2, e3, e4, e5, e6, e7, e8⟩ := box9 hx8
                obtain ⟨f0, f1, f2, f3, f4, f5, f6, f7, f8⟩ := fr9 hx8
                have H8 := Lib.hid (And.intro hb8 (And.intro hz8 hx8))
                clear hb8 hz8 hx8 hv8
                go_upto_region 18 with (fail)
                clear e0 e1 e2 e3 e4 e5 e6 e7 e8 f0 f1 f2 f3 f4 f5 f6 f7 f8 g0 g1 g2
                have hx9a := heap_setCell_same W8 x7 6 _ _ (.int .i64 vk) H8.out.2.2
                have hx9b := heap_setCell_same _ x7 7 _ _ (.int .i64 vn) hx9a
                have hx9c := heap_setCell_same _ x7 8 _ _ (.string vs) hx9b
                have hx9 : (((W8.setCell ⟨x7, 6, none⟩ (.int .i64 vk)).setCell ⟨x7, 7, none⟩ (.int .i64 vn)).setCell ⟨x7, 8, none⟩ (.string vs)).heap[x7]? = some (.cells #[.int .i64 5, .int .i64 nn, .int .i64 ef, .string lab, .int .i64 et, .string key, .int .i64 vk, .int .i64 vn, .string vs] 53 (0, 0)) := by simpa using hx9c
                have hz9 : (((W8.setCell ⟨x7, 6, none⟩ (.int .i64 vk)).setCell ⟨x7, 7, none⟩ (.int .i64 vn)).setCell ⟨x7, 8, none⟩ (.string vs)).heap[r]? = some (.cells cellsZ 53 (0, 0)) := (heap_setCell_other _ ⟨x7, 8, none⟩ r _ H4.out.2.2.2.1).trans ((heap_setCell_other _ ⟨x7, 7, none⟩ r _ H4.out.2.2.2.1).trans ((heap_setCell_other _ ⟨x7, 6, none⟩ r _ H4.out.2.2.2.1).trans H8.out.2.1))
                have hb9 := ((H8.out.1.setCell (p := ⟨x7, 6, none⟩) H4.out.2.2.2.2 (.int .i64 vk)).setCell (p := ⟨x7, 7, none⟩) H4.out.2.2.2.2 (.int .i64 vn)).setCell (p := ⟨x7, 8, none⟩) H4.out.2.2.2.2 (.string vs)
                clear hx9a hx9b hx9c
                generalize (((W8.setCell ⟨x7, 6, none⟩ (.int .i64 vk)).setCell ⟨x7, 7, none⟩ (.int .i64 vn)).setCell ⟨x7, 8, none⟩ (.string vs)) = W9 at hx9 hz9 hb9 ⊢
                obtain ⟨e0, e1, e2, e3, e4, e5, e6, e7, e8⟩ := box9 hx9
                have H9 := Lib.hid (And.intro hb9 (And.intro hz9 (And.intro hx9 trivial)))
                have hif := isInForm_any (⟨5, nn, ef, lab, et, key, ⟨vk, vn, vs⟩⟩ : ChV) W9 ⟨HLK.out.1, HLK.out.2, HVF.out⟩ (HI.out.2.1.below hb9)
                dsimp only [ChV.cells] at hif
                clear hx9 hz9 hb9 hxv
                cases hfx : formB (⟨5, nn, ef, lab, et, key, ⟨vk, vn, vs⟩⟩ : ChV) with
                | false =>
                  rw [hfx] at hif
                  have hRn : R = none := by rw [HRD.out]; simp only [hfx]; rfl
                  have HRN := Lib.hid hRn
                  have HIF := Lib.hid hif
                  clear hif hRn hfx
                  go_upto_region 19 with (go_at_call 56; (with_reducible refine HIF.out.mono ?_); rintro e w7 ⟨rfl, b7⟩; have B7 := Lib.hid b7; clear b7)
                  clear e0 e1 e2 e3 e4 e5 e6 e7 e8
                  have hb7 : Below w.heap.size w w7 := H9.out.1.trans (lower' B7.out H9.out.1.size)
                  have hz7 := (B7.out.block r (heap_lt H9.out.2.1)).trans H9.out.2.1
                  obtain ⟨e0, e1, e2, e3, e4, e5, e6, e7, e8⟩ := box9 hz7
                  obtain ⟨f0, f1, f2, f3, f4, f5, f6, f7, f8⟩ := fr9 hz7
                  have H7 := Lib.hid (And.intro hb7 hz7)
                  clear hb7 hz7
                  go_wp2_with (fail)
                  have hR := set9 H7.out.2 (.int .i64 0) (.int .i64 0) (.int .i64 0) (.string ⟨#[]⟩) (.int .i64 0) (.string ⟨#[]⟩) (.int .i64 0) (.int .i64 0) (.string ⟨#[]⟩)
                  have hL := below_set9 (show Below r w w7 from HR0.out ▸ H7.out.1) (Nat.le_refl _) (.int .i64 0) (.int .i64 0) (.int .i64 0) (.string ⟨#[]⟩) (.int .i64 0) (.string ⟨#[]⟩) (.int .i64 0) (.int .i64 0) (.string ⟨#[]⟩)
                  generalize (((((((((w7.setCell ⟨r, 0, none⟩ (.int .i64 0)).setCell ⟨r, 1, none⟩ (.int .i64 0)).setCell ⟨r, 2, none⟩ (.int .i64 0)).setCell ⟨r, 3, none⟩ (.string ⟨#[]⟩)).setCell ⟨r, 4, none⟩ (.int .i64 0)).setCell ⟨r, 5, none⟩ (.string ⟨#[]⟩)).setCell ⟨r, 6, none⟩ (.int .i64 0)).setCell ⟨r, 7, none⟩ (.int .i64 0)).setCell ⟨r, 8, none⟩ (.string ⟨#[]⟩)) = wX at hR hL ⊢
                  exact bodyPost_ret (resRC hR _ rfl) rfl ⟨by rw [HRN.out]; rfl, by have h := hL; rw [HR0.out] at h; exact h⟩
                | true =>
                  rw [hfx] at hif
                  have hRs : R = some ((⟨5, nn, ef, lab, et, key, ⟨vk, vn, vs⟩⟩ : ChV), 1 + X + vz) := by rw [HRD.out]; simp only [hfx]; rfl
                  have HRS := Lib.hid hRs
                  have HIF := Lib.hid hif
                  clear hif hRs hfx
                  go_upto_region 20 with (go_at_call 56; (with_reducible refine HIF.out.mono ?_); rintro e w7 ⟨rfl, b7⟩; have B7 := Lib.hid b7; clear b7)
                  clear e0 e1 e2 e3 e4 e5 e6 e7 e8
                  have hb7 : Below w.heap.size w w7 := H9.out.1.trans (lower' B7.out H9.out.1.size)
                  have hz7 := (B7.out.block r (heap_lt H9.out.2.1)).trans H9.out.2.1
                  have hx7 := (B7.out.block x7 (heap_lt H9.out.2.2.1)).trans H9.out.2.2.1
                  obtain ⟨e0, e1, e2, e3, e4, e5, e6, e7, e8⟩ := box9 hx7
                  obtain ⟨d0, d1, d2, d3, d4, d5, d6, d7, d8⟩ := box9 hz7
                  obtain ⟨f0, f1, f2, f3, f4, f5, f6, f7, f8⟩ := fr9 hz7
                  have H7 := Lib.hid (And.intro hb7 hz7)
                  clear hb7 hz7 hx7
                  go_wp2_with (fail)
                  have hR := set9 H7.out.2 (.int .i64 5) (.int .i64 nn) (.int .i64 ef) (.string lab) (.int .i64 et) (.string key) (.int .i64 vk) (.int .i64 vn) (.string vs)
                  have hL := below_set9 (show Below r w w7 from HR0.out ▸ H7.out.1) (Nat.le_refl _) (.int .i64 5) (.int .i64 nn) (.int .i64 ef) (.string lab) (.int .i64 et) (.string key) (.int .i64 vk) (.int .i64 vn) (.string vs)
                  generalize (((((((((w7.setCell ⟨r, 0, none⟩ (.int .i64 5)).setCell ⟨r, 1, none⟩ (.int .i64 nn)).setCell ⟨r, 2, none⟩ (.int .i64 ef)).setCell ⟨r, 3, none⟩ (.string lab)).setCell ⟨r, 4, none⟩ (.int .i64 et)).setCell ⟨r, 5, none⟩ (.string key)).setCell ⟨r, 6, none⟩ (.int .i64 vk)).setCell ⟨r, 7, none⟩ (.int .i64 vn)).setCell ⟨r, 8, none⟩ (.string vs)) = wX at hR hL ⊢
                  exact bodyPost_ret (resRC hR _ rfl) rfl ⟨by rw [HRS.out]; simp, by have h := hL; rw [HR0.out] at h; exact h⟩
          · have hRm := HRD.out
            rw [if_neg h5] at hRm
            replace HRD := Lib.hid hRm
            have hk5 : (kk == 5) = false := beq_eq_false_iff_ne.2 h5
            have hif := isInForm_any (⟨kk, nn, ef, lab, et, key, ⟨0, 0, ⟨#[]⟩⟩⟩ : ChV) W4 ⟨HLK.out.1, HLK.out.2, by show (0 : Nat) ≤ _; omega, by show (-9223372036854775808 : Int) ≤ 0; omega, by show (0 : Int) ≤ _; omega⟩ hT4
            dsimp only [ChV.cells] at hif
            clear hRm h5 hT4
            cases hfx : formB (⟨kk, nn, ef, lab, et, key, ⟨0, 0, ⟨#[]⟩⟩⟩ : ChV) with
            | false =>
              rw [hfx] at hif
              have hRn : R = none := by rw [HRD.out]; simp only [hfx]; rfl
              have HRN := Lib.hid hRn
              have HIF := Lib.hid hif
              clear hif hRn hfx
              go_upto_region 19 with (go_at_call 56; (with_reducible refine HIF.out.mono ?_); rintro e w7 ⟨rfl, b7⟩; have B7 := Lib.hid b7; clear b7)
              clear e0 e1 e2 e3 e4 e5 e6 e7 e8
              have hb7 : Below w.heap.size w w7 := H4.out.1.trans (lower' B7.out H4.out.1.size)
              have hz7 := (B7.out.block r (heap_lt H4.out.2.1)).trans H4.out.2.1
              obtain ⟨e0, e1, e2, e3, e4, e5, e6, e7, e8⟩ := box9 hz7
              obtain ⟨f0, f1, f2, f3, f4, f5, f6, f7, f8⟩ := fr9 hz7
              have H7 := Lib.hid (And.intro hb7 hz7)
              clear hb7 hz7
              go_wp2_with (fail)
              have hR := set9 H7.out.2 (.int .i64 0) (.int .i64 0) (.int .i64 0) (.string ⟨#[]⟩) (.int .i64 0) (.string ⟨#[]⟩) (.int .i64 0) (.int .i64 0) (.string ⟨#[]⟩)
              have hL := below_set9 (show Below r w w7 from HR0.out ▸ H7.out.1) (Nat.le_refl _) (.int .i64 0) (.int .i64 0) (.int .i64 0) (.string ⟨#[]⟩) (.int .i64 0) (.string ⟨#[]⟩) (.int .i64 0) (.int .i64 0) (.string ⟨#[]⟩)
              generalize (((((((((w7.setCell ⟨r, 0, none⟩ (.int .i64 0)).setCell ⟨r, 1, none⟩ (.int .i64 0)).setCell ⟨r, 2, none⟩ (.int .i64 0)).setCell ⟨r, 3, none⟩ (.string ⟨#[]⟩)).setCell ⟨r, 4, none⟩ (.int .i64 0)).setCell ⟨r, 5, none⟩ (.string ⟨#[]⟩)).setCell ⟨r, 6, none⟩ (.int .i64 0)).setCell ⟨r, 7, none⟩ (.int .i64 0)).setCell ⟨r, 8, none⟩ (.string ⟨#[]⟩)) = wX at hR hL ⊢
              exact bodyPost_ret (resRC hR _ rfl) rfl ⟨by rw [HRN.out]; rfl, by have h := hL; rw [HR0.out] at h; exact h⟩
            | true =>
              rw [hfx] at hif
              have hRs : R = some ((⟨kk, nn, ef, lab, et, key, ⟨0, 0, ⟨#[]⟩⟩⟩ : ChV), 1 + X) := by rw [HRD.out]; simp only [hfx]; rfl
              have HRS := Lib.hid hRs
              have HIF := Lib.hid hif
              clear hif hRs hfx
              go_upto_region 20 with (go_at_call 56; (with_reducible refine HIF.out.mono ?_); rintro e w7 ⟨rfl, b7⟩; have B7 := Lib.hid b7; clear b7)
              clear e0 e1 e2 e3 e4 e5 e6 e7 e8
              have hb7 : Below w.heap.size w w7 := H4.out.1.trans (lower' B7.out H4.out.1.size)
              have hz7 := (B7.out.block r (heap_lt H4.out.2.1)).trans H4.out.2.1
              have hx7 := (B7.out.block x7 (heap_lt H4.out.2.2.1)).trans H4.out.2.2.1
              obtain ⟨e0, e1, e2, e3, e4, e5, e6, e7, e8⟩ := box9 hx7
              obtain ⟨d0, d1, d2, d3, d4, d5, d6, d7, d8⟩ := box9 hz7
              obtain ⟨f0, f1, f2, f3, f4, f5, f6, f7, f8⟩ := fr9 hz7
              have H7 := Lib.hid (And.intro hb7 hz7)
              clear hb7 hz7 hx7
              go_wp2_with (fail)
              have hR := set9 H7.out.2 (.int .i64 kk) (.int .i64 nn) (.int .i64 ef) (.string lab) (.int .i64 et) (.string key) (.int .i64 0) (.int .i64 0) (.string ⟨#[]⟩)
              have hL := below_set9 (show Below r w w7 from HR0.out ▸ H7.out.1) (Nat.le_refl _) (.int .i64 kk) (.int .i64 nn) (.int .i64 ef) (.string lab) (.int .i64 et) (.string key) (.int .i64 0) (.int .i64 0) (.string ⟨#[]⟩)
              generalize (((((((((w7.setCell ⟨r, 0, none⟩ (.int .i64 kk)).setCell ⟨r, 1, none⟩ (.int .i64 nn)).setCell ⟨r, 2, none⟩ (.int .i64 ef)).setCell ⟨r, 3, none⟩ (.string lab)).setCell ⟨r, 4, none⟩ (.int .i64 et)).setCell ⟨r, 5, none⟩ (.string key)).setCell ⟨r, 6, none⟩ (.int .i64 0)).setCell ⟨r, 7, none⟩ (.int .i64 0)).setCell ⟨r, 8, none⟩ (.string ⟨#[]⟩)) = wX at hR hL ⊢
              exact bodyPost_ret (resRC hR _ rfl) rfl ⟨by rw [HRS.out]; simp, by have h := hL; rw [HR0.out] at h; exact h⟩
      · have hRn : R = none := by rw [HRD.out, if_pos hD0]
        have HRN := Lib.hid hRn
        have hDb : ((D : Int) != 0) = true := by rw [bne_iff_ne]; omega
        obtain ⟨e0, e1, e2, e3, e4, e5, e6, e7, e8⟩ := box9 H2.out.2
        obtain ⟨f0, f1, f2, f3, f4, f5, f6, f7, f8⟩ := fr9 H2.out.2
        clear hRn hD0
        go_wp2_with (fail)
        have hR := set9 H2.out.2 (.int .i64 0) (.int .i64 0) (.int .i64 0) (.string ⟨#[]⟩) (.int .i64 0) (.string ⟨#[]⟩) (.int .i64 0) (.int .i64 0) (.string ⟨#[]⟩)
        have hL := below_set9 (show Below r w w2 from HR0.out ▸ H2.out.1) (Nat.le_refl _) (.int .i64 0) (.int .i64 0) (.int .i64 0) (.string ⟨#[]⟩) (.int .i64 0) (.string ⟨#[]⟩) (.int .i64 0) (.int .i64 0) (.string ⟨#[]⟩)
        generalize (((((((((w2.setCell ⟨r, 0, none⟩ (.int .i64 0)).setCell ⟨r, 1, none⟩ (.int .i64 0)).setCell ⟨r, 2, none⟩ (.int .i64 0)).setCell ⟨r, 3, none⟩ (.string ⟨#[]⟩)).setCell ⟨r, 4, none⟩ (.int .i64 0)).setCell ⟨r, 5, none⟩ (.string ⟨#[]⟩)).setCell ⟨r, 6, none⟩ (.int .i64 0)).setCell ⟨r, 7, none⟩ (.int .i64 0)).setCell ⟨r, 8, none⟩ (.string ⟨#[]⟩)) = wX at hR hL ⊢
        exact bodyPost_ret (resRC hR _ rfl) rfl ⟨by rw [HRN.out]; rfl, by have h := hL; rw [HR0.out] at h; exact h⟩
end Go.Proofs.YtgjjdmkoamjdpaaGreatDoor
