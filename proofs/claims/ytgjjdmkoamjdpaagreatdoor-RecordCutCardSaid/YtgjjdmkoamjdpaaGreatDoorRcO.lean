/- read and Decode of a commit's bytes. -/
import Derived.Test.YtgjjdmkoamjdpaaGreatDoorRcM
import Derived.Test.YtgjjdmkoamjdpaaGreatDoorRcF
namespace Go.Proofs.YtgjjdmkoamjdpaaGreatDoor
open Go.RowKit Go.Maps
set_option maxRecDepth 100000

theorem set8 {w : World} {b : Nat} {t : TypeId} {x0 x1 x2 x3 x4 x5 x6 x7 : Value} (h : w.heap[b]? = some (.cells #[x0, x1, x2, x3, x4, x5, x6, x7] t (0, 0))) (v0 v1 v2 v3 v4 v5 v6 v7 : Value) :
    ((((((((w.setCell ⟨b, 0, none⟩ v0).setCell ⟨b, 1, none⟩ v1).setCell ⟨b, 2, none⟩ v2).setCell ⟨b, 3, none⟩ v3).setCell ⟨b, 4, none⟩ v4).setCell ⟨b, 5, none⟩ v5).setCell ⟨b, 6, none⟩ v6).setCell ⟨b, 7, none⟩ v7).heap[b]? = some (.cells #[v0, v1, v2, v3, v4, v5, v6, v7] t (0, 0)) := by
  have h1 := heap_setCell_same w b 0 _ t v0 h
  have h2 := heap_setCell_same _ b 1 _ t v1 h1
  have h3 := heap_setCell_same _ b 2 _ t v2 h2
  have h4 := heap_setCell_same _ b 3 _ t v3 h3
  have h5 := heap_setCell_same _ b 4 _ t v4 h4
  have h6 := heap_setCell_same _ b 5 _ t v5 h5
  have h7 := heap_setCell_same _ b 6 _ t v6 h6
  have h8 := heap_setCell_same _ b 7 _ t v7 h7
  simpa using h8
theorem below_set8 {B b : Nat} {a w : World} (h : Below B a w) (hb : B ≤ b) (v0 v1 v2 v3 v4 v5 v6 v7 : Value) : Below B a ((((((((w.setCell ⟨b, 0, none⟩ v0).setCell ⟨b, 1, none⟩ v1).setCell ⟨b, 2, none⟩ v2).setCell ⟨b, 3, none⟩ v3).setCell ⟨b, 4, none⟩ v4).setCell ⟨b, 5, none⟩ v5).setCell ⟨b, 6, none⟩ v6).setCell ⟨b, 7, none⟩ v7) :=
  (((((((h.setCell (p := ⟨b, 0, none⟩) hb _).setCell (p := ⟨b, 1, none⟩) hb _).setCell (p := ⟨b, 2, none⟩) hb _).setCell (p := ⟨b, 3, none⟩) hb _).setCell (p := ⟨b, 4, none⟩) hb _).setCell (p := ⟨b, 5, none⟩) hb _).setCell (p := ⟨b, 6, none⟩) hb _).setCell (p := ⟨b, 7, none⟩) hb _
theorem fr8 {w : World} {b : Nat} {cs : Array Value} {t : TypeId} (h : w.heap[b]? = some (.cells cs t (0, 0))) : w.frozen? ⟨b, 0, none⟩ = false ∧ w.frozen? ⟨b, 1, none⟩ = false ∧ w.frozen? ⟨b, 2, none⟩ = false ∧ w.frozen? ⟨b, 3, none⟩ = false ∧ w.frozen? ⟨b, 4, none⟩ = false ∧ w.frozen? ⟨b, 5, none⟩ = false ∧ w.frozen? ⟨b, 6, none⟩ = false ∧ w.frozen? ⟨b, 7, none⟩ = false :=
  ⟨frozen_of_row _ _ 0 _ _ h, frozen_of_row _ _ 1 _ _ h, frozen_of_row _ _ 2 _ _ h, frozen_of_row _ _ 3 _ _ h, frozen_of_row _ _ 4 _ _ h, frozen_of_row _ _ 5 _ _ h, frozen_of_row _ _ 6 _ _ h, frozen_of_row _ _ 7 _ _ h⟩
theorem resRd {w : World} {b : Nat} {v0 v1 v2 v3 v4 v5 v6 v7 : Value} (h : w.heap[b]? = some (.cells #[v0, v1, v2, v3, v4, v5, v6, v7] 28 (0, 0))) (tmps : Array Value) (h2 : tmps.getD 2 undef = .pointer (some ⟨b, 0, none⟩)) :
    (results Tryz.f26 tmps).run Tryz.prog w = .ok (.tuple #[.agg #[v0, v1, v2, v3, v4, v5, v6, v7], tmps.getD 3 undef]) w := by
  obtain ⟨e0, e1, e2, e3, e4, e5, e6, e7⟩ := box8 h
  have h2' := h2
  simp only [Array.getD_eq_getD_getElem?] at h2'
  simp [results, Tryz.results26, go_sem, h2', e0, e1, e2, e3, e4, e5, e6, e7]
theorem resDe {w : World} {b : Nat} {v0 v1 v2 v3 v4 v5 v6 v7 : Value} (h : w.heap[b]? = some (.cells #[v0, v1, v2, v3, v4, v5, v6, v7] 28 (0, 0))) (tmps : Array Value) (h2 : tmps.getD 2 undef = .pointer (some ⟨b, 0, none⟩)) :
    (results Tryz.f14 tmps).run Tryz.prog w = .ok (.tuple #[.agg #[v0, v1, v2, v3, v4, v5, v6, v7], tmps.getD 3 undef]) w := by
  obtain ⟨e0, e1, e2, e3, e4, e5, e6, e7⟩ := box8 h
  have h2' := h2
  simp only [Array.getD_eq_getD_getElem?] at h2'
  simp [results, Tryz.results14, go_sem, h2', e0, e1, e2, e3, e4, e5, e6, e7]
/-- Is it a commit that can be read? -/
def rdOK : List UInt8 → Bool
  | [] => false
  | _ :: t => (rcL t).isSome
def RdPost (w : World) (v : Value) (e : Ending) (w' : World) : Prop := ∃ (K : Int) (A : Option Addr) (n c : Nat), e = .returned (.tuple #[.agg #[.int .i64 K, .slice A n c, .string ⟨#[]⟩, .int .i64 0, .slice none 0 0, .slice none 0 0, .string ⟨#[]⟩, .string ⟨#[]⟩], v]) ∧ Below w.heap.size w w'
set_option maxHeartbeats 4000000 in
theorem recRead_any (A : Option Addr) (l : List UInt8) (n c B : Nat) (w : World) (hn : n = l.length) (hr : Rd w B A (u8s l)) (hB : B ≤ w.heap.size) (hl : l.length ≤ 100000) (hc : l.length ≤ c) (hcm : c ≤ 9223372036854775807) (hT : Tabs w) (h1 : ∀ x t, l = x :: t → x = 1) : Calls Tryz.prog 26 #[.slice A n c] w (RdPost w (.bool (rdOK l))) := by
  have hb0 : Below w.heap.size w (w.alloc (.cells #[.int .i64 0, .slice none 0 0, .string ⟨#[]⟩, .int .i64 0, .slice none 0 0, .slice none 0 0, .string ⟨#[]⟩, .string ⟨#[]⟩] 28)) := (Below.refl _ _).alloc (Nat.le_refl _) _
  have hz0 := heap_alloc_new w (.cells #[.int .i64 0, .slice none 0 0, .string ⟨#[]⟩, .int .i64 0, .slice none 0 0, .slice none 0 0, .string ⟨#[]⟩, .string ⟨#[]⟩] 28)
  have HB := Lib.hid (And.intro hb0 hz0)
  cases l with
  | nil =>
    subst hn
    obtain ⟨e0, e1, e2, e3, e4, e5, e6, e7⟩ := box8 hz0
    obtain ⟨f0, f1, f2, f3, f4, f5, f6, f7⟩ := fr8 hz0
    clear hb0 hz0 hr hl hT
    go_enter Tryz.func26, Tryz.ntmps26
    go_wp2_with (fail)
    exact bodyPost_ret (resRd HB.out.2 _ rfl) rfl ⟨0, none, 0, 0, rfl, HB.out.1⟩
  | cons x t =>
    have hx1 : x = 1 := h1 x t rfl
    subst hx1
    obtain ⟨b, o, rfl, hb, p0⟩ := hr.get (k := 0) (by rw [u8s_length]; simp)
    rw [u8s_get _ 0 (by simp)] at p0
    simp only [List.getElem_cons_zero, Nat.add_zero] at p0
    have hlt : b < w.heap.size := Nat.lt_of_lt_of_le hb hB
    have q0 : (w.alloc (.cells #[.int .i64 0, .slice none 0 0, .string ⟨#[]⟩, .int .i64 0, .slice none 0 0, .slice none 0 0, .string ⟨#[]⟩, .string ⟨#[]⟩] 28)).cell? ⟨b, o, none⟩ = some (.int .u8 1) := (hb0.cell (p := ⟨b, o, none⟩) hlt).trans p0
    obtain ⟨m, hm⟩ : ∃ m, m = t.length := ⟨_, rfl⟩
    rw [List.length_cons, ← hm] at hn hl hc
    subst hn
    have hne : ((m : Int) + 1 == 0) = false := beq_eq_false_iff_ne.2 (by omega)
    have hst : ∃ A5 c5, ((c = 1 ∧ A5 = some ⟨b, o, none⟩ ∧ c5 = 0) ∨ (c ≠ 1 ∧ A5 = some ⟨b, o + 1, none⟩ ∧ c5 = c - 1)) ∧ Rd w B A5 (u8s t) ∧ m ≤ c5 ∧ c5 ≤ 9223372036854775807 := by
      by_cases hc0 : c = 1
      · refine ⟨_, _, .inl ⟨hc0, rfl, rfl⟩, ?_, by omega, by omega⟩
        have ht : t = [] := List.eq_nil_of_length_eq_zero (by rw [← hm]; omega)
        rw [ht]
        exact fun hn => absurd rfl hn
      · refine ⟨_, _, .inr ⟨hc0, rfl, rfl⟩, ?_, by omega, by omega⟩
        have h1 := rd_from hr 1
        rw [← u8s_drop] at h1
        exact h1
    obtain ⟨A5, c5, hA5, hrd5, hmc5, hc5m⟩ := hst
    have hrc := readCommit_any A5 t m c5 B _ hm (hrd5.below hb0 hB) (Nat.le_trans hB hb0.size) (by omega) (by omega) hc5m (hT.below hb0)
    have hrr : rdOK (1 :: t) = (rcL t).isSome := rfl
    rw [hrr]
    unfold RcmPost at hrc
    generalize (rcL t).isSome = R at hrc ⊢
    have HRC := Lib.hid (hrc.mono (R' := fun e w' => ∃ A n c, e = .returned (.tuple #[.slice A n c, .bool R]) ∧ Below (w.alloc (.cells #[.int .i64 0, .slice none 0 0, .string ⟨#[]⟩, .int .i64 0, .slice none 0 0, .slice none 0 0, .string ⟨#[]⟩, .string ⟨#[]⟩] 28)).heap.size (w.alloc (.cells #[.int .i64 0, .slice none 0 0, .string ⟨#[]⟩, .int .i64 0, .slice none 0 0, .slice none 0 0, .string ⟨#[]⟩, .string ⟨#[]⟩] 28)) w') fun e w' h => by
      obtain ⟨A, n, c, h1, _, h3⟩ := h
      exact ⟨A, n, c, h1, h3⟩)
    obtain ⟨r, hr0⟩ : ∃ r, r = w.heap.size := ⟨_, rfl⟩
    have HR0 := Lib.hid hr0
    rw [← hr0] at hz0
    have H0 := Lib.hid (And.intro hb0 hz0)
    clear hb0 hz0 hrc hrd5 hT h1 hr hrr HB p0 hm hl hb
    rcases hA5 with ⟨hc0, rfl, rfl⟩ | ⟨hc0, rfl, rfl⟩
    all_goals (try (subst hc0; obtain rfl : m = 0 := by omega))
    all_goals
      go_enter Tryz.func26, Tryz.ntmps26
      go_upto_region 7 with (go_at_call 43; (with_reducible refine HRC.out.mono ?_); rintro e w3 ⟨A3, n3, c3, rfl, b3⟩; have B3 := Lib.hid b3; clear b3)
      rw [← hr0]
      have hb7 : Below w.heap.size w w3 := H0.out.1.trans (lower' B3.out H0.out.1.size)
      have hz7 := (B3.out.block r (heap_lt H0.out.2)).trans H0.out.2
      obtain ⟨d0, d1, d2, d3, d4, d5, d6, d7⟩ := box8 hz7
      obtain ⟨f0, f1, f2, f3, f4, f5, f6, f7⟩ := fr8 hz7
      have H7 := Lib.hid (And.intro hb7 hz7)
      clear hb7 hz7 q0 hr0
      go_wp2_with (fail)
      have hR := set8 H7.out.2 (.int .i64 1) (.slice A3 n3 c3) (.string ⟨#[]⟩) (.int .i64 0) (.slice none 0 0) (.slice none 0 0) (.string ⟨#[]⟩) (.string ⟨#[]⟩)
      have hL := below_set8 (show Below r w w3 from HR0.out ▸ H7.out.1) (Nat.le_refl _) (.int .i64 1) (.slice A3 n3 c3) (.string ⟨#[]⟩) (.int .i64 0) (.slice none 0 0) (.slice none 0 0) (.string ⟨#[]⟩) (.string ⟨#[]⟩)
      generalize ((((((((w3.setCell ⟨r, 0, none⟩ (.int .i64 1)).setCell ⟨r, 1, none⟩ (.slice A3 n3 c3)).setCell ⟨r, 2, none⟩ (.string ⟨#[]⟩)).setCell ⟨r, 3, none⟩ (.int .i64 0)).setCell ⟨r, 4, none⟩ (.slice none 0 0)).setCell ⟨r, 5, none⟩ (.slice none 0 0)).setCell ⟨r, 6, none⟩ (.string ⟨#[]⟩)).setCell ⟨r, 7, none⟩ (.string ⟨#[]⟩)) = wX at hR hL ⊢
      exact bodyPost_ret (resRd hR _ rfl) rfl ⟨1, A3, n3, c3, rfl, by have h := hL; rw [HR0.out] at h; exact h⟩
/-- What Decode answers. -/
def decCode (l : List UInt8) : Int := if 4000 < l.length then 3 else if rdOK l = true then 0 else 6
set_option maxHeartbeats 4000000 in
theorem decode_rec (A : Option Addr) (l : List UInt8) (n c B : Nat) (w : World) (hn : n = l.length) (hr : Rd w B A (u8s l)) (hB : B ≤ w.heap.size) (hl : l.length ≤ 100000) (hc : l.length ≤ c) (hcm : c ≤ 9223372036854775807) (hT : Tabs w) (h1 : ∀ x t, l = x :: t → x = 1) : Calls Tryz.prog 14 #[.slice A n c] w (RdPost w (.int .i64 (decCode l))) := by
  have hb0 : Below w.heap.size w (w.alloc (.cells #[.int .i64 0, .slice none 0 0, .string ⟨#[]⟩, .int .i64 0, .slice none 0 0, .slice none 0 0, .string ⟨#[]⟩, .string ⟨#[]⟩] 28)) := (Below.refl _ _).alloc (Nat.le_refl _) _
  have hz0 := heap_alloc_new w (.cells #[.int .i64 0, .slice none 0 0, .string ⟨#[]⟩, .int .i64 0, .slice none 0 0, .slice none 0 0, .string ⟨#[]⟩, .string ⟨#[]⟩] 28)
  have HB := Lib.hid (And.intro hb0 hz0)
  have hrd := recRead_any A l n c B _ hn (hr.below hb0 hB) (Nat.le_trans hB hb0.size) hl hc hcm (hT.below hb0) h1
  obtain ⟨D, hD⟩ : ∃ D, D = decCode l := ⟨_, rfl⟩
  rw [← hD]
  unfold decCode at hD
  rw [← hn] at hD
  have hn2 : n ≤ 100000 := by rw [hn]; exact hl
  by_cases h4 : 4000 < n
  · have h4I : (4000 : Int) < (n : Int) := by omega
    rw [if_pos h4] at hD
    subst hD
    obtain ⟨e0, e1, e2, e3, e4, e5, e6, e7⟩ := box8 hz0
    obtain ⟨f0, f1, f2, f3, f4, f5, f6, f7⟩ := fr8 hz0
    clear hb0 hz0 hr hl hT hrd hn h1 hc
    go_enter Tryz.func14, Tryz.ntmps14
    go_wp2_with (fail)
    exact bodyPost_ret (resDe HB.out.2 _ rfl) rfl ⟨0, none, 0, 0, rfl, HB.out.1⟩
  · have h4I : ¬ (4000 : Int) < (n : Int) := by omega
    rw [if_neg h4] at hD
    unfold RdPost at hrd
    generalize rdOK l = R at hrd hD
    have HRD := Lib.hid hrd
    obtain ⟨r, hr0⟩ : ∃ r, r = w.heap.size := ⟨_, rfl⟩
    have HR0 := Lib.hid hr0
    rw [← hr0] at hz0
    have H0 := Lib.hid (And.intro hb0 hz0)
    clear hb0 hz0 hrd hT h1 hr HB hl hn hc
    cases R with
    | true =>
      have hD0 : D = 0 := by rw [hD, if_pos rfl]
      clear hD
      subst hD0
      go_enter Tryz.func14, Tryz.ntmps14
      go_upto_region 4 with (go_at_call 26; (with_reducible refine HRD.out.mono ?_); rintro e w3 ⟨K, A4, n4, c4, rfl, b3⟩; have B3 := Lib.hid b3; clear b3)
      rw [← hr0]
      have hb7 : Below w.heap.size w (w3.alloc (.cells #[.int .i64 K, .slice A4 n4 c4, .string ⟨#[]⟩, .int .i64 0, .slice none 0 0, .slice none 0 0, .string ⟨#[]⟩, .string ⟨#[]⟩] 28)) := (H0.out.1.trans (lower' B3.out H0.out.1.size)).alloc (H0.out.1.trans (lower' B3.out H0.out.1.size)).size _
      have hz7 := (((Below.refl w3.heap.size w3).alloc (Nat.le_refl _) (.cells #[.int .i64 K, .slice A4 n4 c4, .string ⟨#[]⟩, .int .i64 0, .slice none 0 0, .slice none 0 0, .string ⟨#[]⟩, .string ⟨#[]⟩] 28)).block r (Nat.lt_of_lt_of_le (heap_lt H0.out.2) B3.out.size)).trans ((B3.out.block r (heap_lt H0.out.2)).trans H0.out.2)
      have hx7 := heap_alloc_new w3 (.cells #[.int .i64 K, .slice A4 n4 c4, .string ⟨#[]⟩, .int .i64 0, .slice none 0 0, .slice none 0 0, .string ⟨#[]⟩, .string ⟨#[]⟩] 28)
      generalize w3.alloc (.cells #[.int .i64 K, .slice A4 n4 c4, .string ⟨#[]⟩, .int .i64 0, .slice none 0 0, .slice none 0 0, .string ⟨#[]⟩, .string ⟨#[]⟩] 28) = W4 at hb7 hz7 hx7 ⊢
      obtain ⟨d0, d1, d2, d3, d4, d5, d6, d7⟩ := box8 hz7
      obtain ⟨e0, e1, e2, e3, e4, e5, e6, e7⟩ := box8 hx7
      obtain ⟨f0, f1, f2, f3, f4, f5, f6, f7⟩ := fr8 hz7
      have H7 := Lib.hid (And.intro hb7 hz7)
      clear hb7 hz7 hx7 hr0
      go_wp2_with (fail)
      have hR := set8 H7.out.2 (.int .i64 K) (.slice A4 n4 c4) (.string ⟨#[]⟩) (.int .i64 0) (.slice none 0 0) (.slice none 0 0) (.string ⟨#[]⟩) (.string ⟨#[]⟩)
      have hL := below_set8 (show Below r w W4 from HR0.out ▸ H7.out.1) (Nat.le_refl _) (.int .i64 K) (.slice A4 n4 c4) (.string ⟨#[]⟩) (.int .i64 0) (.slice none 0 0) (.slice none 0 0) (.string ⟨#[]⟩) (.string ⟨#[]⟩)
      generalize ((((((((W4.setCell ⟨r, 0, none⟩ (.int .i64 K)).setCell ⟨r, 1, none⟩ (.slice A4 n4 c4)).setCell ⟨r, 2, none⟩ (.string ⟨#[]⟩)).setCell ⟨r, 3, none⟩ (.int .i64 0)).setCell ⟨r, 4, none⟩ (.slice none 0 0)).setCell ⟨r, 5, none⟩ (.slice none 0 0)).setCell ⟨r, 6, none⟩ (.string ⟨#[]⟩)).setCell ⟨r, 7, none⟩ (.string ⟨#[]⟩)) = wX at hR hL ⊢
      exact bodyPost_ret (resDe hR _ rfl) rfl ⟨K, A4, n4, c4, rfl, by have h := hL; rw [HR0.out] at h; exact h⟩
    | false =>
      have hD0 : D = 6 := by rw [hD, if_neg (by decide)]
      clear hD
      subst hD0
      go_enter Tryz.func14, Tryz.ntmps14
      go_upto_region 4 with (go_at_call 26; (with_reducible refine HRD.out.mono ?_); rintro e w3 ⟨K, A4, n4, c4, rfl, b3⟩; have B3 := Lib.hid b3; clear b3)
      rw [← hr0]
      have hb7 : Below w.heap.size w (w3.alloc (.cells #[.int .i64 K, .slice A4 n4 c4, .string ⟨#[]⟩, .int .i64 0, .slice none 0 0, .slice none 0 0, .string ⟨#[]⟩, .string ⟨#[]⟩] 28)) := (H0.out.1.trans (lower' B3.out H0.out.1.size)).alloc (H0.out.1.trans (lower' B3.out H0.out.1.size)).size _
      have hz7 := (((Below.refl w3.heap.size w3).alloc (Nat.le_refl _) (.cells #[.int .i64 K, .slice A4 n4 c4, .string ⟨#[]⟩, .int .i64 0, .slice none 0 0, .slice none 0 0, .string ⟨#[]⟩, .string ⟨#[]⟩] 28)).block r (Nat.lt_of_lt_of_le (heap_lt H0.out.2) B3.out.size)).trans ((B3.out.block r (heap_lt H0.out.2)).trans H0.out.2)
      have hx7 := heap_alloc_new w3 (.cells #[.int .i64 K, .slice A4 n4 c4, .string ⟨#[]⟩, .int .i64 0, .slice none 0 0, .slice none 0 0, .string ⟨#[]⟩, .string ⟨#[]⟩] 28)
      generalize w3.alloc (.cells #[.int .i64 K, .slice A4 n4 c4, .string ⟨#[]⟩, .int .i64 0, .slice none 0 0, .slice none 0 0, .string ⟨#[]⟩, .string ⟨#[]⟩] 28) = W4 at hb7 hz7 hx7 ⊢
      obtain ⟨d0, d1, d2, d3, d4, d5, d6, d7⟩ := box8 hz7
      obtain ⟨e0, e1, e2, e3, e4, e5, e6, e7⟩ := box8 hx7
      obtain ⟨f0, f1, f2, f3, f4, f5, f6, f7⟩ := fr8 hz7
      have H7 := Lib.hid (And.intro hb7 hz7)
      clear hb7 hz7 hx7 hr0
      go_wp2_with (fail)
      have hR := set8 H7.out.2 (.int .i64 0) (.slice none 0 0) (.string ⟨#[]⟩) (.int .i64 0) (.slice none 0 0) (.slice none 0 0) (.string ⟨#[]⟩) (.string ⟨#[]⟩)
      have hL := below_set8 (show Below r w W4 from HR0.out ▸ H7.out.1) (Nat.le_refl _) (.int .i64 0) (.slice none 0 0) (.string ⟨#[]⟩) (.int .i64 0) (.slice none 0 0) (.slice none 0 0) (.string ⟨#[]⟩) (.string ⟨#[]⟩)
      generalize ((((((((W4.setCell ⟨r, 0, none⟩ (.int .i64 0)).setCell ⟨r, 1, none⟩ (.slice none 0 0)).setCell ⟨r, 2, none⟩ (.string ⟨#[]⟩)).setCell ⟨r, 3, none⟩ (.int .i64 0)).setCell ⟨r, 4, none⟩ (.slice none 0 0)).setCell ⟨r, 5, none⟩ (.slice none 0 0)).setCell ⟨r, 6, none⟩ (.string ⟨#[]⟩)).setCell ⟨r, 7, none⟩ (.string ⟨#[]⟩)) = wX at hR hL ⊢
      exact bodyPost_ret (resDe hR _ rfl) rfl ⟨0, none, 0, 0, rfl, by have h := hL; rw [HR0.out] at h; exact h⟩
end Go.Proofs.YtgjjdmkoamjdpaaGreatDoor
