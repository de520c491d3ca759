/- A node that leans is balanced. -/
import Derived.Test.YtklhfegdjadgdaaTreD
namespace Go.Proofs.Ytklhfegdjadgdaa
open Go.RowKit Go.Maps

set_option maxRecDepth 100000 in
set_option maxHeartbeats 4000000 in
theorem balanced_left {w : World} {b : Nat} {k x : Bs} {l r : Tn} (h : Stale w b k x l r) (hnd : (Tn.node b k x l r).blks.Nodup) (hn : (Tn.node b k x l r).num ≤ 1000000) (h1 : r.ht + 1 < l.ht) :
    Calls Try.prog 32 #[.pointer (some ⟨b, 0, none⟩)] w (Balanced w b k x l r) := by
  cases l with
  | nil => simp [Tn.ht] at h1
  | node c kl xl ll lr =>
    have hbal : (Tn.node b k x (.node c kl xl ll lr) r).bal = Tn.rotR (.node b k x (if ll.ht < lr.ht then (Tn.node c kl xl ll lr).rotL else .node c kl xl ll lr) r) := by
      simp only [Tn.bal]
      rw [if_pos h1]
      rfl
    obtain ⟨c2, c3, f2, f3⟩ := h.cells
    have hl := fun n => height_q h.left n
    have hr := fun n => height_q h.right n
    have b1 : ((Tn.node c kl xl ll lr).ht : Int) ≤ 1000000 := ht_small (by simp only [Tn.num] at hn ⊢; omega)
    have b2 : (r.ht : Int) ≤ 1000000 := ht_small (by simp only [Tn.num] at hn ⊢; omega)
    have hst := fun n => h.drewN n
    obtain ⟨H, hH⟩ : ∃ H, H = (Tn.node c kl xl ll lr).ht := ⟨_, rfl⟩
    rw [← hH] at b1 h1 hl
    have t1 : (r.ht : Int) - (H : Int) < -1 := by omega
    have b3 : (0 : Int) ≤ (H : Int) := by omega
    have b4 : (0 : Int) ≤ (r.ht : Int) := by omega
    have HL := Lib.hid hl
    have HR := Lib.hid hr
    have HS := Lib.hid (And.intro hst (And.intro hnd (And.intro hn hbal)))
    have e1 : (Tn.node c kl xl ll lr).adr = some ⟨c, 0, none⟩ := rfl
    rw [e1] at c2 HL
    clear h hnd hn h1 hl hr hst hH hbal f2 f3 e1
    have hcmp : ll.ht < lr.ht ∨ ¬ ll.ht < lr.ht := Nat.lt_or_ge _ _ |>.imp id (by omega)
    rcases hcmp with hcmp | hcmp
    · cases lr with
      | nil => simp [Tn.ht] at hcmp
      | node d km xm ml mr =>
        have HC := Lib.hid hcmp
        clear hcmp
        go_enter Try.func32, Try.ntmps32
        go_upto_region 1 with (fail)
        have hw : IntKind.i64.wrap ((r.ht : Int) - (H : Int)) = (r.ht : Int) - (H : Int) := IntWalk.i64_in _ (by omega)
        go_quiet ((first | (go_at_call 27; with_reducible exact Calls.quiet_of_same (HR.out _)) | (go_at_call 27; with_reducible exact Calls.quiet_of_same (HL.out _))))
        clear hw c2 c3
        go_upto_region 3 with (fail)
        have hS := HS.out.1 nq
        have hf0 : Fr w (w.drewN nq) [] := Fr.of_below (Below.drewN' (Below.refl _ _) _) _
        generalize w.drewN nq = W at hS hf0 ⊢
        obtain ⟨c2, c3, f2, f3⟩ := hS.cells
        obtain ⟨d2, d3, _, _⟩ := hS.left.stale.cells
        have hll := fun n => height_q hS.left.stale.left n
        have hlr := fun n => height_q hS.left.stale.right n
        obtain ⟨D, hD⟩ : ∃ D, D = (Tn.node d km xm ml mr).ht := ⟨_, rfl⟩
        rw [← hD] at hlr
        have q1 : decide (ll.ht < D) = true := by rw [hD]; exact decide_eq_true HC.out
        have HLL := Lib.hid hll
        have HLR := Lib.hid hlr
        have HW := Lib.hid (And.intro hS hf0)
        have e1 : (Tn.node c kl xl ll (.node d km xm ml mr)).adr = some ⟨c, 0, none⟩ := rfl
        rw [e1] at c2
        clear hS hf0 hll hlr hD e1
        go_quiet ((first | (go_at_call 27; with_reducible exact Calls.quiet_of_same (HLL.out _)) | (go_at_call 27; with_reducible exact Calls.quiet_of_same (HLR.out _))))
        clear c2 c3 f2 f3 d2 d3 q1
        go_upto_region 4 with (fail)
        have hS := HW.out.1.drewN nq
        have hf0 : Fr w (W.drewN nq) [] := HW.out.2.trans (Fr.of_below (Below.drewN' (Below.refl _ _) _) _)
        generalize W.drewN nq = W2 at hS hf0 ⊢
        obtain ⟨c2, c3, f2, f3⟩ := hS.cells
        rw [show (Tn.node c kl xl ll (.node d km xm ml mr)).adr = some ⟨c, 0, none⟩ from rfl] at c2
        obtain ⟨_, hnd, hn, hbal⟩ := HS.out
        have hcall := rightUp_any hS.left.stale (List.nodup_append.1 (List.nodup_cons.1 hnd).2).1 (by simp only [Tn.num] at hn ⊢; omega)
        have haft := fun w3 h3 hf3 => after_right (w3 := w3) hS hnd hn h3 hf3
        rw [if_pos HC.out] at hbal
        have HCA := Lib.hid hcall
        have HAF := Lib.hid haft
        have HB := Lib.hid (And.intro hbal hf0)
        clear hS hf0 hnd hn hbal hcall haft HS HW HL HR HLL HLR c3 f2 f3 HC
        go_wp2_with (first
          | (go_at_call 35; (with_reducible refine HCA.out.mono ?_); rintro e w3 ⟨rfl, h3, hf3⟩; obtain ⟨g2, g3, hlu⟩ := HAF.out w3 h3 hf3; have HLU := Lib.hid hlu; clear h3 hf3 hlu)
          | (go_at_call 36; (with_reducible refine HLU.out.mono ?_); rintro e w4 ⟨rfl, h4, hf4⟩; have H4 := Lib.hid (And.intro h4 hf4); clear h4 hf4))
        go_ret
        unfold Balanced
        rw [HB.out.1]
        exact ⟨rfl, H4.out.1, (HB.out.2.mono (by simp)).trans (H4.out.2.mono (by simp [Tn.blks]))⟩
    · have HC := Lib.hid hcmp
      have hq := decide_eq_false hcmp
      have HQ := Lib.hid hq
      clear hcmp hq
      go_enter Try.func32, Try.ntmps32
      go_upto_region 1 with (fail)
      have hw : IntKind.i64.wrap ((r.ht : Int) - (H : Int)) = (r.ht : Int) - (H : Int) := IntWalk.i64_in _ (by omega)
      go_quiet ((first | (go_at_call 27; with_reducible exact Calls.quiet_of_same (HR.out _)) | (go_at_call 27; with_reducible exact Calls.quiet_of_same (HL.out _))))
      clear hw c2 c3
      go_upto_region 3 with (fail)
      have hS := HS.out.1 nq
      have hf0 : Fr w (w.drewN nq) [] := Fr.of_below (Below.drewN' (Below.refl _ _) _) _
      generalize w.drewN nq = W at hS hf0 ⊢
      obtain ⟨c2, c3, f2, f3⟩ := hS.cells
      obtain ⟨d2, d3, _, _⟩ := hS.left.stale.cells
      have hll := fun n => height_q hS.left.stale.left n
      have hlr := fun n => height_q hS.left.stale.right n
      have HLL := Lib.hid hll
      have HLR := Lib.hid hlr
      have HW := Lib.hid (And.intro hS hf0)
      have e1 : (Tn.node c kl xl ll lr).adr = some ⟨c, 0, none⟩ := rfl
      rw [e1] at c2
      have q1 := HQ.out
      clear hS hf0 hll hlr e1
      go_quiet ((first | (go_at_call 27; with_reducible exact Calls.quiet_of_same (HLL.out _)) | (go_at_call 27; with_reducible exact Calls.quiet_of_same (HLR.out _))))
      clear c2 c3 f2 f3 d2 d3
      go_upto_region 5 with (fail)
      have hS := HW.out.1.drewN nq
      have hf0 : Fr w (W.drewN nq) [] := HW.out.2.trans (Fr.of_below (Below.drewN' (Below.refl _ _) _) _)
      generalize W.drewN nq = W2 at hS hf0 ⊢
      obtain ⟨_, hnd, hn, hbal⟩ := HS.out
      have hcall := leftUp_any hS hnd hn
      rw [if_neg HC.out] at hbal
      have HCA := Lib.hid hcall
      have HB := Lib.hid (And.intro hbal hf0)
      clear hS hf0 hnd hn hbal hcall HS HW HL HR HLL HLR HC q1
      go_wp2_with (first
        | (go_at_call 36; (with_reducible refine HCA.out.mono ?_); rintro e w4 ⟨rfl, h4, hf4⟩; have H4 := Lib.hid (And.intro h4 hf4); clear h4 hf4))
      go_ret
      unfold Balanced
      rw [HB.out.1]
      exact ⟨rfl, H4.out.1, (HB.out.2.mono (by simp)).trans (H4.out.2.mono (by simp [Tn.blks]))⟩
set_option maxRecDepth 100000 in
set_option maxHeartbeats 4000000 in
theorem balanced_right {w : World} {b : Nat} {k x : Bs} {l r : Tn} (h : Stale w b k x l r) (hnd : (Tn.node b k x l r).blks.Nodup) (hn : (Tn.node b k x l r).num ≤ 1000000) (h1 : l.ht + 1 < r.ht) :
    Calls Try.prog 32 #[.pointer (some ⟨b, 0, none⟩)] w (Balanced w b k x l r) := by
  cases r with
  | nil => simp [Tn.ht] at h1
  | node c kr xr rl rr =>
    have hbal : (Tn.node b k x l (.node c kr xr rl rr)).bal = Tn.rotL (.node b k x l (if rr.ht < rl.ht then (Tn.node c kr xr rl rr).rotR else .node c kr xr rl rr)) := by
      simp only [Tn.bal]
      rw [if_neg (by omega), if_pos h1]
      rfl
    obtain ⟨c2, c3, f2, f3⟩ := h.cells
    have hl := fun n => height_q h.left n
    have hr := fun n => height_q h.right n
    have b1 : ((Tn.node c kr xr rl rr).ht : Int) ≤ 1000000 := ht_small (by simp only [Tn.num] at hn ⊢; omega)
    have b2 : (l.ht : Int) ≤ 1000000 := ht_small (by simp only [Tn.num] at hn ⊢; omega)
    have hst := fun n => h.drewN n
    obtain ⟨H, hH⟩ : ∃ H, H = (Tn.node c kr xr rl rr).ht := ⟨_, rfl⟩
    rw [← hH] at b1 h1 hr
    have t1 : ¬ (H : Int) - (l.ht : Int) < -1 := by omega
    have t2 : (1 : Int) < (H : Int) - (l.ht : Int) := by omega
    have b3 : (0 : Int) ≤ (H : Int) := by omega
    have b4 : (0 : Int) ≤ (l.ht : Int) := by omega
    have HL := Lib.hid hl
    have HR := Lib.hid hr
    have HS := Lib.hid (And.intro hst (And.intro hnd (And.intro hn hbal)))
    have e1 : (Tn.node c kr xr rl rr).adr = some ⟨c, 0, none⟩ := rfl
    rw [e1] at c3 HR
    clear h hnd hn h1 hl hr hst hH hbal f2 f3 e1
    have hcmp : rr.ht < rl.ht ∨ ¬ rr.ht < rl.ht := Nat.lt_or_ge _ _ |>.imp id (by omega)
    rcases hcmp with hcmp | hcmp
    · cases rl with
      | nil => simp [Tn.ht] at hcmp
      | node d km xm ml mr =>
        have HC := Lib.hid hcmp
        clear hcmp
        go_enter Try.func32, Try.ntmps32
        go_upto_region 1 with (fail)
        have hw : IntKind.i64.wrap ((H : Int) - (l.ht : Int)) = (H : Int) - (l.ht : Int) := IntWalk.i64_in _ (by omega)
        go_quiet ((first | (go_at_call 27; with_reducible exact Calls.quiet_of_same (HR.out _)) | (go_at_call 27; with_reducible exact Calls.quiet_of_same (HL.out _))))
        clear hw c2 c3
        go_upto_region 7 with (fail)
        have hS := HS.out.1 nq
        have hf0 : Fr w (w.drewN nq) [] := Fr.of_below (Below.drewN' (Below.refl _ _) _) _
        generalize w.drewN nq = W at hS hf0 ⊢
        obtain ⟨c2, c3, f2, f3⟩ := hS.cells
        obtain ⟨d2, d3, _, _⟩ := hS.right.stale.cells
        have hll := fun n => height_q hS.right.stale.left n
        have hlr := fun n => height_q hS.right.stale.right n
        obtain ⟨D, hD⟩ : ∃ D, D = (Tn.node d km xm ml mr).ht := ⟨_, rfl⟩
        rw [← hD] at hll
        have q1 : decide (rr.ht < D) = true := by rw [hD]; exact decide_eq_true HC.out
        have HLL := Lib.hid hll
        have HLR := Lib.hid hlr
        have HW := Lib.hid (And.intro hS hf0)
        have e1 : (Tn.node c kr xr (.node d km xm ml mr) rr).adr = some ⟨c, 0, none⟩ := rfl
        rw [e1] at c3
        clear hS hf0 hll hlr hD e1
        go_quiet ((first | (go_at_call 27; with_reducible exact Calls.quiet_of_same (HLR.out _)) | (go_at_call 27; with_reducible exact Calls.quiet_of_same (HLL.out _))))
        clear c2 c3 f2 f3 d2 d3 q1
        go_upto_region 8 with (fail)
        have hS := HW.out.1.drewN nq
        have hf0 : Fr w (W.drewN nq) [] := HW.out.2.trans (Fr.of_below (Below.drewN' (Below.refl _ _) _) _)
        generalize W.drewN nq = W2 at hS hf0 ⊢
        obtain ⟨c2, c3, f2, f3⟩ := hS.cells
        rw [show (Tn.node c kr xr (.node d km xm ml mr) rr).adr = some ⟨c, 0, none⟩ from rfl] at c3
        obtain ⟨_, hnd, hn, hbal⟩ := HS.out
        have hcall := leftUp_any hS.right.stale (List.nodup_append.1 (List.nodup_cons.1 hnd).2).2.1 (by simp only [Tn.num] at hn ⊢; omega)
        have haft := fun w3 h3 hf3 => after_left (w3 := w3) hS hnd hn h3 hf3
        rw [if_pos HC.out] at hbal
        have HCA := Lib.hid hcall
        have HAF := Lib.hid haft
        have HB := Lib.hid (And.intro hbal hf0)
        clear hS hf0 hnd hn hbal hcall haft HS HW HL HR HLL HLR c2 f2 f3 HC
        go_wp2_with (first
          | (go_at_call 36; (with_reducible refine HCA.out.mono ?_); rintro e w3 ⟨rfl, h3, hf3⟩; obtain ⟨g2, g3, hlu⟩ := HAF.out w3 h3 hf3; have HLU := Lib.hid hlu; clear h3 hf3 hlu)
          | (go_at_call 35; (with_reducible refine HLU.out.mono ?_); rintro e w4 ⟨rfl, h4, hf4⟩; have H4 := Lib.hid (And.intro h4 hf4); clear h4 hf4))
        go_ret
        unfold Balanced
        rw [HB.out.1]
        exact ⟨rfl, H4.out.1, (HB.out.2.mono (by simp)).trans (H4.out.2.mono (by simp [Tn.blks]))⟩
    · have HC := Lib.hid hcmp
      have hq := decide_eq_false hcmp
      have HQ := Lib.hid hq
      clear hcmp hq
      go_enter Try.func32, Try.ntmps32
      go_upto_region 1 with (fail)
      have hw : IntKind.i64.wrap ((H : Int) - (l.ht : Int)) = (H : Int) - (l.ht : Int) := IntWalk.i64_in _ (by omega)
      go_quiet ((first | (go_at_call 27; with_reducible exact Calls.quiet_of_same (HR.out _)) | (go_at_call 27; with_reducible exact Calls.quiet_of_same (HL.out _))))
      clear hw c2 c3
      go_upto_region 7 with (fail)
      have hS := HS.out.1 nq
      have hf0 : Fr w (w.drewN nq) [] := Fr.of_below (Below.drewN' (Below.refl _ _) _) _
      generalize w.drewN nq = W at hS hf0 ⊢
      obtain ⟨c2, c3, f2, f3⟩ := hS.cells
      obtain ⟨d2, d3, _, _⟩ := hS.right.stale.cells
      have hll := fun n => height_q hS.right.stale.left n
      have hlr := fun n => height_q hS.right.stale.right n
      have HLL := Lib.hid hll
      have HLR := Lib.hid hlr
      have HW := Lib.hid (And.intro hS hf0)
      have e1 : (Tn.node c kr xr rl rr).adr = some ⟨c, 0, none⟩ := rfl
      rw [e1] at c3
      have q1 := HQ.out
      clear hS hf0 hll hlr e1
      go_quiet ((first | (go_at_call 27; with_reducible exact Calls.quiet_of_same (HLR.out _)) | (go_at_call 27; with_reducible exact Calls.quiet_of_same (HLL.out _))))
      clear c2 c3 f2 f3 d2 d3
      go_upto_region 9 with (fail)
      have hS := HW.out.1.drewN nq
      have hf0 : Fr w (W.drewN nq) [] := HW.out.2.trans (Fr.of_below (Below.drewN' (Below.refl _ _) _) _)
      generalize W.drewN nq = W2 at hS hf0 ⊢
      obtain ⟨_, hnd, hn, hbal⟩ := HS.out
      have hcall := rightUp_any hS hnd hn
      rw [if_neg HC.out] at hbal
      have HCA := Lib.hid hcall
      have HB := Lib.hid (And.intro hbal hf0)
      clear hS hf0 hnd hn hbal hcall HS HW HL HR HLL HLR HC q1
      go_wp2_with (first
        | (go_at_call 35; (with_reducible refine HCA.out.mono ?_); rintro e w4 ⟨rfl, h4, hf4⟩; have H4 := Lib.hid (And.intro h4 hf4); clear h4 hf4))
      go_ret
      unfold Balanced
      rw [HB.out.1]
      exact ⟨rfl, H4.out.1, (HB.out.2.mono (by simp)).trans (H4.out.2.mono (by simp [Tn.blks]))⟩
/-- balanced. -/
theorem balanced_any {w : World} {b : Nat} {k x : Bs} {l r : Tn} (h : Stale w b k x l r) (hnd : (Tn.node b k x l r).blks.Nodup) (hn : (Tn.node b k x l r).num ≤ 1000000) :
    Calls Try.prog 32 #[.pointer (some ⟨b, 0, none⟩)] w (Balanced w b k x l r) := by
  by_cases h1 : r.ht + 1 < l.ht
  · exact balanced_left h hnd hn h1
  · by_cases h2 : l.ht + 1 < r.ht
    · exact balanced_right h hnd hn h2
    · exact balanced_mid h hnd hn h1 h2
end Go.Proofs.Ytklhfegdjadgdaa
