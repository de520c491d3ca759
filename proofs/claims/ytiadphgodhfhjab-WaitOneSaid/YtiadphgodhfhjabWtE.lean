/- Layer 17: caught. -/
import Derived.Test.YtiadphgodhfhjabWtD
import Derived.Deep.Cut
namespace Go.Proofs.Ytiadphgodhfhjab
open Go.RowKit

theorem ring_yes (M : List Nat) (hM : MkOk M) (s : Nat) (h1 : 1 ≤ s) (h16 : s ≤ 16) (h : InRing (MkR M) s) (w : World) :
    Calls Try.prog 26 #[.agg (maskV M), .int .i64 (s : Int)] w (RgYes M s w) :=
  (ring_any M hM s h1 h16 w).mono fun _ _ k => k.elim id fun k => absurd h k.1
theorem ring_no (M : List Nat) (hM : MkOk M) (s : Nat) (h1 : 1 ≤ s) (h16 : s ≤ 16) (h : ¬ InRing (MkR M) s) (w : World) :
    Calls Try.prog 26 #[.agg (maskV M), .int .i64 (s : Int)] w fun e w' => e = .returned (.slice none 0 0) ∧ Below w.heap.size w w' :=
  (ring_any M hM s h1 h16 w).mono fun _ _ k => k.elim (fun ⟨_, _, _, _, _, k, _⟩ => absurd k.inRing h) fun k => k.2
theorem size_waits : (Try.prog.info? 48).map (·.size) = some 17 := by kernel_rfl
theorem mask_size {M : List Nat} (hM : MkOk M) : (Try.prog.info? 48).map (·.size) = some (maskV M).size := by
  have e : (maskV M).size = 17 := by simp [maskV, hM.len]
  rw [e]
  exact size_waits
/-- What caught answers. -/
def CgPost (R : Nat → Nat → Prop) (w : World) (e : Ending) (w' : World) : Prop := ∃ (A : Option Addr) (c : Nat), e = .returned (.slice A (caughtL R).length c) ∧ OwnZ w' w.heap.size (.slice A (caughtL R).length c) (natZ (caughtL R)) ∧ Below w.heap.size w w'
set_option maxRecDepth 100000 in
set_option maxHeartbeats 4000000 in
theorem caught_any (M : List Nat) (hM : MkOk M) (w : World) :
    Calls Try.prog 23 #[.agg (maskV M)] w (CgPost (MkR M) w) := by
  have hb0 : Below w.heap.size w (w.alloc (.cells (maskV M) 48)) := (Below.refl _ _).alloc (Nat.le_refl _) _
  have hg := heap_alloc_new w (.cells (maskV M) 48)
  have H0 := Lib.hid (And.intro hb0 hg)
  have HM := Lib.hid hM
  clear hb0 hg hM
  go_enter Try.func23, Try.ntmps23
  go_wp2
  generalize (w.alloc (.cells (maskV M) 48)) = W0 at H0 ⊢
  go_loopg [3, 4] 20 (fun gk v3 v4 wr => ∃ (A : Option Addr) (c k : Nat), k ≤ 16 ∧ k + gk = 20 ∧ v3 = .slice A (caughtK (MkR M) k).length c ∧ v4 = .int .i64 ((k : Int) + 1) ∧ Hid (OwnZ wr w.heap.size (.slice A (caughtK (MkR M) k).length c) (natZ (caughtK (MkR M) k)) ∧ Below w.heap.size w wr ∧ wr.heap[w.heap.size]? = some (.cells (maskV M) 48 (0, 0))))
  case atStart => exact ⟨none, 0, 0, by omega, by omega, rfl, rfl, Lib.hid ⟨OwnZ.nil _ _, H0.out.1, H0.out.2⟩⟩
  case round =>
    clear H0
    obtain ⟨A, c, k, hk, hkg, rfl, rfl, hrel⟩ := hrel
    have hbx := hrel.out.2.2
    have HB := Lib.hid hbx
    clear hbx
    have hkI : (k : Int) ≤ 16 := by omega
    by_cases hlt : k < 16
    · have hlI : (k : Int) + 1 ≤ 16 := by omega
      obtain ⟨Q, hQ⟩ : ∃ Q, Q = caughtK (MkR M) k := ⟨_, rfl⟩
      have hql : Q.length ≤ 16 := by rw [hQ]; have := caughtK_len (MkR M) k; omega
      rw [← hQ] at hrel ⊢
      have HK := Lib.hid (And.intro hlt (And.intro hkg (And.intro hQ hql)))
      clear hlt hkg hQ hql hk
      by_cases e : InRing (MkR M) (k + 1)
      · have hr := fun w => (show Calls Try.prog 26 #[.agg (maskV M), .int .i64 ((k : Int) + 1)] w (RgYes M (k + 1) w) from ring_yes M HM.out (k + 1) (by omega) (by omega) e w)
        have HR := Lib.hid hr
        have hyes := Lib.hid (caughtK_yes e)
        clear hr e
        go_upto_region 6 with (first
          | (refine wpList_load_row rfl 48 (.tmp 1) rfl w.heap.size rfl _ _ _ _ HB.out Try.underlying48 rfl (mask_size HM.out) ?_)
          | (go_at_call 26; (with_reducible refine (HR.out _).mono ?_); rintro e w2 ⟨A2, c2, l2, rfl, ho2, hr2, -, -, hb2⟩; have hnn := run_neq_slice_nil_any (P := Try.prog) w2 25 3 A2 l2.length c2 0 0 Try.underlying25; obtain ⟨g2, rfl, -⟩ := ho2.at (by rw [natZ_len]; exact hr2.pos); have HX := Lib.hid hb2; clear hb2 hr2 ho2))
        obtain ⟨A5, c5, w5, hrun, hown, hfr, -, hb5⟩ := app_intZ w2 w.heap.size (.slice A Q.length c) (natZ Q) (hrel.out.1.below HX.out) (Nat.le_trans hrel.out.2.1.size HX.out.size) ((k : Int) + 1) (by rw [natZ_len]; have := HK.out.2.2.2; omega)
        rw [natZ_len] at hrun hown
        have hbox : w5.heap[w.heap.size]? = some (.cells (maskV M) 48 (0, 0)) := (hfr.block _ (Nat.lt_of_lt_of_le (heap_lt hrel.out.2.2) HX.out.size) (hrel.out.1.apart hrel.out.2.2 (by decide))).trans ((HX.out.block _ (heap_lt hrel.out.2.2)).trans hrel.out.2.2)
        have HN := Lib.hid (And.intro hown (And.intro (hrel.out.2.1.trans ((lower' HX.out hrel.out.2.1.size).trans hb5)) hbox))
        clear hown hfr hb5 hbox
        go_wp2_with (at_builtin; refine wpL_appK _ rfl (.tmp 13) (.tmp 15) 25 rfl rfl _ _ _ _ rfl rfl hrun ?_)
        go_roundg (gk - 1)
        case rel => exact ⟨A5, c5, k + 1, by have := HK.out.1; omega, by have := HK.out.2.1; omega, by rw [hyes.out, ← HK.out.2.2.1, List.length_append]; rfl, by go_num, by
          rw [hyes.out, ← HK.out.2.2.1, natZ_app, List.length_append]
          exact HN⟩
        case measure => have := HK.out; omega
      · have hr := fun w => (show Calls Try.prog 26 #[.agg (maskV M), .int .i64 ((k : Int) + 1)] w (fun e w' => e = .returned (.slice none 0 0) ∧ Below w.heap.size w w') from ring_no M HM.out (k + 1) (by omega) (by omega) e w)
        have HR := Lib.hid hr
        have hno := Lib.hid (caughtK_no e)
        have hnn := fun w2 => run_neq_slice_nil_any (P := Try.prog) w2 25 3 none 0 0 0 0 Try.underlying25
        clear hr e
        go_wp2_with (first
          | (refine wpList_load_row rfl 48 (.tmp 1) rfl w.heap.size rfl _ _ _ _ HB.out Try.underlying48 rfl (mask_size HM.out) ?_)
          | (go_at_call 26; (with_reducible refine (HR.out _).mono ?_); rintro e w2 ⟨rfl, hb2⟩))
        go_roundg (gk - 1)
        case rel => exact ⟨A, c, k + 1, by have := HK.out.1; omega, by have := HK.out.2.1; omega, by rw [hno.out, ← HK.out.2.2.1], by go_num, by
          rw [hno.out, ← HK.out.2.2.1]
          exact Lib.hid ⟨hrel.out.1.below hb2, hrel.out.2.1.trans (lower' hb2 hrel.out.2.1.size), (hb2.block _ (heap_lt hrel.out.2.2)).trans hrel.out.2.2⟩⟩
        case measure => have := HK.out; omega
    · obtain rfl : k = 16 := by omega
      rw [caughtK_all] at hrel ⊢
      go_wp2
      go_ret
      exact ⟨A, c, rfl, hrel.out.1, hrel.out.2.1⟩
end Go.Proofs.Ytiadphgodhfhjab
