/- Layer 17: victim, Victim. -/
import Derived.Test.YtiadphgodhfhjabWtI
namespace Go.Proofs.Ytiadphgodhfhjab
open Go.RowKit

theorem mem_caught16 {R : Nat → Nat → Prop} : ∀ x ∈ caughtL R, x ≤ 16 := fun _ hx => (mem_caughtL.1 hx).1.2
theorem caught_len (R : Nat → Nat → Prop) : (caughtL R).length ≤ 16 := caughtK_len R 16
def ViPost (R : Nat → Nat → Prop) (B : List Int) (w : World) (e : Ending) (w' : World) : Prop := ∃ v : Nat, e = .returned (.tuple #[.int .i64 (v : Int), .bool true]) ∧ Yst (birthF B) (caughtL R) v ∧ Below w.heap.size w w'
set_option maxRecDepth 100000 in
set_option maxHeartbeats 4000000 in
theorem victim_yes (M : List Nat) (hM : MkOk M) (w : World) {A : Option Addr} {c : Nat} {B : List Int} (h : IntL w A c B) (hn : caughtL (MkR M) ≠ []) :
    Calls Try.prog 27 #[.agg (maskV M), .slice A B.length c] w (ViPost (MkR M) B w) := by
  have hb0 : Below w.heap.size w ((w.alloc (.cells (maskV M) 48)).alloc (.cells #[.slice A B.length c] 25)) := ((Below.refl _ _).alloc (Nat.le_refl _) _).alloc (by simp) _
  obtain ⟨g0, g1⟩ := two_new w (.cells (maskV M) 48) (.cells #[.slice A B.length c] 25)
  have H0 := Lib.hid (And.intro hb0 (And.intro g0 (And.intro g1 h)))
  have hp := List.length_pos_iff.2 hn
  have HC := Lib.hid (fun W => caught_any M hM W)
  have HM := Lib.hid (mask_size hM)
  clear hb0 g0 g1 h hn hM
  go_enter Try.func27, Try.ntmps27
  go_upto_region 1 with (fail)
  generalize ((w.alloc (.cells (maskV M) 48)).alloc (.cells #[.slice A B.length c] 25)) = W0 at H0 ⊢
  obtain ⟨n, hn⟩ : ∃ n, n = (caughtL (MkR M)).length := ⟨_, rfl⟩
  have hz : ((n : Int) == 0) = false := by rw [beq_eq_false_iff_ne]; omega
  have HP := Lib.hid (And.intro hp hn)
  clear hp hn
  go_upto_region 4 with (first
    | (refine wpList_load_row rfl 48 (.tmp 2) rfl w.heap.size rfl _ _ _ _ H0.out.2.1 Try.underlying48 rfl HM.out ?_)
    | (go_at_call 23; (with_reducible refine (HC.out _).mono ?_); rintro e w2 ⟨A2, c2, rfl, ho, hb2⟩; rw [← HP.out.2] at ho ⊢; have HX := Lib.hid (And.intro ho hb2); clear ho hb2))
  obtain ⟨A3, c3, e3, hil⟩ := HX.out.1.il
  injection e3 with e3 e4 e5
  subst e3 e5
  have hmx := maxFunc_any w2 (H0.out.2.2.2.below (lower' (H0.out.1.trans (lower' HX.out.2 H0.out.1.size)) (Nat.le_refl _))) (w.heap.size + 1) ((HX.out.2.block _ (heap_lt H0.out.2.2.1)).trans H0.out.2.2.1) (caughtL (MkR M)) A2 c2 hil HP.out.1 mem_caught16 (caught_len _)
  rw [← HP.out.2] at hmx
  have HMX := Lib.hid hmx
  clear hmx hil e4
  go_wp2_with (go_at_call 32; (with_reducible refine HMX.out.mono ?_); rintro e w3 ⟨v, rfl, hy, hb3⟩; have HY := Lib.hid (And.intro hy hb3); clear hy hb3)
  go_ret2
  exact ⟨v, rfl, HY.out.1, (H0.out.1.trans (lower' HX.out.2 H0.out.1.size)).trans (lower' HY.out.2 (Nat.le_trans H0.out.1.size HX.out.2.size))⟩
set_option maxRecDepth 100000 in
set_option maxHeartbeats 4000000 in
theorem victim_no (M : List Nat) (hM : MkOk M) (w : World) {A : Option Addr} {c : Nat} {B : List Int} (hn : caughtL (MkR M) = []) :
    Calls Try.prog 27 #[.agg (maskV M), .slice A B.length c] w fun e w' => e = .returned (.tuple #[.int .i64 0, .bool false]) ∧ Below w.heap.size w w' := by
  have hb0 : Below w.heap.size w ((w.alloc (.cells (maskV M) 48)).alloc (.cells #[.slice A B.length c] 25)) := ((Below.refl _ _).alloc (Nat.le_refl _) _).alloc (by simp) _
  obtain ⟨g0, g1⟩ := two_new w (.cells (maskV M) 48) (.cells #[.slice A B.length c] 25)
  have H0 := Lib.hid (And.intro hb0 g0)
  have HC := Lib.hid (fun W => caught_any M hM W)
  have HM := Lib.hid (mask_size hM)
  have HN := Lib.hid hn
  clear hb0 g0 g1 hn hM
  go_enter Try.func27, Try.ntmps27
  go_upto_region 1 with (fail)
  generalize ((w.alloc (.cells (maskV M) 48)).alloc (.cells #[.slice A B.length c] 25)) = W0 at H0 ⊢
  go_wp2_with (first
    | (refine wpList_load_row rfl 48 (.tmp 2) rfl w.heap.size rfl _ _ _ _ H0.out.2 Try.underlying48 rfl HM.out ?_)
    | (go_at_call 23; (with_reducible refine (HC.out _).mono ?_); rintro e w2 ⟨A2, c2, rfl, ho, hb2⟩; rw [HN.out] at ho ⊢; have HX := Lib.hid (And.intro ho hb2); clear ho hb2))
  go_ret2
  exact ⟨rfl, H0.out.1.trans (lower' HX.out.2 H0.out.1.size)⟩
end Go.Proofs.Ytiadphgodhfhjab
