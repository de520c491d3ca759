/- Layer 17: Caught, Ring. -/
import Derived.Test.YtiadphgodhfhjabWtF
import Derived.Deep.WholeRow
namespace Go.Proofs.Ytiadphgodhfhjab
open Go.RowKit

def RdYes (L : List (Int × Int)) (w : World) (e : Ending) (w' : World) : Prop := ∃ M, MkE L M ∧ e = .returned (.tuple #[.agg (maskV M), .int .i64 0]) ∧ Below w.heap.size w w'
theorem read_yes (w : World) {A : Option Addr} {c : Nat} {L : List (Int × Int)} (h : PrL w A c L) (hg : goodE L) : Calls Try.prog 22 #[.slice A L.length c] w (RdYes L w) :=
  (read_any w h (by have := hg.1; omega)).mono fun _ _ k => k.1.elim (fun ⟨_, M, hM, he⟩ => ⟨M, hM, he, k.2⟩) fun k' => absurd hg k'.1
theorem read_no (w : World) {A : Option Addr} {c : Nat} {L : List (Int × Int)} (h : PrL w A c L) (hc : L.length ≤ 1000000) (hg : ¬ goodE L) : Calls Try.prog 22 #[.slice A L.length c] w fun e w' => e = .returned (.tuple #[.agg (maskV noMask), .int .i64 1]) ∧ Below w.heap.size w w' :=
  (read_any w h hc).mono fun _ _ k => k.1.elim (fun k' => absurd k'.1 hg) fun k' => ⟨k'.2, k.2⟩
theorem mask_17 {M : List Nat} (hM : MkOk M) : 17 = (maskV M).size := by simp [maskV, hM.len]
theorem MkE.ring {L : List (Int × Int)} {M : List Nat} (h : MkE L M) : MkR M = EdR L := lead_ext h.eq
/-- What Caught answers of good edges. -/
def CaYes (L : List (Int × Int)) (w : World) (e : Ending) (w' : World) : Prop := ∃ (A : Option Addr) (c : Nat), e = .returned (.tuple #[.slice A (caughtL (EdR L)).length c, .int .i64 0]) ∧ OwnZ w' w.heap.size (.slice A (caughtL (EdR L)).length c) (natZ (caughtL (EdR L))) ∧ Below w.heap.size w w'
set_option maxRecDepth 100000 in
set_option maxHeartbeats 4000000 in
theorem Caught_yes (w : World) {A : Option Addr} {c : Nat} {L : List (Int × Int)} (h : PrL w A c L) (hg : goodE L) : Calls Try.prog 11 #[.slice A L.length c] w (CaYes L w) := by
  have H := Lib.hid (read_yes w h hg)
  clear h hg
  go_enter Try.func11, Try.ntmps11
  go_upto_region 4 with (first
    | (go_at_call 22; (with_reducible refine H.out.mono ?_); rintro e w1 ⟨M, hM, rfl, hb⟩; have HM := Lib.hid (And.intro hM hb); clear hM hb)
    | (refine wpList_store_row rfl 48 (.tmp 4) (.tmp 9) rfl w1.heap.size (maskV M) rfl rfl _ _ (heap_alloc_new _ _) (mask_size HM.out.1.ok) (mask_17 HM.out.1.ok) (mask_cellsOk _) ?_; rw [World.setRow_alloc_new]))
  have hb1 : Below w1.heap.size w1 (w1.alloc (.cells (maskV M) 48)) := (Below.refl _ _).alloc (Nat.le_refl _) _
  have HB := Lib.hid (And.intro (HM.out.2.trans (lower' hb1 HM.out.2.size)) (heap_alloc_new w1 (.cells (maskV M) 48)))
  have HC := Lib.hid (caught_any M HM.out.1.ok)
  generalize w1.alloc (.cells (maskV M) 48) = W1 at HB ⊢
  clear hb1
  go_wp2_with (first
    | (refine wpList_load_row rfl 48 (.tmp 4) rfl w1.heap.size rfl _ _ _ _ HB.out.2 Try.underlying48 rfl (mask_size HM.out.1.ok) ?_)
    | (go_at_call 23; (with_reducible refine (HC.out _).mono ?_); rintro e w2 ⟨A2, c2, rfl, ho, hb2⟩))
  go_ret2
  rw [HM.out.1.ring] at *
  exact ⟨A2, c2, rfl, ho.low HB.out.1.size, HB.out.1.trans (lower' hb2 HB.out.1.size)⟩
set_option maxRecDepth 100000 in
set_option maxHeartbeats 4000000 in
theorem Caught_no (w : World) {A : Option Addr} {c : Nat} {L : List (Int × Int)} (h : PrL w A c L) (hc : L.length ≤ 1000000) (hg : ¬ goodE L) : Calls Try.prog 11 #[.slice A L.length c] w fun e w' => e = .returned (.tuple #[.slice none 0 0, .int .i64 1]) ∧ Below w.heap.size w w' := by
  have H := Lib.hid (read_no w h hc hg)
  clear h hg hc
  go_enter Try.func11, Try.ntmps11
  go_wp2_with (first
    | (go_at_call 22; (with_reducible refine H.out.mono ?_); rintro e w1 ⟨rfl, hb⟩; have HM := Lib.hid hb; clear hb)
    | (refine wpList_store_row rfl 48 (.tmp 4) (.tmp 9) rfl w1.heap.size (maskV noMask) rfl rfl _ _ (heap_alloc_new _ _) (mask_size noMask_ok) rfl (mask_cellsOk _) ?_; rw [World.setRow_alloc_new]))
  go_ret2
  exact ⟨rfl, HM.out.alloc HM.out.size _⟩
/-- What Ring answers, where s is in a ring. -/
def RiYes (L : List (Int × Int)) (s : Nat) (w : World) (e : Ending) (w' : World) : Prop := ∃ (A : Option Addr) (c : Nat) (l : List Nat), e = .returned (.tuple #[.slice A l.length c, .int .i64 0]) ∧ OwnZ w' w.heap.size (.slice A l.length c) (natZ l) ∧ RingOf (EdR L) s l ∧ l.length ≤ 16 ∧ (∀ x ∈ l, 1 ≤ x ∧ x ≤ 16) ∧ Below w.heap.size w w'
set_option maxRecDepth 100000 in
set_option maxHeartbeats 4000000 in
theorem Ring_yes (w : World) {A : Option Addr} {c : Nat} {L : List (Int × Int)} (h : PrL w A c L) (hg : goodE L) (s : Nat) (hs : 1 ≤ s ∧ s ≤ 16) (hr : InRing (EdR L) s) : Calls Try.prog 15 #[.slice A L.length c, .int .i64 (s : Int)] w (RiYes L s w) := by
  have H := Lib.hid (read_yes w h hg)
  have hI := fun W => isSession_any (s : Int) W
  rw [decide_eq_true (show 1 ≤ (s : Int) ∧ (s : Int) ≤ 16 by omega)] at hI
  have HI := Lib.hid (And.intro hI (And.intro hs hr))
  clear h hg hI hs hr
  go_enter Try.func15, Try.ntmps15
  go_upto_region 4 with (first
    | (go_at_call 22; (with_reducible refine H.out.mono ?_); rintro e w1 ⟨M, hM, rfl, hb⟩; have HM := Lib.hid (And.intro hM hb); clear hM hb)
    | (go_at_call 25; (with_reducible refine (HI.out.1 _).mono ?_); rintro e w4 ⟨rfl, h4⟩; subst h4)
    | (refine wpList_store_row rfl 48 (.tmp 6) (.tmp 11) rfl w1.heap.size (maskV M) rfl rfl _ _ (heap_alloc_new _ _) (mask_size HM.out.1.ok) (mask_17 HM.out.1.ok) (mask_cellsOk _) ?_; rw [World.setRow_alloc_new]))
  have hb1 : Below w1.heap.size w1 (w1.alloc (.cells (maskV M) 48)) := (Below.refl _ _).alloc (Nat.le_refl _) _
  have HB := Lib.hid (And.intro (HM.out.2.trans (lower' hb1 HM.out.2.size)) (heap_alloc_new w1 (.cells (maskV M) 48)))
  have HC := Lib.hid (ring_yes M HM.out.1.ok s HI.out.2.1.1 HI.out.2.1.2 (by rw [HM.out.1.ring]; exact HI.out.2.2))
  generalize w1.alloc (.cells (maskV M) 48) = W1 at HB ⊢
  clear hb1
  go_wp2_with (first
    | (refine wpList_load_row rfl 48 (.tmp 6) rfl w1.heap.size rfl _ _ _ _ HB.out.2 Try.underlying48 rfl (mask_size HM.out.1.ok) ?_)
    | (go_at_call 26; (with_reducible refine (HC.out _).mono ?_); rintro e w2 ⟨A2, c2, l2, rfl, ho, hr, hl, hbd, hb2⟩; have HX := Lib.hid (And.intro hl hbd); clear hl hbd))
  go_ret2
  rw [HM.out.1.ring] at hr
  exact ⟨A2, c2, l2, rfl, ho.low HB.out.1.size, hr, HX.out.1, HX.out.2, HB.out.1.trans (lower' hb2 HB.out.1.size)⟩
set_option maxRecDepth 100000 in
set_option maxHeartbeats 4000000 in
theorem Ring_none (w : World) {A : Option Addr} {c : Nat} {L : List (Int × Int)} (h : PrL w A c L) (hg : goodE L) (s : Nat) (hs : 1 ≤ s ∧ s ≤ 16) (hr : ¬ InRing (EdR L) s) : Calls Try.prog 15 #[.slice A L.length c, .int .i64 (s : Int)] w fun e w' => e = .returned (.tuple #[.slice none 0 0, .int .i64 0]) ∧ Below w.heap.size w w' := by
  have H := Lib.hid (read_yes w h hg)
  have hI := fun W => isSession_any (s : Int) W
  rw [decide_eq_true (show 1 ≤ (s : Int) ∧ (s : Int) ≤ 16 by omega)] at hI
  have HI := Lib.hid (And.intro hI (And.intro hs hr))
  clear h hg hI hs hr
  go_enter Try.func15, Try.ntmps15
  go_upto_region 4 with (first
    | (go_at_call 22; (with_reducible refine H.out.mono ?_); rintro e w1 ⟨M, hM, rfl, hb⟩; have HM := Lib.hid (And.intro hM hb); clear hM hb)
    | (go_at_call 25; (with_reducible refine (HI.out.1 _).mono ?_); rintro e w4 ⟨rfl, h4⟩; subst h4)
    | (refine wpList_store_row rfl 48 (.tmp 6) (.tmp 11) rfl w1.heap.size (maskV M) rfl rfl _ _ (heap_alloc_new _ _) (mask_size HM.out.1.ok) (mask_17 HM.out.1.ok) (mask_cellsOk _) ?_; rw [World.setRow_alloc_new]))
  have hb1 : Below w1.heap.size w1 (w1.alloc (.cells (maskV M) 48)) := (Below.refl _ _).alloc (Nat.le_refl _) _
  have HB := Lib.hid (And.intro (HM.out.2.trans (lower' hb1 HM.out.2.size)) (heap_alloc_new w1 (.cells (maskV M) 48)))
  have HC := Lib.hid (ring_no M HM.out.1.ok s HI.out.2.1.1 HI.out.2.1.2 (by rw [HM.out.1.ring]; exact HI.out.2.2))
  generalize w1.alloc (.cells (maskV M) 48) = W1 at HB ⊢
  clear hb1
  go_wp2_with (first
    | (refine wpList_load_row rfl 48 (.tmp 6) rfl w1.heap.size rfl _ _ _ _ HB.out.2 Try.underlying48 rfl (mask_size HM.out.1.ok) ?_)
    | (go_at_call 26; (with_reducible refine (HC.out _).mono ?_); rintro e w2 ⟨rfl, hb2⟩))
  go_ret2
  exact ⟨rfl, HB.out.1.trans (lower' hb2 HB.out.1.size)⟩
set_option maxRecDepth 100000 in
set_option maxHeartbeats 4000000 in
theorem Ring_no (w : World) {A : Option Addr} {c : Nat} {L : List (Int × Int)} (h : PrL w A c L) (hc : L.length ≤ 1000000) (s : Int) (hg : ¬ (goodE L ∧ 1 ≤ s ∧ s ≤ 16)) : Calls Try.prog 15 #[.slice A L.length c, .int .i64 s] w fun e w' => e = .returned (.tuple #[.slice none 0 0, .int .i64 1]) ∧ Below w.heap.size w w' := by
  by_cases hg2 : goodE L
  · have H := Lib.hid (read_yes w h hg2)
    have hI := fun W => isSession_any s W
    rw [decide_eq_false (show ¬ (1 ≤ s ∧ s ≤ 16) from fun k => hg ⟨hg2, k⟩)] at hI
    have HI := Lib.hid hI
    clear h hg hc hg2 hI
    go_enter Try.func15, Try.ntmps15
    go_wp2_with (first
      | (go_at_call 22; (with_reducible refine H.out.mono ?_); rintro e w1 ⟨M, hM, rfl, hb⟩; have HM := Lib.hid (And.intro hM hb); clear hM hb)
      | (go_at_call 25; (with_reducible refine (HI.out _).mono ?_); rintro e w4 ⟨rfl, h4⟩; subst h4)
      | (refine wpList_store_row rfl 48 (.tmp 6) (.tmp 11) rfl w1.heap.size (maskV M) rfl rfl _ _ (heap_alloc_new _ _) (mask_size HM.out.1.ok) (mask_17 HM.out.1.ok) (mask_cellsOk _) ?_; rw [World.setRow_alloc_new]))
    go_ret2
    exact ⟨rfl, HM.out.2.alloc HM.out.2.size _⟩
  · have H := Lib.hid (read_no w h hc hg2)
    clear h hg hc hg2
    go_enter Try.func15, Try.ntmps15
    go_wp2_with (first
      | (go_at_call 22; (with_reducible refine H.out.mono ?_); rintro e w1 ⟨rfl, hb⟩; have HM := Lib.hid hb; clear hb)
      | (refine wpList_store_row rfl 48 (.tmp 6) (.tmp 11) rfl w1.heap.size (maskV noMask) rfl rfl _ _ (heap_alloc_new _ _) (mask_size noMask_ok) rfl (mask_cellsOk _) ?_; rw [World.setRow_alloc_new]))
    go_ret2
    exact ⟨rfl, HM.out.alloc HM.out.size _⟩
end Go.Proofs.Ytiadphgodhfhjab
