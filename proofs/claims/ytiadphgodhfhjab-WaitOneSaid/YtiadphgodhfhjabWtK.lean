/- Layer 17: Victim, Break. -/
import Derived.Test.YtiadphgodhfhjabWtJ
namespace Go.Proofs.Ytiadphgodhfhjab
open Go.RowKit

def VcYes (R : Nat → Nat → Prop) (B : List Int) (w : World) (e : Ending) (w' : World) : Prop := ∃ v : Nat, e = .returned (.tuple #[.int .i64 (v : Int), .bool true, .int .i64 0]) ∧ Yst (birthF B) (caughtL R) v ∧ Below w.heap.size w w'
set_option maxRecDepth 100000 in
set_option maxHeartbeats 4000000 in
theorem Victim_yes (w : World) {A : Option Addr} {c : Nat} {L : List (Int × Int)} (h : PrL w A c L) (hg : goodE L) {Ab : Option Addr} {cb : Nat} {B : List Int} (hi : IntL w Ab cb B) (hn : caughtL (EdR L) ≠ []) :
    Calls Try.prog 17 #[.slice A L.length c, .slice Ab B.length cb] w (VcYes (EdR L) B w) := by
  have H := Lib.hid (read_yes w h hg)
  have HI := Lib.hid (And.intro hi hn)
  clear h hg hi hn
  go_enter Try.func17, Try.ntmps17
  go_upto_region 4 with (first
    | (go_at_call 22; (with_reducible refine H.out.mono ?_); rintro e w1 ⟨M, hM, rfl, hb⟩; have HM := Lib.hid (And.intro hM hb); clear hM hb)
    | (refine wpList_store_row rfl 48 (.tmp 7) (.tmp 14) rfl w1.heap.size (maskV M) rfl rfl _ _ (heap_alloc_new _ _) (mask_size HM.out.1.ok) (mask_17 HM.out.1.ok) (mask_cellsOk _) ?_; rw [World.setRow_alloc_new]))
  have hb1 : Below w1.heap.size w1 (w1.alloc (.cells (maskV M) 48)) := (Below.refl _ _).alloc (Nat.le_refl _) _
  have HB := Lib.hid (And.intro (HM.out.2.trans (lower' hb1 HM.out.2.size)) (heap_alloc_new w1 (.cells (maskV M) 48)))
  generalize w1.alloc (.cells (maskV M) 48) = W1 at HB ⊢
  clear hb1
  have HC := Lib.hid (victim_yes M HM.out.1.ok W1 (HI.out.1.below HB.out.1) (by rw [HM.out.1.ring]; exact HI.out.2))
  go_wp2_with (first
    | (refine wpList_load_row rfl 48 (.tmp 7) rfl w1.heap.size rfl _ _ _ _ HB.out.2 Try.underlying48 rfl (mask_size HM.out.1.ok) ?_)
    | (go_at_call 27; (with_reducible refine HC.out.mono ?_); rintro e w2 ⟨v, rfl, hy, hb2⟩; have HX := Lib.hid (And.intro hy hb2); clear hy hb2))
  go_ret3
  exact ⟨v, rfl, by have := HX.out.1; rw [HM.out.1.ring] at this; exact this, HB.out.1.trans (lower' HX.out.2 HB.out.1.size)⟩
set_option maxRecDepth 100000 in
set_option maxHeartbeats 4000000 in
theorem Victim_none (w : World) {A : Option Addr} {c : Nat} {L : List (Int × Int)} (h : PrL w A c L) (hg : goodE L) {Ab : Option Addr} {cb : Nat} {B : List Int} (hn : caughtL (EdR L) = []) :
    Calls Try.prog 17 #[.slice A L.length c, .slice Ab B.length cb] w fun e w' => e = .returned (.tuple #[.int .i64 0, .bool false, .int .i64 0]) ∧ Below w.heap.size w w' := by
  have H := Lib.hid (read_yes w h hg)
  have HI := Lib.hid hn
  clear h hg hn
  go_enter Try.func17, Try.ntmps17
  go_upto_region 4 with (first
    | (go_at_call 22; (with_reducible refine H.out.mono ?_); rintro e w1 ⟨M, hM, rfl, hb⟩; have HM := Lib.hid (And.intro hM hb); clear hM hb)
    | (refine wpList_store_row rfl 48 (.tmp 7) (.tmp 14) rfl w1.heap.size (maskV M) rfl rfl _ _ (heap_alloc_new _ _) (mask_size HM.out.1.ok) (mask_17 HM.out.1.ok) (mask_cellsOk _) ?_; rw [World.setRow_alloc_new]))
  have hb1 : Below w1.heap.size w1 (w1.alloc (.cells (maskV M) 48)) := (Below.refl _ _).alloc (Nat.le_refl _) _
  have HB := Lib.hid (And.intro (HM.out.2.trans (lower' hb1 HM.out.2.size)) (heap_alloc_new w1 (.cells (maskV M) 48)))
  generalize w1.alloc (.cells (maskV M) 48) = W1 at HB ⊢
  clear hb1
  have HC := Lib.hid (victim_no M HM.out.1.ok W1 (A := Ab) (c := cb) (B := B) (by rw [HM.out.1.ring]; exact HI.out))
  go_wp2_with (first
    | (refine wpList_load_row rfl 48 (.tmp 7) rfl w1.heap.size rfl _ _ _ _ HB.out.2 Try.underlying48 rfl (mask_size HM.out.1.ok) ?_)
    | (go_at_call 27; (with_reducible refine HC.out.mono ?_); rintro e w2 ⟨rfl, hb2⟩))
  go_ret3
  exact ⟨rfl, HB.out.1.trans (lower' hb2 HB.out.1.size)⟩
set_option maxRecDepth 100000 in
set_option maxHeartbeats 4000000 in
theorem Victim_no (w : World) {A : Option Addr} {c : Nat} {L : List (Int × Int)} (h : PrL w A c L) (hc : L.length ≤ 1000000) (hg : ¬ goodE L) (v : Value) :
    Calls Try.prog 17 #[.slice A L.length c, v] w fun e w' => e = .returned (.tuple #[.int .i64 0, .bool false, .int .i64 1]) ∧ Below w.heap.size w w' := by
  have H := Lib.hid (read_no w h hc hg)
  clear h hg hc
  go_enter Try.func17, Try.ntmps17
  go_wp2_with (first
    | (go_at_call 22; (with_reducible refine H.out.mono ?_); rintro e w1 ⟨rfl, hb⟩; have HM := Lib.hid hb; clear hb)
    | (refine wpList_store_row rfl 48 (.tmp 7) (.tmp 14) rfl w1.heap.size (maskV noMask) rfl rfl _ _ (heap_alloc_new _ _) (mask_size noMask_ok) rfl (mask_cellsOk _) ?_; rw [World.setRow_alloc_new]))
  go_ret3
  exact ⟨rfl, HM.out.alloc HM.out.size _⟩
set_option maxRecDepth 100000 in
set_option maxHeartbeats 4000000 in
theorem Break_no (w : World) {A : Option Addr} {c : Nat} {L : List (Int × Int)} (h : PrL w A c L) (hc : L.length ≤ 1000000) (hg : ¬ goodE L) (v : Value) :
    Calls Try.prog 18 #[.slice A L.length c, v] w fun e w' => e = .returned (.tuple #[.slice none 0 0, .int .i64 1]) ∧ Below w.heap.size w w' := by
  have H := Lib.hid (read_no w h hc hg)
  clear h hg hc
  go_enter Try.func18, Try.ntmps18
  go_wp2_with (first
    | (go_at_call 22; (with_reducible refine H.out.mono ?_); rintro e w1 ⟨rfl, hb⟩; have HM := Lib.hid hb; clear hb)
    | (refine wpList_store_row rfl 48 (.tmp 6) (.tmp 14) rfl w1.heap.size (maskV noMask) rfl rfl _ _ (heap_alloc_new _ _) (mask_size noMask_ok) rfl (mask_cellsOk _) ?_; rw [World.setRow_alloc_new]))
  go_ret2
  exact ⟨rfl, HM.out.alloc HM.out.size _⟩
def BrYes (R : Nat → Nat → Prop) (B : List Int) (w : World) (e : Ending) (w' : World) : Prop := ∃ (A : Option Addr) (c : Nat) (V : List Nat), e = .returned (.tuple #[.slice A V.length c, .int .i64 0]) ∧ OwnZ w' w.heap.size (.slice A V.length c) (natZ V) ∧ AllVics R (birthF B) V ∧ Below w.heap.size w w'
theorem mk_clear {R : Nat → Nat → Prop} {M V : List Nat} (hM : MkOk M) (h : MkR M = OffA R V) {v : Nat} (hv : v ≤ 16) : MkOk (M.set v 0) ∧ MkR (M.set v 0) = OffA R (V ++ [v]) := by
  have hl : v < M.length := by rw [hM.len]; omega
  have key := fun x y => mk_zero hl x y
  refine ⟨⟨by rw [List.length_set]; exact hM.len, fun x => ?_, fun x y hxy => hM.ed x y ((key x y).1 hxy).2⟩, lead_ext fun x y => ?_⟩
  · rw [List.getD_eq_getElem?_getD, List.getElem?_set]
    by_cases e : v = x
    · rw [if_pos e, if_pos hl]; simp
    · rw [if_neg e, ← List.getD_eq_getElem?_getD]; exact hM.lt x
  · rw [key, h]
    unfold OffA
    rw [List.mem_append, List.mem_singleton]
    exact ⟨fun ⟨a, b, c⟩ => ⟨b, fun d => d.elim c a⟩, fun ⟨a, b⟩ => ⟨fun d => b (.inr d), a, fun d => b (.inl d)⟩⟩
set_option maxRecDepth 100000 in
set_option maxHeartbeats 4000000 in
theorem Break_yes (w : World) {A : Option Addr} {c : Nat} {L : List (Int × Int)} (h : PrL w A c L) (hg : goodE L) {Ab : Option Addr} {cb : Nat} {B : List Int} (hi : IntL w Ab cb B) :
    Calls Try.prog 18 #[.slice A L.length c, .slice Ab B.length cb] w (BrYes (EdR L) B w) := by
  have H := Lib.hid (read_yes w h hg)
  have HI := Lib.hid hi
  clear h hg hi
  go_enter Try.func18, Try.ntmps18
  go_upto_region 4 with (first
    | (go_at_call 22; (with_reducible refine H.out.mono ?_); rintro e w1 ⟨M, hM, rfl, hb⟩; have HM := Lib.hid (And.intro hM hb); clear hM hb)
    | (refine wpList_store_row rfl 48 (.tmp 6) (.tmp 14) rfl w1.heap.size (maskV M) rfl rfl _ _ (heap_alloc_new _ _) (mask_size HM.out.1.ok) (mask_17 HM.out.1.ok) (mask_cellsOk _) ?_; rw [World.setRow_alloc_new]))
  have hb1 : Below w1.heap.size w1 (w1.alloc (.cells (maskV M) 48)) := (Below.refl _ _).alloc (Nat.le_refl _) _
  have HB := Lib.hid (And.intro (HM.out.2.trans (lower' hb1 HM.out.2.size)) (heap_alloc_new w1 (.cells (maskV M) 48)))
  generalize w1.alloc (.cells (maskV M) 48) = W1 at HB ⊢
  clear hb1
  have HS : Hid (MkOk M ∧ MkR M = OffA (EdR L) [] ∧ w.heap.size ≤ w1.heap.size) := Lib.hid ⟨HM.out.1.ok, by rw [offA_nil]; exact HM.out.1.ring, HM.out.2.size⟩
  clear H
  go_wp2_with (fail)
  go_loopg [8] 17 (fun gk v8 wr => ∃ (A : Option Addr) (c : Nat) (V M : List Nat), V.length + gk = 17 ∧ V.length ≤ 16 ∧ v8 = .slice A V.length c ∧ Hid (OwnZ wr w.heap.size (.slice A V.length c) (natZ V) ∧ Vics (EdR L) (birthF B) V ∧ (MkOk M ∧ MkR M = OffA (EdR L) V) ∧ Below w.heap.size w wr ∧ wr.heap[w1.heap.size]? = some (.cells (maskV M) 48 (0, 0))))
  case atStart => exact ⟨none, 0, [], M, rfl, by simp, rfl, Lib.hid ⟨OwnZ.nil _ _, Vics.nil _ _, ⟨HS.out.1, HS.out.2.1⟩, HB.out.1, HB.out.2⟩⟩
  case round =>
    have HW := Lib.hid HS.out.2.2
    clear HS HB HM
    obtain ⟨A3, c3, V, M, hgk, hV, rfl, hrel⟩ := hrel
    have HK := Lib.hid (And.intro hgk hV)
    clear hgk
    by_cases hn : caughtL (MkR M) = []
    · have HC := Lib.hid (victim_no M hrel.out.2.2.1.1 wr (A := Ab) (c := cb) (B := B) hn)
      have HN := Lib.hid hn
      clear hn hV
      go_wp2_with (first
        | (refine wpList_load_row rfl 48 (.tmp 6) rfl w1.heap.size rfl _ _ _ _ hrel.out.2.2.2.2 Try.underlying48 rfl (mask_size hrel.out.2.2.1.1) ?_)
        | (go_at_call 27; (with_reducible refine HC.out.mono ?_); rintro e w2 ⟨rfl, hb2⟩))
      go_ret2
      exact ⟨A3, c3, V, rfl, hrel.out.1.below hb2, ⟨hrel.out.2.1, by have := HN.out; rw [hrel.out.2.2.1.2, off_caught] at this; exact this⟩, hrel.out.2.2.2.1.trans (lower' hb2 hrel.out.2.2.2.1.size)⟩
    · have HC := Lib.hid (victim_yes M hrel.out.2.2.1.1 wr (HI.out.below hrel.out.2.2.2.1) hn)
      clear hn
      go_upto_region 8 with (first
        | (refine wpList_load_row rfl 48 (.tmp 6) rfl w1.heap.size rfl _ _ _ _ hrel.out.2.2.2.2 Try.underlying48 rfl (mask_size hrel.out.2.2.1.1) ?_)
        | (go_at_call 27; (with_reducible refine HC.out.mono ?_); rintro e w2 ⟨v, rfl, hy, hb2⟩; have HX := Lib.hid (And.intro hy hb2); clear hy hb2))
      have hv16 := (mem_caughtL.1 HX.out.1.mem).1.2
      have hvI : (v : Int) < 17 := by omega
      have hbx := (HX.out.2.block _ (heap_lt hrel.out.2.2.2.2)).trans hrel.out.2.2.2.2
      have hcl := mk_clear hrel.out.2.2.1.1 hrel.out.2.2.1.2 hv16
      have hvs : Vics (EdR L) (birthF B) (V ++ [v]) := hrel.out.2.1.snoc (by rw [← off_caught, ← hrel.out.2.2.1.2]; exact HX.out.1)
      have z0 := mask_cell hbx (k := v) (by rw [hrel.out.2.2.1.1.len]; omega)
      have zf := frozen_of_row _ _ v _ _ hbx
      have hset := heap_setCell_same w2 w1.heap.size v _ _ (.int .u32 ((0 : Nat) : Int)) hbx
      rw [maskV_set] at hset
      have hfr : Fr w2 (w2.setCell ⟨w1.heap.size, v, none⟩ (.int .u32 ((0 : Nat) : Int))) [w1.heap.size] := (Fr.refl w2 _).setCell (by simp) _
      have hbw := hrel.out.2.2.2.1.trans (lower' HX.out.2 hrel.out.2.2.2.1.size)
      have hbw2 := hbw.trans (hfr.below hbw.size fun x hx => by rw [List.mem_singleton.1 hx]; exact HW.out)
      have how : OwnZ (w2.setCell ⟨w1.heap.size, v, none⟩ (.int .u32 ((0 : Nat) : Int))) w.heap.size (.slice A3 V.length c3) (natZ V) := (hrel.out.1.below HX.out.2).fr hfr fun a ha hm => (hrel.out.1.below HX.out.2).apart hbx (by decide) (by rw [ha, ← List.mem_singleton.1 hm]; simp)
      have hvl := hvs.len
      have HN := Lib.hid (And.intro hcl (And.intro hvs (And.intro hset (And.intro hbw2 (And.intro how hvl)))))
      clear hv16 hbx hcl hvs hset hfr hbw hbw2 how hvl
      go_upto_region 9 with (fail)
      have e0 : ((0 : Nat) : Int) = 0 := rfl
      rw [e0] at HN
      generalize w2.setCell ⟨w1.heap.size, v, none⟩ (.int .u32 0) = W2 at HN ⊢
      clear z0 zf
      obtain ⟨A5, c5, w5, hrun, hown, hfr, -, hb5⟩ := app_intZ W2 w.heap.size (.slice A3 V.length c3) (natZ V) HN.out.2.2.2.2.1 HN.out.2.2.2.1.size (v : Int) (by rw [natZ_len]; omega)
      rw [natZ_len] at hrun hown
      have hbox := (hfr.block _ (heap_lt HN.out.2.2.1) (HN.out.2.2.2.2.1.apart HN.out.2.2.1 (by decide))).trans HN.out.2.2.1
      have HY := Lib.hid (And.intro hown (And.intro (HN.out.2.2.2.1.trans hb5) hbox))
      clear hown hfr hb5 hbox
      go_wp2_with (at_builtin; refine wpL_appK _ rfl (.tmp 30) (.tmp 32) 25 rfl rfl _ _ _ _ rfl rfl hrun ?_)
      go_roundg (gk - 1)
      case rel => exact ⟨A5, c5, V ++ [v], M.set v 0, by rw [List.length_append]; have := HK.out; simp; omega, HN.out.2.2.2.2.2, by rw [List.length_append]; rfl, Lib.hid ⟨by rw [List.length_append, natZ_app]; exact HY.out.1, HN.out.2.1, HN.out.1, HY.out.2.1, HY.out.2.2⟩⟩
      case measure => have := HK.out; omega
end Go.Proofs.Ytiadphgodhfhjab
