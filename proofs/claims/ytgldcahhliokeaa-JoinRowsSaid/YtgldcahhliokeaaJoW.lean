/- join.Rows. -/
import Derived.Test.YtgldcahhliokeaaJoV
namespace Go.Proofs.Ytgldcahhliokeaa
open Go.RowKit Go.Maps

/-- The rows' code and list. -/
def rowsC (v : Vw) (es : List Ed) : Int := if goodP v = true then (if (rowsOfL v.atoms es).length ≤ 3000 then 0 else 5) else 1
def rowsR (v : Vw) (es : List Ed) : List Tu := if goodP v = true then (if (rowsOfL v.atoms es).length ≤ 3000 then setL (rowsOfL v.atoms es) else []) else []
theorem rowsR_len (v : Vw) (es : List Ed) : (rowsR v es).length ≤ 3000 := by
  unfold rowsR
  split
  · split
    · have := setL_len (rowsOfL v.atoms es); omega
    · simp
  · simp
/-- What Rows answers. -/
def RoPost (w : World) (code : Int) (R : List Tu) (e : Ending) (w' : World) : Prop := ∃ y : LV, e = .returned (.tuple #[.slice y.A y.ts.length y.c, .int .i64 code]) ∧ OwnL w' w.heap.size y.val y.ts ∧ y.Ok w' ∧ tus y.ts = R ∧ Below w.heap.size w w'
theorem ownL_nil (w : World) (lo : Nat) : OwnL w lo (LV.val ⟨none, [], 0⟩) [] := ⟨World.ownsRow_nil _ _ _ _, fun _ h => (nomatch h), fun _ h => (nomatch h), .nil⟩
theorem okL_nil (w : World) : LV.Ok w ⟨none, [], 0⟩ := ⟨Rd.emp _ _ _, fun _ h => (nomatch h), Nat.le_refl _, by simp⟩
set_option maxRecDepth 100000 in
set_option maxHeartbeats 8000000 in
theorem rows_any (x : VW) (A : Option Addr) (c : Nat) (es : List Ed) (w : World) (hx : x.Ok w) (he : Eds w A c es) :
    Calls Try.prog 14 #[.agg (vwA x), .slice A es.length c] w (RoPost w (rowsC x.v es) (rowsR x.v es)) := by
  have hb0 : Below w.heap.size w (w.alloc (.cells (vwA x) 25)) := (Below.refl _ _).alloc (Nat.le_refl _) _
  have hk := isPat_any x _ (hx.below hb0)
  have hgg := heap_alloc_new w (.cells (vwA x) 25)
  obtain ⟨C, hC⟩ : ∃ C, C = rowsC x.v es := ⟨_, rfl⟩
  obtain ⟨R, hR⟩ : ∃ R, R = rowsR x.v es := ⟨_, rfl⟩
  rw [← hC, ← hR]
  unfold rowsC at hC
  unfold rowsR at hR
  cases hg : goodP x.v with
  | false =>
    rw [hg] at hk
    rw [if_neg (by rw [hg]; simp)] at hC hR
    unfold vwA at hb0 hk hgg ⊢
    rw [hC, hR]
    have HB := Lib.hid hb0
    have HK := Lib.hid hk
    clear hx he hb0 hk hgg hg hC hR
    go_enter Try.func14, Try.ntmps14
    go_wp2_with (go_at_call 31; (with_reducible refine HK.out.mono ?_); rintro e w1 ⟨rfl, b1⟩)
    go_ret2
    exact ⟨⟨none, [], 0⟩, rfl, ownL_nil _ _, okL_nil _, rfl, HB.out.trans (lower' b1 HB.out.size)⟩
  | true =>
    rw [hg] at hk
    rw [if_pos hg] at hC hR
    have hro := fun W (hW : Below w.heap.size w W) => rowsOf_any x A c es W (hx.below hW) hg (he.below hW)
    unfold vwA at hb0 hk hgg hro ⊢
    have HB := Lib.hid hb0
    have HG := Lib.hid hgg
    have HK := Lib.hid hk
    have HRO := Lib.hid hro
    have HCR := Lib.hid (And.intro hC hR)
    clear hx he hb0 hk hgg hg hC hR hro
    go_enter Try.func14, Try.ntmps14
    go_upto_region 4 with (first
      | (go_at_call 31; (with_reducible refine HK.out.mono ?_); rintro e w1 ⟨rfl, b1⟩; have B1 := Lib.hid (HB.out.trans (lower' b1 HB.out.size)); have g8 := (b1.block w.heap.size (by simp)).trans HG.out; have q0 := cell_of_row _ _ 0 _ _ _ g8; have q1 := cell_of_row _ _ 1 _ _ _ g8; have q2 := cell_of_row _ _ 2 _ _ _ g8; have q3 := cell_of_row _ _ 3 _ _ _ g8; have q4 := cell_of_row _ _ 4 _ _ _ g8; clear g8 b1)
      | (go_at_call 32; (with_reducible refine (HRO.out _ B1.out).mono ?_); rintro e w2 ⟨z, rfl, k2, e2, b2⟩; have B2 := Lib.hid (B1.out.trans (lower' b2 B1.out.size)); clear b2))
    have hzs := k2.sm
    by_cases hbig : 3000 < z.ts.length
    · have hbI : (3000 : Int) < (z.ts.length : Int) := by omega
      have hl : (rowsOfL x.v.atoms es).length = z.ts.length := by rw [← e2, tus_len]
      have hC := HCR.out.1
      have hR := HCR.out.2
      rw [if_neg (by omega)] at hC hR
      have HC5 := Lib.hid hC
      have HR5 := Lib.hid hR
      clear hbig k2 e2 hl hC hR
      go_wp2_with (fail)
      go_ret2
      exact ⟨⟨none, [], 0⟩, by rw [HC5.out]; rfl, ownL_nil _ _, okL_nil _, by rw [HR5.out]; rfl, B2.out⟩
    · have hbI : ¬ (3000 : Int) < (z.ts.length : Int) := by omega
      have hl : (rowsOfL x.v.atoms es).length = z.ts.length := by rw [← e2, tus_len]
      have hC := HCR.out.1
      have hR := HCR.out.2
      rw [if_pos (by omega)] at hC hR
      have HC0 := Lib.hid hC
      have HS := Lib.hid (set_l z w2 k2)
      have HR := Lib.hid (And.intro hR e2)
      clear hbig k2 e2 hl hC hR
      go_wp2_with (go_at_call 33; (with_reducible refine HS.out.mono ?_); rintro e w3 ⟨y, rfl, o3, k3, e3, b3⟩)
      go_ret2
      exact ⟨y, by rw [HC0.out]; rfl, o3.mono B2.out.size, k3, by rw [e3, HR.out.1, HR.out.2], B2.out.trans (lower' b3 B2.out.size)⟩
end Go.Proofs.Ytgldcahhliokeaa
