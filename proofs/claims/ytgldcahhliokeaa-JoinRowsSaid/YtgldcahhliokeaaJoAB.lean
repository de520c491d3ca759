/- The law's awake. -/
import Derived.Test.YtgldcahhliokeaaJoZ
import Derived.Test.YtgldcahhliokeaaJoAA
import Derived.Test.YtgldcahhliokeaaJnC
namespace Go.Proofs.Ytgldcahhliokeaa
open Go.RowKit Go.Maps

/-- A list whose first tuple is of one number. -/
theorem first_num {W : World} {x : LV} {n : Int} {r : List Tu} (h : x.Ok W) (e : tus x.ts = [n] :: r) : ∃ b o b' o' c', x.A = some ⟨b, o, none⟩ ∧ x.ts.length = r.length + 1 ∧ b < W.heap.size ∧ b' < W.heap.size ∧ W.cell? ⟨b, o, none⟩ = some (.slice (some ⟨b', o', none⟩) 1 c') ∧ W.cell? ⟨b', o', none⟩ = some (.int .i64 n) := by
  obtain ⟨A, ts, c⟩ := x
  rcases ts with _ | ⟨t, q⟩
  · cases e
  · injection e with e1 e2
    obtain ⟨b, o, hA, hb, hc⟩ := Lst.cell h (k := 0) (by simp)
    obtain ⟨b', o', hA', hb', hc'⟩ := (Lst.at h (k := 0) (by simp)).cell (k := 0) (by simp [e1])
    simp only [List.getElem_cons_zero] at hc hA' hc'
    refine ⟨b, o, b', o', t.c, hA, by rw [← e2]; simp, hb, hb', ?_, ?_⟩
    · rw [hA', e1] at hc
      exact hc
    · simp only [e1, List.getElem_cons_zero] at hc'
      exact hc'
theorem at4 (w : World) (o0 o1 o2 o3 : Obj) : let W := (((w.alloc o0).alloc o1).alloc o2).alloc o3
    W.heap[w.heap.size]? = some o0 ∧ W.heap[w.heap.size + 1]? = some o1 ∧ W.heap[w.heap.size + 1 + 1]? = some o2 ∧ W.heap[w.heap.size + 1 + 1 + 1]? = some o3 ∧ Below w.heap.size w W := by
  have s1 := alloc1_size w o0
  have s2 := (alloc1_size (w.alloc o0) o1).trans (congrArg (· + 1) s1)
  have s3 := (alloc1_size ((w.alloc o0).alloc o1) o2).trans (congrArg (· + 1) s2)
  refine ⟨keepA (keepA (keepA (newA rfl))), keepA (keepA (newA s1)), keepA (newA s2), newA s3, ?_⟩
  exact (((((Below.refl w.heap.size w).alloc (Nat.le_refl _) _).alloc (by simp) _).alloc (by simp; omega) _).alloc (by simp; omega) _)
/-- The law's example. -/
def gV : Vw := ⟨[103], 1, [[120]], [⟨[120], [97], [121]⟩], []⟩
def gE : List Ed := [⟨1, [97], 2⟩, ⟨2, [97], 3⟩, ⟨1, [97], 3⟩]
theorem gC : rowsC gV gE = 0 := by decide +kernel
theorem gR : resR gV gE = [[1], [2]] := by decide +kernel
theorem gN : resN gV gE = [2, 1] := by decide +kernel
theorem eds_lit {W : World} {b : Nat} {l : List Ed} (h : W.heap[b]? = some (.cells (edsC l).toArray 61 (0, 0))) (hk : ∀ e ∈ l, e.Ok) (hs : l.length ≤ 200) : Eds W (some ⟨b, 0, none⟩) l.length l := ⟨rd_lit h, Nat.le_refl _, hk, hs⟩
theorem sts_lit {W : World} {b : Nat} {l : List Nm} (h : W.heap[b]? = some (.cells (strs l).toArray 9 (0, 0))) (hs : l.length ≤ 100) : Sts W (some ⟨b, 0, none⟩) l.length l := ⟨rd_lit h, Nat.le_refl _, hs⟩
theorem ats_lit {W : World} {b : Nat} {l : List Atm} (h : W.heap[b]? = some (.cells (atsC l).toArray 69 (0, 0))) (hs : l.length ≤ 100) : Ats W (some ⟨b, 0, none⟩) l.length l := ⟨rd_lit h, Nat.le_refl _, hs⟩
theorem gEok : ∀ e ∈ gE, e.Ok := by
  intro e he
  unfold gE at he
  simp only [List.mem_cons, List.not_mem_nil, or_false] at he
  rcases he with rfl | rfl | rfl <;> exact ⟨by unfold I64; dsimp only; omega, by unfold I64; dsimp only; omega, by simp [maxLen]⟩
set_option maxRecDepth 100000 in
set_option maxHeartbeats 4000000 in
theorem jawake_any (w : World) : Calls Try.prog 11 #[] w fun e w' => e = .returned (.bool true) ∧ Below w.heap.size w w' := by
  have HD : Hid (Calls Try.prog 15 #[.agg #[.string ⟨#[103]⟩, .int .i64 1, .slice (some ⟨w.heap.size + 1, 0, none⟩) 1 1, .slice (some ⟨w.heap.size + 1 + 1, 0, none⟩) 1 1, .string ⟨#[]⟩], .slice (some ⟨w.heap.size, 0, none⟩) 3 3]
    ((((w.alloc (.cells #[.int .i64 1, .string ⟨#[97]⟩, .int .i64 2, .int .i64 2, .string ⟨#[97]⟩, .int .i64 3, .int .i64 1, .string ⟨#[97]⟩, .int .i64 3] 61)).alloc (.cells #[.string ⟨#[120]⟩] 9)).alloc (.cells #[.string ⟨#[120]⟩, .string ⟨#[97]⟩, .string ⟨#[121]⟩] 69)).alloc (.cells #[.string ⟨#[103]⟩, .int .i64 1, .slice (some ⟨w.heap.size + 1, 0, none⟩) 1 1, .slice (some ⟨w.heap.size + 1 + 1, 0, none⟩) 1 1, .string ⟨#[]⟩] 25))
    fun e w' => ∃ (y : LV) (n : TV), e = .returned (.tuple #[.slice y.A y.ts.length y.c, .slice n.A n.l.length n.c, .int .i64 0]) ∧ y.Ok w' ∧ tus y.ts = [[1], [2]] ∧ n.Ok w' ∧ n.l = [2, 1] ∧ Below w.heap.size w w') := by
    obtain ⟨h0, h1, h2, h3, hb⟩ := at4 w (.cells #[.int .i64 1, .string ⟨#[97]⟩, .int .i64 2, .int .i64 2, .string ⟨#[97]⟩, .int .i64 3, .int .i64 1, .string ⟨#[97]⟩, .int .i64 3] 61) (.cells #[.string ⟨#[120]⟩] 9) (.cells #[.string ⟨#[120]⟩, .string ⟨#[97]⟩, .string ⟨#[121]⟩] 69) (.cells #[.string ⟨#[103]⟩, .int .i64 1, .slice (some ⟨w.heap.size + 1, 0, none⟩) 1 1, .slice (some ⟨w.heap.size + 1 + 1, 0, none⟩) 1 1, .string ⟨#[]⟩] 25)
    have he := eds_lit (l := gE) h0 gEok (by simp [gE])
    have ho := sts_lit (l := [[120]]) h1 (by simp)
    have ha := ats_lit (l := [⟨[120], [97], [121]⟩]) h2 (by simp)
    refine Lib.hid (Calls.mono (result_any ⟨some ⟨w.heap.size + 1, 0, none⟩, 1, some ⟨w.heap.size + 1 + 1, 0, none⟩, 1, gV⟩ _ _ gE _ ⟨ho, ha⟩ he) ?_)
    rintro e w' ⟨y, n, rfl, _, p2, p3, _, p5, p6, p7⟩
    dsimp only at p3 p6 ⊢
    rw [gC]
    rw [gR] at p3
    rw [gN] at p6
    exact ⟨y, n, rfl, p2, p3, p5, p6, hb.trans (lower' p7 hb.size)⟩
  go_enter Try.func11, Try.ntmps11
  go_upto_region 4 with (go_at_call 15; (with_reducible refine HD.out.mono ?_); rintro e w7 ⟨y, n, rfl, p1, p2, p3, p4, p5⟩; have E7 := Lib.hid (And.intro p1 (And.intro p2 (And.intro p3 (And.intro p4 p5)))); clear p1 p2 p3 p4 p5 HD)
  obtain ⟨bx, ox, bx', ox', cx', eA, eL, hbx, hbx', k1, k2⟩ := first_num E7.out.1 E7.out.2.1
  have hnl : n.l.length = 2 := by rw [E7.out.2.2.2.1]; rfl
  have eL' : y.ts.length = 2 := eL
  rw [eA, eL']
  have HI : Hid (Calls Try.prog 19 #[.slice n.A n.l.length n.c, .slice (some ⟨w7.heap.size, 0, none⟩) 2 2] (w7.alloc (.cells #[.int .i64 2, .int .i64 1] 3)) fun e w' => e = .returned (.bool true) ∧ Below w7.heap.size w7 w' ∧ w'.cell? ⟨bx, ox, none⟩ = some (.slice (some ⟨bx', ox', none⟩) 1 cx') ∧ w'.cell? ⟨bx', ox', none⟩ = some (.int .i64 1)) := by
    have hb : Below w7.heap.size w7 (w7.alloc (.cells #[.int .i64 2, .int .i64 1] 3)) := (Below.refl _ _).alloc (Nat.le_refl _) _
    refine Lib.hid ((ints_any n ⟨some ⟨w7.heap.size, 0, none⟩, [2, 1], 2⟩ _ (E7.out.2.2.1.below hb) (tv_lit (l := [2, 1]) (newA rfl) (by simp))).mono ?_)
    rintro e w' ⟨rfl, h⟩
    have hbb := hb.trans (lower' h hb.size)
    exact ⟨by dsimp only; rw [E7.out.2.2.2.1]; rfl, hbb, (hbb.cell (p := ⟨bx, ox, none⟩) hbx).trans k1, (hbb.cell (p := ⟨bx', ox', none⟩) hbx').trans k2⟩
  have B7 := Lib.hid E7.out.2.2.2.2
  clear eA eL eL' hbx hbx' k1 k2 E7 hnl
  go_wp2_with (go_at_call 19; (with_reducible refine HI.out.mono ?_); rintro e w8 ⟨rfl, b8, k1, k2⟩; have B8 := Lib.hid (B7.out.trans (lower' b8 B7.out.size)); clear b8 HI)
  go_ret
  exact ⟨rfl, B8.out⟩
end Go.Proofs.Ytgldcahhliokeaa
