/- Layer 17: the victim's closure, slices.MaxFunc. -/
import Derived.Test.YtiadphgodhfhjabWtH
import Derived.StillTailTactics
namespace Go.Proofs.Ytiadphgodhfhjab
open Go.RowKit

def cmpY (B : List Int) (a b : Nat) : Int := orZ (cmpZ (birthF B a) (birthF B b)) (cmpZ a b)
theorem cmpY_pos {B : List Int} {a b : Nat} : 0 < cmpY B a b ↔ birthF B b < birthF B a ∨ (birthF B b = birthF B a ∧ b < a) := by
  unfold cmpY orZ cmpZ
  split <;> split at * <;> (try split at *) <;> omega
set_option maxRecDepth 100000 in
set_option maxHeartbeats 4000000 in
theorem clos_any (w : World) {A : Option Addr} {c : Nat} {B : List Int} (h : IntL w A c B) (bb : Nat) (hb : w.heap[bb]? = some (.cells #[.slice A B.length c] 25 (0, 0))) (a b : Nat) (ha : a ≤ 16) (hb16 : b ≤ 16) :
    Calls Try.prog 33 #[.int .i64 (a : Int), .int .i64 (b : Int), .pointer (some ⟨bb, 0, none⟩)] w fun e w' => e = .returned (.int .i64 (cmpY B a b)) ∧ Below w.heap.size w w' := by
  have z0 := cell_of_row w bb 0 _ _ _ hb
  have h0 := h.below (Below.refl w.heap.size w).drew
  have HA := Lib.hid (And.intro (birth_any w.drew h0 a ha) (birth_any w.drew h0 b hb16))
  have HC := Lib.hid (fun x y W => compare_any x y W)
  have hn : (w.alloc (.cells #[.int .i64 (cmpZ (birthF B a) (birthF B b)), .int .i64 (cmpZ a b)] 3)).drew.heap[w.heap.size]? = some (.cells #[.int .i64 (cmpZ (birthF B a) (birthF B b)), .int .i64 (cmpZ a b)] 3 (0, 0)) := heap_alloc_new w (.cells #[.int .i64 (cmpZ (birthF B a) (birthF B b)), .int .i64 (cmpZ a b)] 3)
  have HO := Lib.hid (or_any (cmpZ (birthF B a) (birthF B b)) (cmpZ a b) _ _ hn)
  have HB := Lib.hid ((Below.refl w.heap.size w).alloc (Nat.le_refl _) (.cells #[.int .i64 (cmpZ (birthF B a) (birthF B b)), .int .i64 (cmpZ a b)] 3)).drew
  clear h h0 hb ha hb16 hn
  go_enter Try.func33, Try.ntmps33
  go_upto_region 1 with (fail)
  refine wp_region_still_tail 10 (by kernel_rfl) (by kernel_rfl) ?_
  simp only [List.take_succ_cons, List.take_zero, List.drop_succ_cons, List.drop_zero]
  repeat still_step
  still_call HA.out.1
  repeat still_step
  still_call HA.out.2
  repeat still_step
  still_call (HC.out _ _ _)
  repeat still_step
  still_call (HC.out _ _ _)
  repeat still_step
  refine wpStill_nil ?_
  change wpList _ _ _ _ _ w.drew
  go_wp2_with (go_at_call 34; (with_reducible refine HO.out.mono ?_); rintro e w2 ⟨rfl, h2⟩; subst h2)
  go_ret
  exact ⟨rfl, HB.out⟩
/-- The youngest of the first k. -/
theorem yst_step {B : List Int} {l : List Nat} {m x : Nat} (h : Yst (birthF B) l m) : Yst (birthF B) (l ++ [x]) (if 0 < cmpY B x m then x else m) := by
  by_cases e : 0 < cmpY B x m
  · rw [if_pos e]
    have e2 := cmpY_pos.1 e
    refine ⟨List.mem_append.2 (.inr (List.mem_singleton.2 rfl)), fun s hs => ?_⟩
    rcases List.mem_append.1 hs with hs | hs
    · have := h.top s hs
      omega
    · rw [List.mem_singleton.1 hs]; exact .inr ⟨rfl, Nat.le_refl _⟩
  · rw [if_neg e]
    have e2 := mt cmpY_pos.2 e
    refine ⟨List.mem_append.2 (.inl h.mem), fun s hs => ?_⟩
    rcases List.mem_append.1 hs with hs | hs
    · exact h.top s hs
    · rw [List.mem_singleton.1 hs]; omega
def MxPost (B : List Int) (l : List Nat) (w : World) (e : Ending) (w' : World) : Prop := ∃ v : Nat, e = .returned (.int .i64 (v : Int)) ∧ Yst (birthF B) l v ∧ Below w.heap.size w w'
set_option maxRecDepth 100000 in
set_option maxHeartbeats 4000000 in
theorem maxFunc_any (w : World) {A : Option Addr} {c : Nat} {B : List Int} (h : IntL w A c B) (bb : Nat) (hb : w.heap[bb]? = some (.cells #[.slice A B.length c] 25 (0, 0))) (l : List Nat) (Al : Option Addr) (cl : Nat) (hl : IntL w Al cl (natZ l)) (hp : 0 < l.length) (hs : ∀ x ∈ l, x ≤ 16) (hn : l.length ≤ 16) :
    Calls Try.prog 32 #[.slice Al l.length cl, .func (.func 33) #[] #[.pointer (some ⟨bb, 0, none⟩)]] w (MxPost B l w) := by
  obtain ⟨ab, ao, rfl, hab, hc0⟩ := hl.cell (k := 0) (by rw [natZ_len]; exact hp)
  rw [natZ_at, Nat.add_zero] at hc0
  have hnI : (l.length : Int) ≤ 16 := by omega
  have hpI : (1 : Int) ≤ (l.length : Int) := by omega
  have hst : Yst (birthF B) (l.take 1) (l.getD 0 0) := by
    cases l with
    | nil => simp at hp
    | cons a l => exact Yst.one _ _
  obtain ⟨x0, hx0⟩ : ∃ x0, x0 = l.getD 0 0 := ⟨_, rfl⟩
  rw [← hx0] at hc0 hst
  have HH := Lib.hid (And.intro h (And.intro hb (And.intro hl (And.intro hp (And.intro hs hst)))))
  clear h hb hl hs hst hab hx0 hp hn
  go_enter Try.func32, Try.ntmps32
  go_wp2_with (fail)
  go_loopg [5, 6] 19 (fun gk v5 v6 wr => ∃ k m : Nat, 1 ≤ k ∧ k ≤ l.length ∧ k + gk = 20 ∧ v5 = .int .i64 (m : Int) ∧ v6 = .int .i64 (k : Int) ∧ Hid (Yst (birthF B) (l.take k) m ∧ Below w.heap.size w wr))
  case atStart => exact ⟨1, x0, Nat.le_refl _, by have := HH.out.2.2.2.1; omega, rfl, rfl, rfl, Lib.hid ⟨HH.out.2.2.2.2.2, Below.refl _ _⟩⟩
  case round =>
    obtain ⟨k, m, hk1, hk, hkg, rfl, rfl, hrel⟩ := hrel
    clear hc0
    by_cases hlt : k < l.length
    · have hkI : (k : Int) < (l.length : Int) := by omega
      obtain ⟨x, hx⟩ : ∃ x, x = l.getD k 0 := ⟨_, rfl⟩
      obtain ⟨ab', ao', e', -, hc1⟩ := (HH.out.2.2.1.below hrel.out.2).cell (k := k) (by rw [natZ_len]; exact hlt)
      injection e' with e'
      injection e' with e1 e2
      subst e1 e2
      rw [natZ_at, ← hx] at hc1
      have hxm : x ∈ l := by rw [hx]; exact getD_mem0 hlt
      have htk : l.take (k + 1) = l.take k ++ [x] := by rw [List.take_succ_eq_append_getElem hlt, hx, List.getD_eq_getElem?_getD, List.getElem?_eq_getElem hlt]; rfl
      have hmm : m ∈ l := List.mem_of_mem_take hrel.out.1.mem
      have hcl := clos_any wr (HH.out.1.below hrel.out.2) bb ((hrel.out.2.block _ (heap_lt HH.out.2.1)).trans HH.out.2.1) x m (HH.out.2.2.2.2.1 x hxm) (HH.out.2.2.2.2.1 m hmm)
      have hy := yst_step (x := x) hrel.out.1
      rw [← htk] at hy
      obtain ⟨cv, hcv⟩ : ∃ cv, cv = cmpY B x m := ⟨_, rfl⟩
      rw [← hcv] at hcl hy
      have HCL := Lib.hid hcl
      have HK := Lib.hid (And.intro hlt (And.intro hkg (And.intro hk1 hrel.out.2)))
      clear hx hxm htk hmm hcl hcv hlt hkg hk1 hk hrel
      by_cases e : 0 < cv
      · rw [if_pos e] at hy
        have HY := Lib.hid hy
        clear hy
        go_wp2_with (first
          | (go_at_call 33; (with_reducible refine HCL.out.mono ?_); rintro e w2 ⟨rfl, hb2⟩; have hc2 : w2.cell? ⟨ab, ao + k, none⟩ = some (.int .i64 (x : Int)) := (hb2.cell (p := ⟨ab, ao + k, none⟩) (block_lt_of_cell hc1)).trans hc1)
          | go_in)
        go_roundg (gk - 1)
        case rel => exact ⟨k + 1, x, by omega, HK.out.1, by have := HK.out.2.1; omega, rfl, by go_num, Lib.hid ⟨HY.out, HK.out.2.2.2.trans (lower' hb2 HK.out.2.2.2.size)⟩⟩
        case measure => have := HK.out.2.1; have := HK.out.1; have := hnI; omega
      · rw [if_neg e] at hy
        have HY := Lib.hid hy
        clear hy
        go_wp2_with (first
          | (go_at_call 33; (with_reducible refine HCL.out.mono ?_); rintro e w2 ⟨rfl, hb2⟩)
          | go_in)
        go_roundg (gk - 1)
        case rel => exact ⟨k + 1, m, by omega, HK.out.1, by have := HK.out.2.1; omega, rfl, by go_num, Lib.hid ⟨HY.out, HK.out.2.2.2.trans (lower' hb2 HK.out.2.2.2.size)⟩⟩
        case measure => have := HK.out.2.1; have := HK.out.1; have := hnI; omega
    · have hk2 : k = l.length := by omega
      subst hk2
      rw [List.take_length] at hrel
      have hz : ¬ (l.length : Int) < (l.length : Int) := by omega
      go_wp2_with (fail)
      go_ret
      exact ⟨m, rfl, hrel.out.1, hrel.out.2⟩
end Go.Proofs.Ytiadphgodhfhjab
