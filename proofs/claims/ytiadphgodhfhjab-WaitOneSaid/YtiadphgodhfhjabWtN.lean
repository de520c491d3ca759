/- Layer 17: the document's Look, leads, Caught. -/
import Derived.Test.YtiadphgodhfhjabWtM
import Derived.Deep.QuietTactic
import Derived.BigQuiet
namespace Go.Proofs.Ytiadphgodhfhjab
open Go.RowKit

set_option maxRecDepth 100000 in
set_option maxHeartbeats 4000000 in
theorem look_any (w : World) {A : Option Addr} {c : Nat} {L : List (Int × Int)} (h : PrL w A c L) (R : Int) (hR : (goodE L → R = 0) ∧ (¬ goodE L → R = 1)) :
    Calls Try.prog 12 #[.slice A L.length c] w fun e w' => e = .returned (.int .i64 R) ∧ w' = w := by
  have HR := Lib.hid hR
  clear hR
  by_cases hl : L.length ≤ 256
  · have hlI : (L.length : Int) ≤ 256 := by omega
    have HL := Lib.hid (And.intro h hl)
    clear h hl
    go_enter Try.func12, Try.ntmps12
    go_wp2_with (fail)
    go_loop [9] (fun i => ∃ k : Nat, k ≤ L.length ∧ i = .int .i64 (k : Int) ∧ Hid (goodE (L.take k))) (fun i => L.length - (intOf i).toNat)
    case atStart => exact ⟨0, by omega, rfl, Lib.hid ⟨by simp, fun _ h => nomatch h⟩⟩
    case round =>
      obtain ⟨k, hk, rfl, hrel⟩ := hrel
      by_cases hlt : k < L.length
      · have hlI2 : (k : Int) < (L.length : Int) := by omega
        obtain ⟨ab, ao, rfl, hab, q0, q1⟩ := HL.out.1.cell hlt
        obtain ⟨⟨e0, e1⟩, he⟩ : ∃ e, e = L[k] := ⟨_, rfl⟩
        rw [← he] at q0 q1
        dsimp only at q0 q1
        have hm : (e0, e1) ∈ L := by rw [he]; exact List.getElem_mem hlt
        have htk : L.take (k + 1) = L.take k ++ [(e0, e1)] := by rw [List.take_succ_eq_append_getElem hlt, he]
        have HM := Lib.hid (And.intro hm htk)
        clear hm htk he hab
        by_cases hg : (1 ≤ e0 ∧ e0 ≤ 16) ∧ (1 ≤ e1 ∧ e1 ≤ 16)
        · have g0 := hg.1.1
          have g1 := hg.1.2
          have g2 := hg.2.1
          have g3 := hg.2.2
          have HG := Lib.hid hg
          clear hg
          go_wp2_with (fail)
          go_round
          case rel => exact ⟨k + 1, by omega, by go_num, Lib.hid ⟨by have := List.length_take_le (k + 1) L; have := HL.out.2; omega, fun e he => by
            rw [HM.out.2] at he
            rcases List.mem_append.1 he with he | he
            · exact hrel.out.2 e he
            · rw [List.mem_singleton.1 he]; exact HG.out⟩⟩
          case measure => simp [intOf]; omega
        · have hbad : ¬ goodE L := fun h => hg (h.2 _ HM.out.1)
          have HB := Lib.hid (HR.out.2 hbad)
          clear hbad
          have hcase : e0 < 1 ∨ (1 ≤ e0 ∧ 16 < e0) ∨ (1 ≤ e0 ∧ e0 ≤ 16 ∧ e1 < 1) ∨ (1 ≤ e0 ∧ e0 ≤ 16 ∧ 1 ≤ e1 ∧ 16 < e1) := by omega
          clear hg
          rcases hcase with g0 | ⟨g0, g1⟩ | ⟨g0, g1, g2⟩ | ⟨g0, g1, g2, g3⟩
          all_goals
            go_wp2_with (fail)
            go_ret
            exact ⟨by rw [HB.out]; rfl, rfl⟩
      · obtain rfl : k = L.length := by omega
        have hlI2 : ¬ (L.length : Int) < (L.length : Int) := by omega
        have hg := hrel.out
        rw [List.take_length] at hg
        have HB := Lib.hid (HR.out.1 hg)
        clear hg
        go_wp2_with (fail)
        go_ret
        exact ⟨by rw [HB.out]; rfl, rfl⟩
  · have hlI : (256 : Int) < (L.length : Int) := by omega
    have HB := Lib.hid (HR.out.2 fun h => hl h.1)
    clear h hl
    go_enter Try.func12, Try.ntmps12
    go_wp2_with (fail)
    go_ret
    exact ⟨by rw [HB.out]; rfl, rfl⟩
/-- A row of truth values. -/
def boolV (F : List Bool) : Array Value := (F.map Value.bool).toArray
theorem boolV_set (F : List Bool) (b : Nat) (v : Bool) : (boolV F).setIfInBounds b (.bool v) = boolV (F.set b v) := by
  unfold boolV
  simp [List.map_set]
theorem bool_cell {w : World} {b : Nat} {F : List Bool} {T : TypeId} (h : w.heap[b]? = some (.cells (boolV F) T (0, 0))) {k : Nat} (hk : k < F.length) : w.cell? ⟨b, k, none⟩ = some (.bool (F.getD k false)) := by
  rw [cell_of_row w b k _ _ _ h]
  simp [boolV, List.getD_eq_getElem?_getD, hk]
def noB : List Bool := List.replicate 17 false
theorem noB_cells : boolV noB = #[.bool false, .bool false, .bool false, .bool false, .bool false, .bool false, .bool false, .bool false, .bool false, .bool false, .bool false, .bool false, .bool false, .bool false, .bool false, .bool false, .bool false] := rfl
theorem size_b17 : (Try.prog.info? 52).map (·.size) = some 17 := by kernel_rfl
theorem bool_size {F : List Bool} (h : F.length = 17) : (Try.prog.info? 52).map (·.size) = some (boolV F).size := by
  have e : (boolV F).size = 17 := by simp [boolV, h]
  rw [e]
  exact size_b17
theorem bool_one (F : List Bool) : (boolV F).all (·.oneCell') = true := Array.all_eq_true_iff_forall_mem.2 fun v hv => by
  unfold boolV at hv
  simp at hv
  rcases hv with ⟨_, rfl⟩ | ⟨_, rfl⟩ <;> rfl
/-- To whom one has come so far. -/
structure LdS (R : Nat → Nat → Prop) (s : Nat) (F : List Bool) : Prop where
  len : F.length = 17
  sound : ∀ b, F.getD b false = true → Ld R s b
theorem getD_setB {F : List Bool} {b : Nat} (hb : b < F.length) (v : Bool) (x : Nat) : (F.set b v).getD x false = if x = b then v else F.getD x false := by
  rw [List.getD_eq_getElem?_getD, List.getElem?_set, List.getD_eq_getElem?_getD]
  by_cases h : b = x
  · subst h
    rw [if_pos rfl, if_pos hb, if_pos rfl]
    rfl
  · rw [if_neg h, if_neg (fun e => h e.symm)]
theorem LdS.start (R : Nat → Nat → Prop) (s : Nat) : LdS R s noB := ⟨rfl, fun b h => by
  unfold noB at h
  rw [List.getD_eq_getElem?_getD, List.getElem?_replicate] at h
  split at h <;> simp at h⟩
theorem LdS.go {R : Nat → Nat → Prop} {s a b : Nat} {F : List Bool} (h : LdS R s F) (hb : b < 17) (hr : R a b) (ha : a = s ∨ F.getD a false = true) : LdS R s (F.set b true) := by
  refine ⟨by rw [List.length_set]; exact h.len, fun x hx => ?_⟩
  rw [getD_setB (by rw [h.len]; exact hb)] at hx
  by_cases e : x = b
  · subst e
    rcases ha with rfl | ha
    · exact .one hr
    · exact (h.sound a ha).snoc hr
  · rw [if_neg e] at hx
    exact h.sound x hx
theorem LdS.fin {R : Nat → Nat → Prop} {s : Nat} {F : List Bool} (h : LdS R s F) (hc : ∀ a b, R a b → (a = s ∨ F.getD a false = true) → F.getD b false = true) (b : Nat) : F.getD b false = true ↔ Ld R s b := by
  refine ⟨h.sound b, fun k => ?_⟩
  induction k with
  | one k => exact hc _ _ k (.inl rfl)
  | snoc _ k ih => exact hc _ _ k (.inr ih)
theorem count_set : ∀ {F : List Bool} {b : Nat}, b < F.length → F.getD b false = false → (F.set b true).count true = F.count true + 1
  | [], _, h, _ => absurd h (by simp)
  | x :: F, 0, _, h => by
    simp only [List.getD_cons_zero] at h
    subst h
    simp
  | x :: F, b + 1, hb, h => by
    have ih := count_set (F := F) (b := b) (by simpa using hb) (by simpa using h)
    rw [List.set_cons_succ, List.count_cons, List.count_cons, ih]
    omega
end Go.Proofs.Ytiadphgodhfhjab
