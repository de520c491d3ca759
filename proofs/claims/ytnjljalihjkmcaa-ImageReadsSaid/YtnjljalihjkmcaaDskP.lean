/- Words that several walks over disks share. -/
import Derived.Test.YtnjljalihjkmcaaDskO
import Derived.Test.YtnjljalihjkmcaaRefA
import Derived.Lib.SliceRun
import Derived.Deep.RegionHeld3
import Derived.Deep.RegionLaw
import Derived.Deep.RegionWith
import Derived.Deep.OwnRows
namespace Go.Proofs.Ytnjljalihjkmcaa
open Go.RowKit Go.Maps

theorem bytesC (A : Option Addr) (b : List UInt8) (c B : Nat) (w : World) (hr : Rd w B A (u8s b)) (hB : B ≤ w.heap.size) (hb : b.length ≤ 4611686018427387904) :
    Calls Try.prog 22 #[.slice A b.length c] w fun e w' => ∃ g, e = .returned (.slice (some ⟨g, 0, none⟩) 64 64) ∧ w.heap.size ≤ g ∧ g < w'.heap.size ∧ Rd w' w'.heap.size (some ⟨g, 0, none⟩) (u8s (bytesL b)) ∧ Below w.heap.size w w' := by
  refine (bytes_any A b c B w hr hB hb).mono ?_
  rintro e w' ⟨rfl, hg, hb⟩
  have hlt := (Array.getElem?_eq_some_iff.1 hg).1
  refine ⟨_, rfl, Nat.le_refl _, hlt, fun _ => ⟨_, 0, rfl, hlt, fun j u hu => ?_⟩, hb⟩
  rw [cell_of_row _ _ _ _ _ _ hg]
  simpa using hu

theorem make64 (w : World) : (Instr.makeSlice 45 (.int .i64 64) (.int .i64 64)).run Try.prog w = .ok (.slice (some ⟨w.heap.size, 0, none⟩) 64 64) (w.alloc (.cells (u8s zero64).toArray 5)) := by
  have h := run_make_row' (P := Try.prog) 45 5 (.int .u8 0) 1 Try.underlying45 infoU8 rfl .i64 .i64 64 (by omega) (by omega) w
  rw [made64] at h
  exact h
theorem filter_one (i : Nat) : ∀ n : Nat, ((List.range n).filter fun j => decide (j = i)).length = if i < n then 1 else 0
  | 0 => by simp
  | n + 1 => by
    rw [List.range_succ, List.filter_append, List.length_append, filter_one i n]
    by_cases h : i < n
    · rw [if_pos h, if_pos (by omega), List.filter_cons, if_neg (by simp; omega)]; rfl
    · by_cases e : n = i
      · rw [if_neg h, if_pos (by omega), List.filter_cons, if_pos (by simp [e])]; rfl
      · rw [if_neg h, if_neg (by omega), List.filter_cons, if_neg (by simpa using e)]; rfl
theorem crashed_get (M : DM) (i : Nat) : (M.crashed [] (-1) 0).get i = M.sure i := by
  show M.left1 [] (-1) 0 i = _
  unfold DM.left1
  cases M.wr i with
  | none => rfl
  | some l => simp
theorem sl_str {w : World} {X : List Nat} {A : Option Addr} {l : List UInt8} (h : Sl w X A (u8s l)) (hl : l.length = 64) :
    (convert 45 9 (.slice A 64 64)).run Try.prog w = .ok (.string ⟨l.toArray⟩) w := strAt h.1 hl.symm
theorem unarmed {M : DM} (h : M.armed = false) : M.dead = false := by unfold DM.dead; rw [h]; rfl
theorem write_plain {M : DM} {i : Nat} {l : List UInt8} (ha : M.armed = false) (hi : i < M.size) (hl : l.length = 64) : M.writeE (i : Int) l = 0 ∧ M.writeM (i : Int) l = M.written i l := by
  have hn : ¬ (¬ (0 ≤ (i : Int) ∧ (i : Int) < (M.size : Int)) ∨ l.length ≠ 64) := by rw [hl]; omega
  unfold DM.writeE DM.writeM
  rw [if_neg hn, if_neg hn, unarmed ha]
  exact ⟨rfl, rfl⟩
theorem flush_plain {M : DM} (ha : M.armed = false) : M.flushE = 0 ∧ M.flushM = M.flushed := by
  unfold DM.flushE DM.flushM
  rw [unarmed ha]
  exact ⟨rfl, rfl⟩
theorem crashed_facts (M : DM) (keep : List Bool) (torn cut : Int) : (M.crashed keep torn cut).size = M.size ∧ (M.crashed keep torn cut).steps = 0 ∧ (M.crashed keep torn cut).fresh.length = 0 := by
  refine ⟨rfl, rfl, ?_⟩
  have : (M.crashed keep torn cut).fresh = [] := by unfold DM.fresh; simp [DM.crashed]
  rw [this]; rfl
/-- Where the first difference stands nothing of the one is left. -/
theorem drop_same {b l s : List UInt8} {n k : Nat} (hb : b = l.take n ++ s.drop n) (hl : l.length = 64) (hs : s.length = 64) (hk : k ≤ 64) (hd : k = 64 ∨ b[k]? ≠ l[k]?) : b.drop k = s.drop k := by
  have hbl : b.length = 64 := by rw [hb]; simp [hl, hs]; omega
  rcases hd with rfl | hd
  · rw [List.drop_of_length_le (by omega), List.drop_of_length_le (by omega)]
  · by_cases hk64 : k = 64
    · rw [List.drop_of_length_le (by omega), List.drop_of_length_le (by omega)]
    · have hnk : n ≤ k := by
        rcases Nat.lt_or_ge k n with h | h
        · exfalso; apply hd
          rw [hb, List.getElem?_append_left (by simp; omega), List.getElem?_take, if_pos h]
        · exact h
      rw [hb, List.drop_append, List.length_take, hl]
      rw [List.drop_of_length_le (by simp; omega), List.nil_append, List.drop_drop]
      congr 1
      omega
/-- Bytes of two bytes that were just laid. -/
theorem bytes_two (x y : UInt8) (w : World) :
    Calls Try.prog 22 #[.slice (some ⟨w.heap.size, 0, none⟩) 2 2] (w.alloc (.cells #[.int .u8 (x.toNat : Int), .int .u8 (y.toNat : Int)] 5)) fun e w' => ∃ g, e = .returned (.slice (some ⟨g, 0, none⟩) 64 64) ∧ w.heap.size < g ∧ g < w'.heap.size ∧ Rd w' w'.heap.size (some ⟨g, 0, none⟩) (u8s (bytesL [x, y])) ∧ Below w.heap.size w w' := by
  have hs : (w.alloc (.cells #[.int .u8 (x.toNat : Int), .int .u8 (y.toNat : Int)] 5)).heap.size = w.heap.size + 1 := by simp
  have hr : Rd (w.alloc (.cells #[.int .u8 (x.toNat : Int), .int .u8 (y.toNat : Int)] 5)) (w.heap.size + 1) (some ⟨w.heap.size, 0, none⟩) (u8s [x, y]) := Rd.new w #[.int .u8 (x.toNat : Int), .int .u8 (y.toNat : Int)] 5 (0, 0)
  refine (bytesC (some ⟨w.heap.size, 0, none⟩) [x, y] 2 _ _ hr (by omega) (by simp)).mono ?_
  rintro e w' ⟨g, rfl, h1, h2, h3, h4⟩
  rw [hs] at h1 h4
  exact ⟨g, rfl, by omega, h2, h3, ((Below.refl _ w).alloc (Nat.le_refl _) _).trans (lower h4 (by omega))⟩
theorem wrap_byte (x : UInt8) : wrap64 (x.toNat : Int) = (x.toNat : Int) := by
  have := x.toNat_lt
  unfold wrap64
  omega
theorem bytes_two' (x y : UInt8) (w : World) {n : Nat} (hn : w.heap.size = n) :
    Calls Try.prog 22 #[.slice (some ⟨n, 0, none⟩) 2 2] (w.alloc (.cells #[.int .u8 (x.toNat : Int), .int .u8 (y.toNat : Int)] 5)) fun e w' => ∃ g, e = .returned (.slice (some ⟨g, 0, none⟩) 64 64) ∧ n < g ∧ g < w'.heap.size ∧ Rd w' w'.heap.size (some ⟨g, 0, none⟩) (u8s (bytesL [x, y])) ∧ Below n w w' := by
  subst hn
  exact bytes_two x y w
theorem rd_drop {w : World} {B g k : Nat} {l : List UInt8} (h : Rd w B (some ⟨g, 0, none⟩) (u8s l)) : Rd w B (some ⟨g, k, none⟩) (u8s (l.drop k)) := by
  intro hn
  have h0 : u8s l ≠ [] := by rintro e; apply hn; have := congrArg List.length e; rw [u8s_len] at this; have h2 : l = [] := List.eq_nil_of_length_eq_zero this; rw [h2]; simp [u8s]
  obtain ⟨b, o, e, hb, hc⟩ := h h0
  cases e
  refine ⟨g, k, rfl, hb, fun j u hu => ?_⟩
  have := hc (k + j) u (by rw [← hu]; simp [u8s, List.getElem?_drop])
  rw [Nat.zero_add] at this
  exact this
def ints (L : List Nat) : List Value := L.map fun (i : Nat) => Value.int .i64 (i : Int)
@[simp] theorem ints_len (L : List Nat) : (ints L).length = L.length := by simp [ints]
theorem ints_snoc (L : List Nat) (i : Nat) : ints L ++ [.int .i64 (i : Int)] = ints (L ++ [i]) := by simp [ints]
theorem ints_get (L : List Nat) (i : Nat) (h : i < L.length) : (ints L)[i]'(by simpa using h) = .int .i64 (L[i] : Int) := by simp [ints]
end Go.Proofs.Ytnjljalihjkmcaa
