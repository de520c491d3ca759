/- The document's log: Sectors, Head, End. -/
import Derived.Test.YtdjcpjfomgfjlaaLogH
namespace Go.Proofs.Ytdjcpjfomgfjlaa
open Go.RowKit Go.Maps

set_option maxRecDepth 100000 in
theorem rsecs_any (n : Nat) (w : World) (hn : n ≤ 1000000) :
    Calls Try.prog 47 #[.int .i64 (n : Int)] w fun e w' => e = .returned (.int .i64 (secs n : Int)) ∧ w = w' := by
  have hss : secs n ≤ 20000 := by unfold secs; omega
  have hnI : (n : Int) ≤ 1000000 := by omega
  have HN := Lib.hid hn
  clear hn
  go_enter Try.func47, Try.ntmps47
  go_wp2
  go_loop [3] (fun u => ∃ k : Nat, k ≤ secs n ∧ u = .int .i64 (k : Int)) (fun u => secs n - (intOf u).toNat)
  case atStart => exact ⟨0, by omega, rfl⟩
  case round =>
    obtain ⟨k, hk, rfl⟩ := hrel
    have hkI : (k : Int) ≤ 20000 := by omega
    by_cases hkl : k < secs n
    · have h1 : (k : Int) * 64 < (n : Int) := by unfold secs at hkl; omega
      go_wp2
      go_round
      case rel => exact ⟨k + 1, by omega, by simp⟩
      case measure => simp [intOf]; omega
    · obtain rfl : k = secs n := by omega
      have h1 : ¬ (secs n : Int) * 64 < (n : Int) := by unfold secs; omega
      go_wp2
      go_ret
      exact ⟨rfl, rfl⟩
/-- A head, of whose Seq the last k bytes are written. -/
def hdR (s : Nat) : Nat → List UInt8
  | 0 => (zero64.set 0 82).set 63 165
  | k + 1 => (hdR s k).set (8 - k) (UInt8.ofNat (s / 256 ^ k))
theorem hdR_len (s : Nat) : ∀ k, (hdR s k).length = 64
  | 0 => rfl
  | k + 1 => by rw [hdR, List.length_set, hdR_len s k]
theorem hdR_end (s n : Nat) : ((hdR s 8).set 9 (UInt8.ofNat (n / 256))).set 10 (UInt8.ofNat n) = headL s n := by
  simp [hdR, zero64, headL, be8, be2, List.replicate_succ]
set_option maxRecDepth 100000 in
set_option maxHeartbeats 1000000 in
theorem rHead_any (s n : Nat) (w : World) (hs : s ≤ 9223372036854775807) (hn : n ≤ 65535) :
    Calls Try.prog 27 #[.int .i64 (s : Int), .int .i64 (n : Int)] w fun e w' => e = .returned (.string ⟨(headL s n).toArray⟩) ∧ Below w.heap.size w w' := by
  have hmk := make64 w
  have h0 : ((u8s zero64).set 0 (.int .u8 82)).set 63 (.int .u8 165) = u8s (hdR s 0) := rfl
  have hg : (w.alloc (.cells (((u8s zero64).set 0 (.int .u8 82)).set 63 (.int .u8 165)).toArray 5)).heap[w.heap.size]? = some (.cells (u8s (hdR s 0)).toArray 5 (0, 0)) := by rw [h0]; exact heap_alloc_new w _
  have hB1 : Below w.heap.size w (w.alloc (.cells (((u8s zero64).set 0 (.int .u8 82)).set 63 (.int .u8 165)).toArray 5)) := (Below.refl _ w).alloc (Nat.le_refl _) _
  have HG := Lib.hid (And.intro hg (And.intro hB1 hs))
  have hn' : (n : Int) ≤ 65535 := by omega
  clear hB1 hg h0 hs hn
  go_enter Try.func27, Try.ntmps27
  go_wp2
  go_loopw [0, 6] (fun z i wr => ∃ k : Nat, k ≤ 8 ∧ i = .int .i64 (8 - (k : Int)) ∧ z = .int .i64 ((s / 256 ^ k : Nat) : Int) ∧ wr.heap[w.heap.size]? = some (.cells (u8s (hdR s k)).toArray 5 (0, 0)) ∧ Below w.heap.size w wr)
    (fun _ i _ => (intOf i).toNat)
  case atStart => exact ⟨0, by omega, rfl, by simp, HG.out.1, HG.out.2.1⟩
  case round =>
    obtain ⟨k, hk, rfl, rfl, hg, hb⟩ := hrel
    by_cases hk8 : k < 8
    · have hkI : (0 : Int) < 8 - (k : Int) := by omega
      have hkJ : (8 : Int) - (k : Int) < 64 := by omega
      have hkN : ((8 : Int) - (k : Int)).toNat = 8 - k := by omega
      have hk0 : (0 : Int) ≤ 8 - (k : Int) := by omega
      obtain ⟨S, hS⟩ : ∃ S, S = s / 256 ^ k := ⟨_, rfl⟩
      have hS1 : s / 256 ^ (k + 1) = S / 256 := by rw [hS, Nat.pow_succ, Nat.div_div_eq_div_mul]
      have hSl : S ≤ 9223372036854775807 := by rw [hS]; exact Nat.le_trans (Nat.div_le_self _ _) HG.out.2.2
      rw [← hS]
      have hm : (S : Int).tmod 256 = ((S % 256 : Nat) : Int) := by rw [Int.tmod_eq_emod_of_nonneg (by omega)]; omega
      have hd : (S : Int).tdiv 256 = ((S / 256 : Nat) : Int) := by rw [Int.tdiv_eq_ediv_of_nonneg (by omega)]; omega
      have hx : ((S % 256 : Nat) : Int) = ((UInt8.ofNat S).toNat : Int) := by rw [mod256]; omega
      obtain ⟨v1, hv1⟩ := row_cell (i := 8 - k) hg (by rw [hdR_len]; omega)
      have zf1 := frozen_of_row wr w.heap.size (8 - k) _ _ hg
      have hg2 := row_set (i := 8 - k) hg (UInt8.ofNat S)
      have hg3 : (wr.setCell ⟨w.heap.size, 8 - k, none⟩ (.int .u8 ((UInt8.ofNat S).toNat : Int))).heap[w.heap.size]? = some (.cells (u8s (hdR s (k + 1))).toArray 5 (0, 0)) := by rw [hdR, ← hS]; exact hg2
      have HX := Lib.hid (And.intro hg3 (And.intro (hb.setCell (p := ⟨w.heap.size, 8 - k, none⟩) (Nat.le_refl _) (.int .u8 ((UInt8.ofNat S).toNat : Int))) (And.intro hx hS1)))
      clear hg hb hg2 hg3 hx hS1 hS
      go_wp2_with go_in
      rw [show (S : Int) % 256 = ((UInt8.ofNat S).toNat : Int) from (mod256 S).symm]
      exact ⟨⟨k + 1, by omega, by simp; omega, by rw [HX.out.2.2.2]; simp, HX.out.1, HX.out.2.1⟩, by simp [intOf]; omega⟩
    · obtain rfl : k = 8 := by omega
      obtain ⟨v9, hv9⟩ := row_cell (i := 9) hg (by rw [hdR_len]; omega)
      have hg9 := row_set (i := 9) hg (UInt8.ofNat (n / 256))
      obtain ⟨v10, hv10⟩ := row_cell (i := 10) hg9 (by rw [List.length_set, hdR_len]; omega)
      have zf9 := frozen_of_row wr w.heap.size 9 _ _ hg
      have zf10 := frozen_of_row _ w.heap.size 10 _ _ hg9
      have hg10 := row_set (i := 10) hg9 (UInt8.ofNat n)
      rw [hdR_end] at hg10
      have hb10 := (hb.setCell (p := ⟨w.heap.size, 9, none⟩) (Nat.le_refl _) (.int .u8 ((UInt8.ofNat (n / 256)).toNat : Int))).setCell (p := ⟨w.heap.size, 10, none⟩) (Nat.le_refl _) (.int .u8 ((UInt8.ofNat n).toNat : Int))
      have m1 : ((UInt8.ofNat (n / 256)).toNat : Int) = (n : Int) / 256 := by rw [mod256]; simp; omega
      have m2 : (n : Int) / 256 % 256 = (n : Int) / 256 := by omega
      rw [mod256 n] at hg10 hb10
      rw [m1] at hg10 hb10 hv10 zf10
      have hst : (convert 45 9 (.slice (some ⟨w.heap.size, 0, none⟩) 64 64)).run Try.prog ((wr.setCell ⟨w.heap.size, 9, none⟩ (.int .u8 ((n : Int) / 256))).setCell ⟨w.heap.size, 10, none⟩ (.int .u8 ((n : Int) % 256))) = .ok (.string ⟨(headL s n).toArray⟩) _ :=
        strAt (B := (wr.setCell ⟨w.heap.size, 9, none⟩ (.int .u8 ((n : Int) / 256))).setCell ⟨w.heap.size, 10, none⟩ (.int .u8 ((n : Int) % 256)) |>.heap.size) (fun _ => ⟨w.heap.size, 0, rfl, (Array.getElem?_eq_some_iff.1 hg10).1, fun j u hu => by rw [cell_of_row _ _ _ _ _ _ hg10]; simpa using hu⟩) (by rw [headL_len])
      have HX := Lib.hid hb10
      clear hg hb hg9 hg10 hb10 m1
      go_wp2_with go_in
      go_ret
      exact ⟨rfl, HX.out⟩
/-- The cells of records of the document. -/
def recS (r : List Rec) : List Value := r.flatMap fun x => [.int .i64 (x.1 : Int), .string ⟨x.2.toArray⟩]
theorem recS_len (r : List Rec) : (recS r).length = r.length * 2 := by
  induction r with
  | nil => rfl
  | cons x r ih => simp only [recS, List.flatMap_cons, List.length_append] at ih ⊢; rw [ih]; simp; omega
theorem recS_two : ∀ (r : List Rec) (i : Nat) (h : i < r.length), (recS r)[i * 2]? = some (.int .i64 (r[i].1 : Int)) ∧ (recS r)[i * 2 + 1]? = some (.string ⟨r[i].2.toArray⟩)
  | [], _, h => by cases h
  | x :: r, 0, _ => ⟨rfl, rfl⟩
  | x :: r, i + 1, h => by
    have ih := recS_two r i (by simpa using h)
    simp only [recS, List.flatMap_cons] at ih ⊢
    rw [show (i + 1) * 2 = i * 2 + 1 + 1 by omega]
    simpa using ih
theorem recS_at {w : World} {B : Nat} {A : Option Addr} {r : List Rec} (h : Rd w B A (recS r)) {k : Nat} (hk : k < r.length) : ∃ ab ao, A = some ⟨ab, ao, none⟩ ∧ ab < B ∧ w.cell? ⟨ab, ao + k * 2, none⟩ = some (.int .i64 (r[k].1 : Int)) ∧ w.cell? ⟨ab, ao + k * 2 + 1, none⟩ = some (.string ⟨r[k].2.toArray⟩) := by
  obtain ⟨ab, ao, rfl, hab, hc⟩ := h (by intro e; have := congrArg List.length e; rw [recS_len] at this; have h9 : r.length * 2 = 0 := this; omega)
  obtain ⟨t1, t2⟩ := recS_two r k hk
  have := hc _ _ t2
  rw [← Nat.add_assoc] at this
  exact ⟨ab, ao, rfl, hab, hc _ _ t1, this⟩
theorem endR_take (a : Nat) (r : List Rec) (k : Nat) (h : k < r.length) : endR a (r.take (k + 1)) = endR a (r.take k) + 1 + secs r[k].2.length := by
  rw [List.take_succ_eq_append_getElem h, endR_append]
  rfl
theorem endR_mono (a : Nat) (r : List Rec) (k : Nat) : endR a (r.take k) ≤ endR a r := by
  have h : endR a r = endR (endR a (r.take k)) (r.drop k) := by rw [← endR_append, List.take_append_drop]
  rw [h]
  have := endR_le (endR a (r.take k)) (r.drop k)
  omega
set_option maxRecDepth 100000 in
set_option maxHeartbeats 1000000 in
theorem rEnd_any (first : Nat) (count next : Int) (r : List Rec) (A : Option Addr) (c B : Nat) (w : World) (hr : Rd w B A (recS r)) (hB : B ≤ w.heap.size) (hd : ∀ x ∈ r, x.2.length ≤ 4000) (he : endR first r ≤ 100000) :
    Calls Try.prog 43 #[.agg #[.int .i64 (first : Int), .int .i64 count, .slice A r.length c, .int .i64 next]] w fun e w' => e = .returned (.int .i64 (endR first r : Int)) ∧ Below w.heap.size w w' := by
  have hb0 : Below w.heap.size w (w.alloc (.cells #[.int .i64 (first : Int), .int .i64 count, .slice A r.length c, .int .i64 next] 42)) := (Below.refl _ _).alloc (Nat.le_refl _) _
  have hg0 := heap_alloc_new w (.cells #[.int .i64 (first : Int), .int .i64 count, .slice A r.length c, .int .i64 next] 42)
  have hr0 := hr.below hb0 hB
  have hl : r.length ≤ 100000 := by have := endR_le first r; omega
  have hlI : (r.length : Int) ≤ 100000 := by omega
  have HH := Lib.hid (And.intro hb0 (And.intro hd he))
  go_enter Try.func43, Try.ntmps43
  go_upto_region 1 with (fail)
  generalize w.alloc (.cells #[.int .i64 (first : Int), .int .i64 count, .slice A r.length c, .int .i64 next] 42) = W0 at hb0 hg0 hr0 HH ⊢
  have c0 := cell_of_row W0 w.heap.size 0 _ _ _ hg0
  have c2 := cell_of_row W0 w.heap.size 2 _ _ _ hg0
  have HR := Lib.hid hr0
  clear hb0 hg0 hr0 hr hd he hl
  go_wp2
  go_loop [3, 4, 10] (fun u _ i => ∃ k : Nat, k ≤ r.length ∧ i = .int .i64 (k : Int) ∧ u = .int .i64 (endR first (r.take k) : Int)) (fun _ _ i => r.length - (intOf i).toNat)
  case atStart => exact ⟨0, by omega, rfl, rfl⟩
  case round =>
    obtain ⟨k, hk, rfl, rfl⟩ := hrel
    by_cases hkl : k < r.length
    · have hkI : (k : Int) < (r.length : Int) := by omega
      obtain ⟨ab, ao, rfl, hab, hc1, hc2⟩ := recS_at HR.out hkl
      have hen := endR_take first r k hkl
      have hem : endR first (r.take (k + 1)) ≤ 100000 := Nat.le_trans (endR_mono first r (k + 1)) HH.out.2.2
      have hdl := HH.out.2.1 r[k] (List.getElem_mem hkl)
      obtain ⟨d, hd⟩ : ∃ d, d = r[k].2 := ⟨_, rfl⟩
      rw [← hd] at hc2 hen hdl
      have hsz : (⟨d.toArray⟩ : ByteArray).size = d.length := by simp [ByteArray.size]
      have hsc := rsecs_any d.length W0 (by omega)
      have hdI : (d.length : Int) ≤ 4000 := by omega
      obtain ⟨E, hE⟩ : ∃ E, E = endR first (r.take k) := ⟨_, rfl⟩
      obtain ⟨D, hD⟩ : ∃ D, D = secs d.length := ⟨_, rfl⟩
      rw [← hE, ← hD] at hen
      rw [← hE]
      rw [← hD] at hsc
      have hEI : (E : Int) + 1 + (D : Int) ≤ 100000 := by omega
      have HSC := Lib.hid hsc
      have HX := Lib.hid hen
      clear hsc hen hem hdl hd hE hD hk hab
      go_wp2_with (go_at_call 47; (with_reducible refine HSC.out.mono ?_); rintro e w1 ⟨rfl, rfl⟩)
      exact ⟨⟨k + 1, hkl, by simp, by rw [HX.out]; simp⟩, by simp [intOf]; omega⟩
    · obtain rfl : k = r.length := by omega
      rw [List.take_length]
      go_wp2
      go_ret
      exact ⟨rfl, HH.out.1⟩
end Go.Proofs.Ytdjcpjfomgfjlaa
