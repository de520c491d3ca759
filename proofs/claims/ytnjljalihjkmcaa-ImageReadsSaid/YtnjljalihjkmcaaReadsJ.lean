/- Joined: LogV LogW ImgR ImgS ImgT ImgU RefI RefJ OpH ByZ ImgL LogAr. -/
import Derived.Test.YtnjljalihjkmcaaLogH
import Derived.Test.YtnjljalihjkmcaaRefH
import Derived.Deep.CutRange
import Derived.Deep.CutBlock
import Derived.Test.YtnjljalihjkmcaaImgB
import Derived.Test.YtnjljalihjkmcaaImgD
import Derived.Test.YtnjljalihjkmcaaImgF
import Derived.Deep.RegionHeld3
import Derived.Test.YtnjljalihjkmcaaDskX
import Derived.Test.YtnjljalihjkmcaaLogE
import Derived.Lib.SlBytesConst
import Derived.Test.YtnjljalihjkmcaaImgK
/- The document's log: Sectors, Head, End. -/
namespace Go.Proofs.Ytnjljalihjkmcaa
open Go.RowKit Go.Maps

set_option maxRecDepth 100000 in
theorem rsecs_any (n : Nat) (w : World) (hn : n ≤ 1000000) :
    Calls Try.prog 53 #[.int .i64 (n : Int)] w fun e w' => e = .returned (.int .i64 (secs n : Int)) ∧ w = w' := by
  have hss : secs n ≤ 20000 := by unfold secs; omega
  have hnI : (n : Int) ≤ 1000000 := by omega
  have HN := Lib.hid hn
  clear hn
  go_enter Try.func53, Try.ntmps53
  go_wp2
  go_loop [3] (fun u => ∃ k : Nat, k ≤ secs n ∧ u = .int .i64 (k : Int)) (fun u => secs n - (intOf u).toNat)
  case atStart => exact ⟨0, by omega, rfl⟩
  case round =>
    obtain ⟨k, hk, rfl⟩ := hrel
    have hkI : (k : Int) ≤ 20000 := by omega
    by_cases hkl : k < secs n
    · have h1 : (k : Int) * 64 < (n : Int) := by unfold secs at hkl; omega
      go_wp2
      go_round
      case rel => exact ⟨k + 1, by omega, by simp⟩
      case measure => simp [intOf]; omega
    · obtain rfl : k = secs n := by omega
      have h1 : ¬ (secs n : Int) * 64 < (n : Int) := by unfold secs; omega
      go_wp2
      go_ret
      exact ⟨rfl, rfl⟩
/-- A head, of whose Seq the last k bytes are written. -/
def hdR (s : Nat) : Nat → List UInt8
  | 0 => (zero64.set 0 82).set 63 165
  | k + 1 => (hdR s k).set (8 - k) (UInt8.ofNat (s / 256 ^ k))
theorem hdR_len (s : Nat) : ∀ k, (hdR s k).length = 64
  | 0 => rfl
  | k + 1 => by rw [hdR, List.length_set, hdR_len s k]
theorem hdR_end (s n : Nat) : ((hdR s 8).set 9 (UInt8.ofNat (n / 256))).set 10 (UInt8.ofNat n) = headL s n := by
  simp [hdR, zero64, headL, be8, be2, List.replicate_succ]
set_option maxRecDepth 100000 in
set_option maxHeartbeats 1000000 in
theorem rHead_any (s n : Nat) (w : World) (hs : s ≤ 9223372036854775807) (hn : n ≤ 65535) :
    Calls Try.prog 31 #[.int .i64 (s : Int), .int .i64 (n : Int)] w fun e w' => e = .returned (.string ⟨(headL s n).toArray⟩) ∧ Below w.heap.size w w' := by
  have hmk := make64 w
  have h0 : ((u8s zero64).set 0 (.int .u8 82)).set 63 (.int .u8 165) = u8s (hdR s 0) := rfl
  have hg : (w.alloc (.cells (((u8s zero64).set 0 (.int .u8 82)).set 63 (.int .u8 165)).toArray 5)).heap[w.heap.size]? = some (.cells (u8s (hdR s 0)).toArray 5 (0, 0)) := by rw [h0]; exact heap_alloc_new w _
  have hB1 : Below w.heap.size w (w.alloc (.cells (((u8s zero64).set 0 (.int .u8 82)).set 63 (.int .u8 165)).toArray 5)) := (Below.refl _ w).alloc (Nat.le_refl _) _
  have HG := Lib.hid (And.intro hg (And.intro hB1 hs))
  have hn' : (n : Int) ≤ 65535 := by omega
  clear hB1 hg h0 hs hn
  go_enter Try.func31, Try.ntmps31
  go_wp2
  go_loopw [0, 6] (fun z i wr => ∃ k : Nat, k ≤ 8 ∧ i = .int .i64 (8 - (k : Int)) ∧ z = .int .i64 ((s / 256 ^ k : Nat) : Int) ∧ wr.heap[w.heap.size]? = some (.cells (u8s (hdR s k)).toArray 5 (0, 0)) ∧ Below w.heap.size w wr)
    (fun _ i _ => (intOf i).toNat)
  case atStart => exact ⟨0, by omega, rfl, by simp, HG.out.1, HG.out.2.1⟩
  case round =>
    obtain ⟨k, hk, rfl, rfl, hg, hb⟩ := hrel
    by_cases hk8 : k < 8
    · have hkI : (0 : Int) < 8 - (k : Int) := by omega
      have hkJ : (8 : Int) - (k : Int) < 64 := by omega
      have hkN : ((8 : Int) - (k : Int)).toNat = 8 - k := by omega
      have hk0 : (0 : Int) ≤ 8 - (k : Int) := by omega
      obtain ⟨S, hS⟩ : ∃ S, S = s / 256 ^ k := ⟨_, rfl⟩
      have hS1 : s / 256 ^ (k + 1) = S / 256 := by rw [hS, Nat.pow_succ, Nat.div_div_eq_div_mul]
      have hSl : S ≤ 9223372036854775807 := by rw [hS]; exact Nat.le_trans (Nat.div_le_self _ _) HG.out.2.2
      rw [← hS]
      have hm : (S : Int).tmod 256 = ((S % 256 : Nat) : Int) := by rw [Int.tmod_eq_emod_of_nonneg (by omega)]; omega
      have hd : (S : Int).tdiv 256 = ((S / 256 : Nat) : Int) := by rw [Int.tdiv_eq_ediv_of_nonneg (by omega)]; omega
      have hx : ((S % 256 : Nat) : Int) = ((UInt8.ofNat S).toNat : Int) := by rw [mod256]; omega
      obtain ⟨v1, hv1⟩ := row_cell (i := 8 - k) hg (by rw [hdR_len]; omega)
      have zf1 := frozen_of_row wr w.heap.size (8 - k) _ _ hg
      have hg2 := row_set (i := 8 - k) hg (UInt8.ofNat S)
      have hg3 : (wr.setCell ⟨w.heap.size, 8 - k, none⟩ (.int .u8 ((UInt8.ofNat S).toNat : Int))).heap[w.heap.size]? = some (.cells (u8s (hdR s (k + 1))).toArray 5 (0, 0)) := by rw [hdR, ← hS]; exact hg2
      have HX := Lib.hid (And.intro hg3 (And.intro (hb.setCell (p := ⟨w.heap.size, 8 - k, none⟩) (Nat.le_refl _) (.int .u8 ((UInt8.ofNat S).toNat : Int))) (And.intro hx hS1)))
      clear hg hb hg2 hg3 hx hS1 hS
      go_wp2_with go_in
      rw [show (S : Int) % 256 = ((UInt8.ofNat S).toNat : Int) from (mod256 S).symm]
      exact ⟨⟨k + 1, by omega, by simp; omega, by rw [HX.out.2.2.2]; simp, HX.out.1, HX.out.2.1⟩, by simp [intOf]; omega⟩
    · obtain rfl : k = 8 := by omega
      obtain ⟨v9, hv9⟩ := row_cell (i := 9) hg (by rw [hdR_len]; omega)
      have hg9 := row_set (i := 9) hg (UInt8.ofNat (n / 256))
      obtain ⟨v10, hv10⟩ := row_cell (i := 10) hg9 (by rw [List.length_set, hdR_len]; omega)
      have zf9 := frozen_of_row wr w.heap.size 9 _ _ hg
      have zf10 := frozen_of_row _ w.heap.size 10 _ _ hg9
      have hg10 := row_set (i := 10) hg9 (UInt8.ofNat n)
      rw [hdR_end] at hg10
      have hb10 := (hb.setCell (p := ⟨w.heap.size, 9, none⟩) (Nat.le_refl _) (.int .u8 ((UInt8.ofNat (n / 256)).toNat : Int))).setCell (p := ⟨w.heap.size, 10, none⟩) (Nat.le_refl _) (.int .u8 ((UInt8.ofNat n).toNat : Int))
      have m1 : ((UInt8.ofNat (n / 256)).toNat : Int) = (n : Int) / 256 := by rw [mod256]; simp; omega
      have m2 : (n : Int) / 256 % 256 = (n : Int) / 256 := by omega
      rw [mod256 n] at hg10 hb10
      rw [m1] at hg10 hb10 hv10 zf10
      have hst : (convert 45 9 (.slice (some ⟨w.heap.size, 0, none⟩) 64 64)).run Try.prog ((wr.setCell ⟨w.heap.size, 9, none⟩ (.int .u8 ((n : Int) / 256))).setCell ⟨w.heap.size, 10, none⟩ (.int .u8 ((n : Int) % 256))) = .ok (.string ⟨(headL s n).toArray⟩) _ :=
        strAt (B := (wr.setCell ⟨w.heap.size, 9, none⟩ (.int .u8 ((n : Int) / 256))).setCell ⟨w.heap.size, 10, none⟩ (.int .u8 ((n : Int) % 256)) |>.heap.size) (fun _ => ⟨w.heap.size, 0, rfl, (Array.getElem?_eq_some_iff.1 hg10).1, fun j u hu => by rw [cell_of_row _ _ _ _ _ _ hg10]; simpa using hu⟩) (by rw [headL_len])
      have HX := Lib.hid hb10
      clear hg hb hg9 hg10 hb10 m1
      go_wp2_with go_in
      go_ret
      exact ⟨rfl, HX.out⟩
/-- The cells of records of the document. -/
def recS (r : List Rec) : List Value := r.flatMap fun x => [.int .i64 (x.1 : Int), .string ⟨x.2.toArray⟩]
theorem recS_len (r : List Rec) : (recS r).length = r.length * 2 := by
  induction r with
  | nil => rfl
  | cons x r ih => simp only [recS, List.flatMap_cons, List.length_append] at ih ⊢; rw [ih]; simp; omega
theorem recS_two : ∀ (r : List Rec) (i : Nat) (h : i < r.length), (recS r)[i * 2]? = some (.int .i64 (r[i].1 : Int)) ∧ (recS r)[i * 2 + 1]? = some (.string ⟨r[i].2.toArray⟩)
  | [], _, h => by cases h
  | x :: r, 0, _ => ⟨rfl, rfl⟩
  | x :: r, i + 1, h => by
    have ih := recS_two r i (by simpa using h)
    simp only [recS, List.flatMap_cons] at ih ⊢
    rw [show (i + 1) * 2 = i * 2 + 1 + 1 by omega]
    simpa using ih
theorem recS_at {w : World} {B : Nat} {A : Option Addr} {r : List Rec} (h : Rd w B A (recS r)) {k : Nat} (hk : k < r.length) : ∃ ab ao, A = some ⟨ab, ao, none⟩ ∧ ab < B ∧ w.cell? ⟨ab, ao + k * 2, none⟩ = some (.int .i64 (r[k].1 : Int)) ∧ w.cell? ⟨ab, ao + k * 2 + 1, none⟩ = some (.string ⟨r[k].2.toArray⟩) := by
  obtain ⟨ab, ao, rfl, hab, hc⟩ := h (by intro e; have := congrArg List.length e; rw [recS_len] at this; have h9 : r.length * 2 = 0 := this; omega)
  obtain ⟨t1, t2⟩ := recS_two r k hk
  have := hc _ _ t2
  rw [← Nat.add_assoc] at this
  exact ⟨ab, ao, rfl, hab, hc _ _ t1, this⟩
theorem endR_take (a : Nat) (r : List Rec) (k : Nat) (h : k < r.length) : endR a (r.take (k + 1)) = endR a (r.take k) + 1 + secs r[k].2.length := by
  rw [List.take_succ_eq_append_getElem h, endR_append]
  rfl
theorem endR_mono (a : Nat) (r : List Rec) (k : Nat) : endR a (r.take k) ≤ endR a r := by
  have h : endR a r = endR (endR a (r.take k)) (r.drop k) := by rw [← endR_append, List.take_append_drop]
  rw [h]
  have := endR_le (endR a (r.take k)) (r.drop k)
  omega
set_option maxRecDepth 100000 in
set_option maxHeartbeats 1000000 in
theorem rEnd_any (first : Nat) (count next : Int) (r : List Rec) (A : Option Addr) (c B : Nat) (w : World) (hr : Rd w B A (recS r)) (hB : B ≤ w.heap.size) (hd : ∀ x ∈ r, x.2.length ≤ 4000) (he : endR first r ≤ 100000) :
    Calls Try.prog 49 #[.agg #[.int .i64 (first : Int), .int .i64 count, .slice A r.length c, .int .i64 next]] w fun e w' => e = .returned (.int .i64 (endR first r : Int)) ∧ Below w.heap.size w w' := by
  have hb0 : Below w.heap.size w (w.alloc (.cells #[.int .i64 (first : Int), .int .i64 count, .slice A r.length c, .int .i64 next] 42)) := (Below.refl _ _).alloc (Nat.le_refl _) _
  have hg0 := heap_alloc_new w (.cells #[.int .i64 (first : Int), .int .i64 count, .slice A r.length c, .int .i64 next] 42)
  have hr0 := hr.below hb0 hB
  have hl : r.length ≤ 100000 := by have := endR_le first r; omega
  have hlI : (r.length : Int) ≤ 100000 := by omega
  have HH := Lib.hid (And.intro hb0 (And.intro hd he))
  go_enter Try.func49, Try.ntmps49
  go_upto_region 1 with (fail)
  generalize w.alloc (.cells #[.int .i64 (first : Int), .int .i64 count, .slice A r.length c, .int .i64 next] 42) = W0 at hb0 hg0 hr0 HH ⊢
  have c0 := cell_of_row W0 w.heap.size 0 _ _ _ hg0
  have c2 := cell_of_row W0 w.heap.size 2 _ _ _ hg0
  have HR := Lib.hid hr0
  clear hb0 hg0 hr0 hr hd he hl
  go_wp2
  go_loop [3, 4, 10] (fun u _ i => ∃ k : Nat, k ≤ r.length ∧ i = .int .i64 (k : Int) ∧ u = .int .i64 (endR first (r.take k) : Int)) (fun _ _ i => r.length - (intOf i).toNat)
  case atStart => exact ⟨0, by omega, rfl, rfl⟩
  case round =>
    obtain ⟨k, hk, rfl, rfl⟩ := hrel
    by_cases hkl : k < r.length
    · have hkI : (k : Int) < (r.length : Int) := by omega
      obtain ⟨ab, ao, rfl, hab, hc1, hc2⟩ := recS_at HR.out hkl
      have hen := endR_take first r k hkl
      have hem : endR first (r.take (k + 1)) ≤ 100000 := Nat.le_trans (endR_mono first r (k + 1)) HH.out.2.2
      have hdl := HH.out.2.1 r[k] (List.getElem_mem hkl)
      obtain ⟨d, hd⟩ : ∃ d, d = r[k].2 := ⟨_, rfl⟩
      rw [← hd] at hc2 hen hdl
      have hsz : (⟨d.toArray⟩ : ByteArray).size = d.length := by simp [ByteArray.size]
      have hsc := rsecs_any d.length W0 (by omega)
      have hdI : (d.length : Int) ≤ 4000 := by omega
      obtain ⟨E, hE⟩ : ∃ E, E = endR first (r.take k) := ⟨_, rfl⟩
      obtain ⟨D, hD⟩ : ∃ D, D = secs d.length := ⟨_, rfl⟩
      rw [← hE, ← hD] at hen
      rw [← hE]
      rw [← hD] at hsc
      have hEI : (E : Int) + 1 + (D : Int) ≤ 100000 := by omega
      have HSC := Lib.hid hsc
      have HX := Lib.hid hen
      clear hsc hen hem hdl hd hE hD hk hab
      go_wp2_with (go_at_call 53; (with_reducible refine HSC.out.mono ?_); rintro e w1 ⟨rfl, rfl⟩)
      exact ⟨⟨k + 1, hkl, by simp, by rw [HX.out]; simp⟩, by simp [intOf]; omega⟩
    · obtain rfl : k = r.length := by omega
      rw [List.take_length]
      go_wp2
      go_ret
      exact ⟨rfl, HH.out.1⟩
end Go.Proofs.Ytnjljalihjkmcaa
/- The document's log: record. -/
namespace Go.Proofs.Ytnjljalihjkmcaa
open Go.RowKit Go.Maps

/-- The record at a sector, as the document reads it. -/
def recO (g : Nat → List UInt8) (at_ behind : Nat) : Option Rec :=
  match hdr (g at_) with
  | none => none
  | some (s, n) => if behind < at_ + 1 + secs n then none else some (s, (cat g (at_ + 1) (secs n)).take n)
def recOV : Option Rec → Value
  | none => .tuple #[.agg #[.int .i64 0, .string ⟨#[]⟩], .bool false]
  | some (s, d) => .tuple #[.agg #[.int .i64 (s : Int), .string ⟨d.toArray⟩], .bool true]
theorem beV_take_le (l : List UInt8) (k : Nat) : beV (l.take k) * 256 ^ (l.length - k) ≤ beV l := by
  have h : ∀ (r : List UInt8) (l : List UInt8), beV l * 256 ^ r.length ≤ beV (l ++ r) := by
    intro r
    induction r with
    | nil => intro l; simp
    | cons x r ih =>
      intro l
      have := ih (l ++ [x])
      rw [List.append_assoc, beV_snoc] at this
      refine Nat.le_trans ?_ this
      rw [List.length_cons, Nat.pow_succ, Nat.mul_comm (256 ^ r.length) 256, ← Nat.mul_assoc]
      exact Nat.mul_le_mul_right _ (Nat.le_add_right _ _)
  have := h (l.drop k) (l.take k)
  rwa [List.take_append_drop, List.length_drop] at this
theorem ba_app (x y : List UInt8) : (⟨x.toArray⟩ : ByteArray) ++ ⟨y.toArray⟩ = ⟨(x ++ y).toArray⟩ := by
  apply ByteArray.ext
  simp
theorem ba_take (x : List UInt8) (n : Nat) : (⟨x.toArray⟩ : ByteArray).extract 0 n = ⟨(x.take n).toArray⟩ := by
  apply ByteArray.ext
  simp
theorem recO_none {g : Nat → List UInt8} {a behind : Nat} (h : hdr (g a) = none) : recO g a behind = none := by unfold recO; rw [h]
theorem set2 {w : World} {b : Nat} {t : TypeId} {x0 x1 : Value} (h : w.heap[b]? = some (.cells #[x0, x1] t (0, 0))) (v0 v1 : Value) :
    ((w.setCell ⟨b, 0, none⟩ v0).setCell ⟨b, 1, none⟩ v1).heap[b]? = some (.cells #[v0, v1] t (0, 0)) := by
  have h1 := heap_setCell_same w b 0 #[x0, x1] t v0 h
  have h2 := heap_setCell_same _ b 1 _ t v1 h1
  simpa using h2
theorem below_set2 {B b : Nat} {a w : World} (h : Below B a w) (hb : B ≤ b) (v0 v1 : Value) : Below B a ((w.setCell ⟨b, 0, none⟩ v0).setCell ⟨b, 1, none⟩ v1) :=
  (h.setCell (p := ⟨b, 0, none⟩) hb v0).setCell (p := ⟨b, 1, none⟩) hb v1
theorem resRec {w : World} {b : Nat} {v0 v1 : Value} (h : w.heap[b]? = some (.cells #[v0, v1] 102 (0, 0))) (tmps : Array Value) (h4 : tmps.getD 6 undef = .pointer (some ⟨b, 0, none⟩)) :
    (results Try.f78 tmps).run Try.prog w = .ok (.tuple #[.agg #[v0, v1], tmps.getD 7 undef]) w := by
  have e0 : w.cell? ⟨b, 0, none⟩ = some v0 := cell_of_row w b 0 _ _ _ h
  have e1 : w.cell? ⟨b, 1, none⟩ = some v1 := cell_of_row w b 1 _ _ _ h
  have h4' := h4
  simp only [Array.getD_eq_getD_getElem?] at h4'
  simp [results, Try.results78, go_sem, h4', e0, e1]
theorem hdr_big {b : List UInt8} (h : 4611686018427387904 < seqV b) : hdr b = none := by
  unfold hdr
  rw [if_neg (fun hh => by omega)]
theorem seq_big {b : List UInt8} {k : Nat} (hk : k < 8) (hl : b.length = 64) (h : 18014398509481984 < beV ((b.drop 1).take k)) : hdr b = none := by
  apply hdr_big
  have h1 := beV_take_le ((b.drop 1).take 8) k
  have h2 : ((b.drop 1).take 8).length = 8 := by simp; omega
  rw [h2, List.take_take, show min k 8 = k by omega] at h1
  have h3 : 256 ^ 1 ≤ 256 ^ (8 - k) := Nat.pow_le_pow_right (by omega) (by omega)
  have h4 : beV ((b.drop 1).take k) * 256 ≤ beV ((b.drop 1).take k) * 256 ^ (8 - k) := Nat.mul_le_mul_left _ (by simpa using h3)
  unfold seqV
  omega
set_option maxRecDepth 100000 in
set_option maxHeartbeats 2000000 in
theorem rrec_any (g : Nat → List UInt8) (N at_ behind : Nat) (s0 f0 : Value) (st lf : Int) (A : Option Addr) (c B : Nat) (w : World) (hr : Rd w B A (strs ((List.range N).map g))) (hB : B ≤ w.heap.size) (hg : ∀ i, i < N → (g i).length = 64) (ha : at_ < N) (hb : behind ≤ N) (hN : N ≤ 4096) :
    Calls Try.prog 78 #[.agg #[s0, .slice A N c, f0, .int .i64 st, .int .i64 lf], .int .i64 (at_ : Int), .int .i64 (behind : Int)] w fun e w' => e = .returned (recOV (recO g at_ behind)) ∧ Below w.heap.size w w' := by
  have hb0 : Below w.heap.size w ((w.alloc (.cells #[s0, .slice A N c, f0, .int .i64 st, .int .i64 lf] 33)).alloc (.cells #[.int .i64 0, .string ⟨#[]⟩] 102)) := ((Below.refl _ _).alloc (Nat.le_refl _) _).alloc (by simp) _
  have hg0 : ((w.alloc (.cells #[s0, .slice A N c, f0, .int .i64 st, .int .i64 lf] 33)).alloc (.cells #[.int .i64 0, .string ⟨#[]⟩] 102)).heap[w.heap.size]? = some (.cells #[s0, .slice A N c, f0, .int .i64 st, .int .i64 lf] 33 (0, 0)) := (Below.heap_alloc _ _ _ (by simp)).trans (heap_alloc_new w _)
  have hg1 : ((w.alloc (.cells #[s0, .slice A N c, f0, .int .i64 st, .int .i64 lf] 33)).alloc (.cells #[.int .i64 0, .string ⟨#[]⟩] 102)).heap[w.heap.size + 1]? = some (.cells #[.int .i64 0, .string ⟨#[]⟩] 102 (0, 0)) := by
    have := heap_alloc_new (w.alloc (.cells #[s0, .slice A N c, f0, .int .i64 st, .int .i64 lf] 33)) (.cells #[.int .i64 0, .string ⟨#[]⟩] 102)
    simpa using this
  have hr0 := hr.below hb0 hB
  obtain ⟨b, hbe⟩ : ∃ b, b = g at_ := ⟨_, rfl⟩
  have hbl : b.length = 64 := by rw [hbe]; exact hg at_ ha
  obtain ⟨ab, ao, rfl, hab, hcell⟩ := hr0.get (k := at_) (by simp [strs, ha])
  have haI : (at_ : Int) < (N : Int) := by omega
  have hNI : (N : Int) ≤ 4096 := by omega
  have hbI : (behind : Int) ≤ (N : Int) := by omega
  have hbz : (⟨b.toArray⟩ : ByteArray).size = 64 := by simp [ByteArray.size, hbl]
  have HH := Lib.hid (And.intro hb0 (And.intro hg (And.intro hr0 (And.intro hbe hbl))))
  have hstr : (strs ((List.range N).map g))[at_]'(by simp [strs, ha]) = .string ⟨b.toArray⟩ := by rw [hbe]; simp [strs]
  rw [hstr] at hcell
  clear hr0 hr hg hbe hstr
  go_enter Try.func78, Try.ntmps78
  go_upto_region 1 with (fail)
  generalize (w.alloc (.cells #[s0, .slice (some ⟨ab, ao, none⟩) N c, f0, .int .i64 st, .int .i64 lf] 33)).alloc (.cells #[.int .i64 0, .string ⟨#[]⟩] 102) = W0 at hb0 hg0 hg1 HH hcell ⊢
  have x1 := cell_of_row W0 w.heap.size 1 _ _ _ hg0
  have r0 := cell_of_row W0 (w.heap.size + 1) 0 _ _ _ hg1
  have r1 := cell_of_row W0 (w.heap.size + 1) 1 _ _ _ hg1
  have z0 := frozen_of_row W0 (w.heap.size + 1) 0 _ _ hg1
  have z1 := frozen_of_row W0 (w.heap.size + 1) 1 _ _ hg1
  have HB := Lib.hid (And.intro hb0 (And.intro hg0 hg1))
  clear hb0 hg0 hg1
  go_upto_block 0 with (fail)
  go_cut [9, 10] from 19 to 32 (fun u _ w' => u = .int .i64 (seqV b : Int) ∧ w' = W0 ∧ seqV b ≤ 4611686018427388159)
  case first =>
    go_wp2
    go_loop [9, 10] (fun u i => ∃ k : Nat, k ≤ 8 ∧ i = .int .i64 (1 + (k : Int)) ∧ u = .int .i64 (beV ((b.drop 1).take k) : Int) ∧ beV ((b.drop 1).take k) ≤ 4611686018427388159) (fun _ i => 9 - (intOf i).toNat)
    case atStart => exact ⟨0, by omega, rfl, rfl, by simp [beV]⟩
    case round =>
      obtain ⟨k, hk, rfl, rfl, hle⟩ := hrel
      by_cases hk8 : k < 8
      · have hkI : (1 : Int) + (k : Int) < 9 := by omega
        have hkJ : (0 : Int) ≤ 1 + (k : Int) := by omega
        have hkN : ((1 : Int) + (k : Int)).toNat = 1 + k := by omega
        have hd8 : ((b.drop 1)).length = 63 := by simp; omega
        obtain ⟨x, hx⟩ : ∃ x, x = b[1 + k]'(by omega) := ⟨_, rfl⟩
        have hxb : (⟨b.toArray⟩ : ByteArray)[1 + k]'(by rw [hbz]; omega) = x := by rw [hx]; rfl
        have hsn : beV ((b.drop 1).take (k + 1)) = beV ((b.drop 1).take k) * 256 + x.toNat := by
          rw [take_snoc' _ k (by omega), beV_snoc, hx]
          simp [Nat.add_comm]
        obtain ⟨V, hV⟩ : ∃ V, V = beV ((b.drop 1).take k) := ⟨_, rfl⟩
        rw [← hV] at hsn ⊢
        have hxl : (x.toNat : Int) ≤ 255 := by have := x.toNat_lt; omega
        by_cases hbig : 18014398509481984 < (V : Int)
        · have HX := Lib.hid (And.intro hV hbig)
          clear hV hsn hx hxb
          go_wp2
          have hno : recO g at_ behind = none := recO_none (by rw [← HH.out.2.2.2.1]; exact seq_big hk8 hbl (by rw [← HX.out.1]; have := HX.out.2; omega))
          exact bodyPost_ret (resRec (set2 HB.out.2.2 _ _) _ rfl) rfl ⟨by rw [hno]; rfl, below_set2 HB.out.1 (by omega) _ _⟩
        · have HX := Lib.hid hsn
          have hVl : (V : Int) ≤ 18014398509481984 := by omega
          clear hV hsn hx hbig
          go_wp2
          exact ⟨⟨k + 1, by omega, by simp; omega, by rw [HX.out]; simp, by rw [HX.out]; omega⟩, by simp [intOf]; omega⟩
      · obtain rfl : k = 8 := by omega
        go_wp2
        go_meet
        exact ⟨by simp [seqV], rfl, hle⟩
  case rest =>
    obtain ⟨rfl, rfl, hsl⟩ := hcut
    obtain ⟨x9, hx9⟩ : ∃ x, x = b[9]'(by omega) := ⟨_, rfl⟩
    obtain ⟨x10, hx10⟩ : ∃ x, x = b[10]'(by omega) := ⟨_, rfl⟩
    have i9 : (⟨b.toArray⟩ : ByteArray)[9]'(by rw [hbz]; omega) = x9 := by rw [hx9]; rfl
    have i10 : (⟨b.toArray⟩ : ByteArray)[10]'(by rw [hbz]; omega) = x10 := by rw [hx10]; rfl
    have hlen : lenV b = x9.toNat * 256 + x10.toNat := by rw [lenV_two b hbl, hx9, hx10]
    have l9 := x9.toNat_lt
    have l10 := x10.toNat_lt
    have q1 : IntKind.i64.wrap ((x9.toNat : Int) * 256) = (x9.toNat : Int) * 256 := IntWalk.i64_in _ (by omega)
    have q2 : IntKind.i64.wrap ((x9.toNat : Int) * 256 + (x10.toNat : Int)) = (lenV b : Int) := by rw [hlen]; rw [IntWalk.i64_in _ (by omega)]; omega
    have q3 : IntKind.i64.wrap (x9.toNat : Int) = (x9.toNat : Int) := IntWalk.i64_in _ (by omega)
    have q4 : IntKind.i64.wrap (x10.toNat : Int) = (x10.toNat : Int) := IntWalk.i64_in _ (by omega)
    clear hx9 hx10 hlen
    go_upto_region 9 with (fail)
    go_quiet (fail)
    have hw2 : Below w.heap.size w (wc.drewN nq) := below_draws HB.out.1 nq
    have hg0 : (wc.drewN nq).heap[w.heap.size]? = some (.cells #[s0, .slice (some ⟨ab, ao, none⟩) N c, f0, .int .i64 st, .int .i64 lf] 33 (0, 0)) := HB.out.2.1
    have hg1 : (wc.drewN nq).heap[w.heap.size + 1]? = some (.cells #[.int .i64 0, .string ⟨#[]⟩] 102 (0, 0)) := HB.out.2.2
    have hr2 : Rd (wc.drewN nq) B (some ⟨ab, ao, none⟩) (strs ((List.range N).map g)) := HH.out.2.2.1.drewN nq
    clear hcell x1 r0 r1 z0 z1 i9 i10 l9 l10 q1 q2 q3 q4
    generalize wc.drewN nq = W2 at hw2 hg0 hg1 hr2 ⊢
    have r0 := cell_of_row W2 (w.heap.size + 1) 0 _ _ _ hg1
    have r1 := cell_of_row W2 (w.heap.size + 1) 1 _ _ _ hg1
    have z0 := frozen_of_row W2 (w.heap.size + 1) 0 _ _ hg1
    have z1 := frozen_of_row W2 (w.heap.size + 1) 1 _ _ hg1
    have HW := Lib.hid (And.intro hw2 (And.intro hg0 (And.intro hg1 hr2)))
    have hdef : hdr b = if 1 ≤ seqV b ∧ seqV b ≤ 4611686018427387904 ∧ lenV b ≤ 4000 ∧ b = headL (seqV b) (lenV b) then some (seqV b, lenV b) else none := rfl
    obtain ⟨S, hS⟩ : ∃ S, S = seqV b := ⟨_, rfl⟩
    obtain ⟨Y, hY⟩ : ∃ Y, Y = lenV b := ⟨_, rfl⟩
    rw [← hS, ← hY] at hdef
    rw [← hS] at hsl
    rw [← hS, ← hY]
    clear hw2 hg0 hg1 hr2 hS hY
    have hbw : w.heap.size ≤ w.heap.size + 1 := by omega
    by_cases hbad : S < 1 ∨ 4611686018427387904 < S ∨ 4000 < Y
    · have hno : recO g at_ behind = none := recO_none (by rw [← HH.out.2.2.2.1, hdef, if_neg (fun hh => by omega)])
      have HNO := Lib.hid hno
      have hbad' : (S : Int) < 1 ∨ (¬ (S : Int) < 1 ∧ (4611686018427387904 : Int) < (S : Int)) ∨ (¬ (S : Int) < 1 ∧ ¬ (4611686018427387904 : Int) < (S : Int) ∧ (4000 : Int) < (Y : Int)) := by omega
      clear hbad hno hdef hsl
      obtain ⟨X, hX⟩ : ∃ X : Int, X = (S : Int) := ⟨_, rfl⟩
      rw [← hX] at hbad' ⊢
      clear hX
      rcases hbad' with h1 | ⟨h1, h2⟩ | ⟨h1, h2, h3⟩
      all_goals
        go_wp2
        exact bodyPost_ret (resRec (set2 HW.out.2.2.1 _ _) _ rfl) rfl ⟨by rw [HNO.out]; rfl, below_set2 HW.out.1 hbw _ _⟩
    · have hho := rHead_any S Y W2 (by omega) (by omega)
      obtain ⟨X, hX⟩ : ∃ X : Int, X = (S : Int) := ⟨_, rfl⟩
      have h1 : ¬ X < 1 := by omega
      have h2 : ¬ (4611686018427387904 : Int) < X := by omega
      have h3 : ¬ (4000 : Int) < (Y : Int) := by omega
      have HRG := Lib.hid (show 1 ≤ S ∧ S ≤ 4611686018427387904 ∧ Y ≤ 4000 by omega)
      rw [← hX] at hho ⊢
      have HHO := Lib.hid hho
      have HX := Lib.hid hX
      have HDF := Lib.hid hdef
      clear hbad hho hX hdef hsl
      by_cases hbe : b = headL S Y
      · have HHO2 := HHO.out
        rw [← hbe] at HHO2
        have HHO := Lib.hid HHO2
        have hsx : hdr b = some (S, Y) := by rw [HDF.out, if_pos ⟨HRG.out.1, HRG.out.2.1, HRG.out.2.2, hbe⟩]
        have hro : recO g at_ behind = if behind < at_ + 1 + secs Y then none else some (S, (cat g (at_ + 1) (secs Y)).take Y) := by unfold recO; rw [← HH.out.2.2.2.1, hsx]
        have hse := fun W => rsecs_any Y W (by have := HRG.out.2.2; omega)
        have hD6 : secs Y ≤ 63 := by have := HRG.out.2.2; unfold secs; omega
        have hY64 : Y ≤ 64 * secs Y := by unfold secs; omega
        obtain ⟨D, hD⟩ : ∃ D, D = secs Y := ⟨_, rfl⟩
        rw [← hD] at hro hD6 hY64
        rw [← hD] at hse
        have HSE := Lib.hid hse
        have HRO := Lib.hid hro
        have hDI : (D : Int) ≤ 63 := by omega
        clear HHO2 hbe hsx hro hse hD
        by_cases hfar : behind < at_ + 1 + D
        · have hfI : (behind : Int) < (at_ : Int) + 1 + (D : Int) := by omega
          have hno : recO g at_ behind = none := by rw [HRO.out, if_pos hfar]
          have HNO := Lib.hid hno
          clear hno hfar
          go_wp2_with (first
            | (go_at_call 31; (with_reducible refine HHO.out.mono ?_); rintro e w3 ⟨rfl, hb3⟩; have hg3 := (hb3.block (w.heap.size + 1) (heap_lt HW.out.2.2.1)).trans HW.out.2.2.1; have p0 := cell_of_row _ (w.heap.size + 1) 0 _ _ _ hg3; have p1 := cell_of_row _ (w.heap.size + 1) 1 _ _ _ hg3; have y0 := frozen_of_row _ (w.heap.size + 1) 0 _ _ hg3; have y1 := frozen_of_row _ (w.heap.size + 1) 1 _ _ hg3; have HG3 := Lib.hid hg3; clear hg3)
            | (go_at_call 53; (with_reducible refine (HSE.out _).mono ?_); rintro e w4 ⟨rfl, rfl⟩))
          exact bodyPost_ret (resRec (set2 HG3.out _ _) _ rfl) rfl ⟨by rw [HNO.out]; rfl, below_set2 (HW.out.1.trans (lower' hb3 HW.out.1.size)) hbw _ _⟩
        · have hfI : ¬ (behind : Int) < (at_ : Int) + 1 + (D : Int) := by omega
          have hyes : recO g at_ behind = some (S, (cat g (at_ + 1) D).take Y) := by rw [HRO.out, if_neg hfar]
          have HYES := Lib.hid hyes
          clear hyes
          go_upto_region 13 with (first
            | (go_at_call 31; (with_reducible refine HHO.out.mono ?_); rintro e w3 ⟨rfl, hb3⟩; have hg3 := (hb3.block (w.heap.size + 1) (heap_lt HW.out.2.2.1)).trans HW.out.2.2.1; have p0 := cell_of_row _ (w.heap.size + 1) 0 _ _ _ hg3; have p1 := cell_of_row _ (w.heap.size + 1) 1 _ _ _ hg3; have y0 := frozen_of_row _ (w.heap.size + 1) 0 _ _ hg3; have y1 := frozen_of_row _ (w.heap.size + 1) 1 _ _ hg3; have HG3 := Lib.hid hg3; clear hg3)
            | (go_at_call 53; (with_reducible refine (HSE.out _).mono ?_); rintro e w4 ⟨rfl, rfl⟩))
          have hw3 := HW.out.1.trans (lower' hb3 HW.out.1.size)
          have x1 := cell_of_row w3 w.heap.size 1 _ _ _ ((hb3.block w.heap.size (heap_lt HW.out.2.1)).trans HW.out.2.1)
          have hr3 := HW.out.2.2.2.below hb3 (Nat.le_trans hB HW.out.1.size)
          have HV := Lib.hid (And.intro hw3 hr3)
          clear hw3 hr3 HHO HRO HDF
          go_wp2
          go_loop [12, 13] (fun u i => ∃ k : Nat, k ≤ D ∧ i = .int .i64 (k : Int) ∧ u = .string ⟨(cat g (at_ + 1) k).toArray⟩) (fun _ i => D - (intOf i).toNat)
          case atStart => exact ⟨0, by omega, rfl, rfl⟩
          case round =>
            obtain ⟨k, hk, rfl, rfl⟩ := hrel
            by_cases hkD : k < D
            · have hkI : (k : Int) < (D : Int) := by omega
              have hkN : (at_ : Int) + 1 + (k : Int) < (N : Int) := by omega
              obtain ⟨ab2, ao2, e2, hab2, hc2⟩ := HV.out.2.get (k := at_ + 1 + k) (by simp [strs]; omega)
              cases e2
              have hc3 : w3.cell? ⟨ab, ao + (at_ + 1 + k), none⟩ = some (.string ⟨(g (at_ + 1 + k)).toArray⟩) := by rw [hc2]; simp [strs]
              have hns : ¬ 9223372036854775807 < (cat g (at_ + 1) k).length + (g (at_ + 1 + k)).length := by
                rw [cat_len (fun i hi => HH.out.2.1 _ (by omega)), HH.out.2.1 _ (by omega)]
                omega
              clear hc2
              go_wp2_with (go_at_call 53; (with_reducible refine (HSE.out _).mono ?_); rintro e w4 ⟨rfl, rfl⟩)
              exact ⟨⟨k + 1, hkD, by simp, by rw [ba_app, cat_succ]⟩, by simp [intOf]; omega⟩
            · obtain rfl : k = D := by omega
              have hkI : ¬ (k : Int) < (k : Int) := by omega
              have hcl : (cat g (at_ + 1) k).length = 64 * k := cat_len (fun i hi => HH.out.2.1 _ (by omega))
              have hYc : (Y : Int) ≤ ((cat g (at_ + 1) k).length : Int) := by omega
              have hex := ba_take (cat g (at_ + 1) k) Y
              clear hcl
              go_wp2_with (go_at_call 53; (with_reducible refine (HSE.out _).mono ?_); rintro e w4 ⟨rfl, rfl⟩)
              exact bodyPost_ret (resRec (set2 HG3.out _ _) _ rfl) rfl ⟨by rw [HYES.out, HX.out]; rfl, below_set2 HV.out.1 hbw _ _⟩
      · have hno : recO g at_ behind = none := recO_none (by rw [← HH.out.2.2.2.1, HDF.out, if_neg (fun hh => hbe hh.2.2.2)])
        have HNO := Lib.hid hno
        clear hno
        have hbf : ¬ (⟨b.toArray⟩ : ByteArray) = ⟨(headL S Y).toArray⟩ := by intro e; apply hbe; simpa using e
        go_wp2_with (go_at_call 31; (with_reducible refine HHO.out.mono ?_); rintro e w3 ⟨rfl, hb3⟩; have hg3 := (hb3.block (w.heap.size + 1) (heap_lt HW.out.2.2.1)).trans HW.out.2.2.1; have p0 := cell_of_row _ (w.heap.size + 1) 0 _ _ _ hg3; have p1 := cell_of_row _ (w.heap.size + 1) 1 _ _ _ hg3; have y0 := frozen_of_row _ (w.heap.size + 1) 0 _ _ hg3; have y1 := frozen_of_row _ (w.heap.size + 1) 1 _ _ hg3; have HG3 := Lib.hid hg3; clear hg3)
        exact bodyPost_ret (resRec (set2 HG3.out _ _) _ rfl) rfl ⟨by rw [HNO.out]; rfl, below_set2 (HW.out.1.trans (lower' hb3 HW.out.1.size)) hbw _ _⟩
end Go.Proofs.Ytnjljalihjkmcaa
/- The document's image: Head, area. -/
namespace Go.Proofs.Ytnjljalihjkmcaa
open Go.RowKit Go.Maps

/-- A head, of whose Seq the last k bytes are written; of whose size. -/
def hdI (s : Nat) : Nat → List UInt8
  | 0 => (zero64.set 0 73).set 63 90
  | k + 1 => (hdI s k).set (8 - k) (UInt8.ofNat (s / 256 ^ k))
def hdJ (l : List UInt8) (n : Nat) : Nat → List UInt8
  | 0 => l
  | k + 1 => (hdJ l n k).set (12 - k) (UInt8.ofNat (n / 256 ^ k))
theorem hdI_len (s : Nat) : ∀ k, (hdI s k).length = 64
  | 0 => rfl
  | k + 1 => by rw [hdI, List.length_set, hdI_len s k]
theorem hdJ_len (l : List UInt8) (h : l.length = 64) (n : Nat) : ∀ k, (hdJ l n k).length = 64
  | 0 => h
  | k + 1 => by rw [hdJ, List.length_set, hdJ_len l h n k]
theorem hdI_end (s n : Nat) : hdJ (hdI s 8) n 4 = headI s n := by
  simp [hdI, hdJ, zero64, headI, be8, be4, List.replicate_succ]
set_option maxRecDepth 100000 in
set_option maxHeartbeats 1000000 in
theorem rHeadI_any (s n : Nat) (w : World) (hs : s ≤ 9223372036854775807) (hn : n ≤ 9223372036854775807) :
    Calls Try.prog 39 #[.int .i64 (s : Int), .int .i64 (n : Int)] w fun e w' => e = .returned (.string ⟨(headI s n).toArray⟩) ∧ Below w.heap.size w w' := by
  have hmk := make64 w
  have h0 : ((u8s zero64).set 0 (.int .u8 73)).set 63 (.int .u8 90) = u8s (hdI s 0) := rfl
  have hg : (w.alloc (.cells (((u8s zero64).set 0 (.int .u8 73)).set 63 (.int .u8 90)).toArray 5)).heap[w.heap.size]? = some (.cells (u8s (hdI s 0)).toArray 5 (0, 0)) := by rw [h0]; exact heap_alloc_new w _
  have hB1 : Below w.heap.size w (w.alloc (.cells (((u8s zero64).set 0 (.int .u8 73)).set 63 (.int .u8 90)).toArray 5)) := (Below.refl _ w).alloc (Nat.le_refl _) _
  have HG := Lib.hid (And.intro hg (And.intro hB1 (And.intro hs hn)))
  clear hB1 hg h0 hs hn
  go_enter Try.func39, Try.ntmps39
  go_wp2
  go_loopw [0, 6] (fun z i wr => ∃ k : Nat, k ≤ 8 ∧ i = .int .i64 (8 - (k : Int)) ∧ z = .int .i64 ((s / 256 ^ k : Nat) : Int) ∧ wr.heap[w.heap.size]? = some (.cells (u8s (hdI s k)).toArray 5 (0, 0)) ∧ Below w.heap.size w wr)
    (fun _ i _ => (intOf i).toNat)
  case atStart => exact ⟨0, by omega, rfl, by simp, HG.out.1, HG.out.2.1⟩
  case round =>
    obtain ⟨k, hk, rfl, rfl, hg, hb⟩ := hrel
    by_cases hk8 : k < 8
    · have hkI : (0 : Int) < 8 - (k : Int) := by omega
      have hkJ : (8 : Int) - (k : Int) < 64 := by omega
      have hkN : ((8 : Int) - (k : Int)).toNat = 8 - k := by omega
      have hk0 : (0 : Int) ≤ 8 - (k : Int) := by omega
      obtain ⟨S, hS⟩ : ∃ S, S = s / 256 ^ k := ⟨_, rfl⟩
      have hS1 : s / 256 ^ (k + 1) = S / 256 := by rw [hS, Nat.pow_succ, Nat.div_div_eq_div_mul]
      have hSl : S ≤ 9223372036854775807 := by rw [hS]; exact Nat.le_trans (Nat.div_le_self _ _) HG.out.2.2.1
      rw [← hS]
      have hm : (S : Int).tmod 256 = ((S % 256 : Nat) : Int) := by rw [Int.tmod_eq_emod_of_nonneg (by omega)]; omega
      have hd : (S : Int).tdiv 256 = ((S / 256 : Nat) : Int) := by rw [Int.tdiv_eq_ediv_of_nonneg (by omega)]; omega
      have hx : ((S % 256 : Nat) : Int) = ((UInt8.ofNat S).toNat : Int) := by rw [mod256]; omega
      obtain ⟨v1, hv1⟩ := row_cell (i := 8 - k) hg (by rw [hdI_len]; omega)
      have zf1 := frozen_of_row wr w.heap.size (8 - k) _ _ hg
      have hg2 := row_set (i := 8 - k) hg (UInt8.ofNat S)
      have hg3 : (wr.setCell ⟨w.heap.size, 8 - k, none⟩ (.int .u8 ((UInt8.ofNat S).toNat : Int))).heap[w.heap.size]? = some (.cells (u8s (hdI s (k + 1))).toArray 5 (0, 0)) := by rw [hdI, ← hS]; exact hg2
      have HX := Lib.hid (And.intro hg3 (And.intro (hb.setCell (p := ⟨w.heap.size, 8 - k, none⟩) (Nat.le_refl _) (.int .u8 ((UInt8.ofNat S).toNat : Int))) (And.intro hx hS1)))
      clear hg hb hg2 hg3 hx hS1 hS
      go_wp2_with go_in
      rw [show (S : Int) % 256 = ((UInt8.ofNat S).toNat : Int) from (mod256 S).symm]
      exact ⟨⟨k + 1, by omega, by simp; omega, by rw [HX.out.2.2.2]; simp, HX.out.1, HX.out.2.1⟩, by simp [intOf]; omega⟩
    · obtain rfl : k = 8 := by omega
      have HY := Lib.hid (And.intro hg hb)
      clear hg hb
      go_wp2
      go_loopw [1, 7] (fun z i wr => ∃ k : Nat, k ≤ 4 ∧ i = .int .i64 (12 - (k : Int)) ∧ z = .int .i64 ((n / 256 ^ k : Nat) : Int) ∧ wr.heap[w.heap.size]? = some (.cells (u8s (hdJ (hdI s 8) n k)).toArray 5 (0, 0)) ∧ Below w.heap.size w wr)
        (fun _ i _ => (intOf i).toNat)
      case atStart => exact ⟨0, by omega, rfl, by simp, HY.out.1, HY.out.2⟩
      case round =>
        obtain ⟨k, hk, rfl, rfl, hg, hb⟩ := hrel
        by_cases hk8 : k < 4
        · have hkI : (8 : Int) < 12 - (k : Int) := by omega
          have hkJ : (12 : Int) - (k : Int) < 64 := by omega
          have hkN : ((12 : Int) - (k : Int)).toNat = 12 - k := by omega
          have hk0 : (0 : Int) ≤ 12 - (k : Int) := by omega
          obtain ⟨S, hS⟩ : ∃ S, S = n / 256 ^ k := ⟨_, rfl⟩
          have hS1 : n / 256 ^ (k + 1) = S / 256 := by rw [hS, Nat.pow_succ, Nat.div_div_eq_div_mul]
          have hSl : S ≤ 9223372036854775807 := by rw [hS]; exact Nat.le_trans (Nat.div_le_self _ _) HG.out.2.2.2
          rw [← hS]
          have hm : (S : Int).tmod 256 = ((S % 256 : Nat) : Int) := by rw [Int.tmod_eq_emod_of_nonneg (by omega)]; omega
          have hd : (S : Int).tdiv 256 = ((S / 256 : Nat) : Int) := by rw [Int.tdiv_eq_ediv_of_nonneg (by omega)]; omega
          have hx : ((S % 256 : Nat) : Int) = ((UInt8.ofNat S).toNat : Int) := by rw [mod256]; omega
          obtain ⟨v1, hv1⟩ := row_cell (i := 12 - k) hg (by rw [hdJ_len _ (hdI_len _ _)]; omega)
          have zf1 := frozen_of_row wr w.heap.size (12 - k) _ _ hg
          have hg2 := row_set (i := 12 - k) hg (UInt8.ofNat S)
          have hg3 : (wr.setCell ⟨w.heap.size, 12 - k, none⟩ (.int .u8 ((UInt8.ofNat S).toNat : Int))).heap[w.heap.size]? = some (.cells (u8s (hdJ (hdI s 8) n (k + 1))).toArray 5 (0, 0)) := by rw [hdJ, ← hS]; exact hg2
          have HX := Lib.hid (And.intro hg3 (And.intro (hb.setCell (p := ⟨w.heap.size, 12 - k, none⟩) (Nat.le_refl _) (.int .u8 ((UInt8.ofNat S).toNat : Int))) (And.intro hx hS1)))
          clear hg hb hg2 hg3 hx hS1 hS
          go_wp2_with go_in
          rw [show (S : Int) % 256 = ((UInt8.ofNat S).toNat : Int) from (mod256 S).symm]
          exact ⟨⟨k + 1, by omega, by simp; omega, by rw [HX.out.2.2.2]; simp, HX.out.1, HX.out.2.1⟩, by simp [intOf]; omega⟩
        · obtain rfl : k = 4 := by omega
          rw [hdI_end] at hg
          have hst : (convert 45 9 (.slice (some ⟨w.heap.size, 0, none⟩) 64 64)).run Try.prog wr = .ok (.string ⟨(headI s n).toArray⟩) wr :=
            strAt (B := wr.heap.size) (fun _ => ⟨w.heap.size, 0, rfl, heap_lt hg, fun j u hu => by rw [cell_of_row _ _ _ _ _ _ hg]; simpa using hu⟩) (by rw [headI_len])
          have HX := Lib.hid hb
          clear hg hb
          go_wp2_with go_in
          go_ret
          exact ⟨rfl, HX.out⟩
end Go.Proofs.Ytnjljalihjkmcaa
/- The document's image: area. -/
namespace Go.Proofs.Ytnjljalihjkmcaa
open Go.RowKit Go.Maps

theorem ahd_big {b : List UInt8} {k : Nat} (room : Nat) (hk : k < 8) (hl : b.length = 64) (h : 18014398509481984 < beV ((b.drop 1).take k)) : ahd room b = none := by
  have h1 := beV_take_le ((b.drop 1).take 8) k
  have h2 : ((b.drop 1).take 8).length = 8 := by simp; omega
  rw [h2, List.take_take, show min k 8 = k by omega] at h1
  have h3 : 256 ^ 1 ≤ 256 ^ (8 - k) := Nat.pow_le_pow_right (by omega) (by omega)
  have h4 : beV ((b.drop 1).take k) * 256 ≤ beV ((b.drop 1).take k) * 256 ^ (8 - k) := Nat.mul_le_mul_left _ (by simpa using h3)
  unfold ahd
  rw [if_neg]
  rintro ⟨_, hx, _⟩
  unfold seqV at hx
  omega
set_option maxRecDepth 100000 in
set_option maxHeartbeats 2000000 in
theorem rarea_any (g : Nat → List UInt8) (N at_ count : Nat) (s0 f0 : Value) (st lf : Int) (A : Option Addr) (c B : Nat) (w : World) (hr : Rd w B A (strs ((List.range N).map g))) (hB : B ≤ w.heap.size) (hg : ∀ i, i < N → (g i).length = 64) (ha : at_ < N) (hN : N ≤ 4096) (hc2 : 2 ≤ count) (hc : count ≤ 4096) (R : Nat) (hR : R = roomI count) :
    Calls Try.prog 86 #[.agg #[s0, .slice A N c, f0, .int .i64 st, .int .i64 lf], .int .i64 (at_ : Int), .int .i64 (count : Int)] w fun e w' => e = .returned (.tuple #[.int .i64 (seqO (ahd R (g at_)) : Int), .int .i64 (sizO (ahd R (g at_)) : Int)]) ∧ Below w.heap.size w w' := by
  have hb0 : Below w.heap.size w (w.alloc (.cells #[s0, .slice A N c, f0, .int .i64 st, .int .i64 lf] 33)) := (Below.refl _ _).alloc (Nat.le_refl _) _
  have hg0 := heap_alloc_new w (.cells #[s0, .slice A N c, f0, .int .i64 st, .int .i64 lf] 33)
  have hr0 := hr.below hb0 hB
  obtain ⟨b, hbe⟩ : ∃ b, b = g at_ := ⟨_, rfl⟩
  have hbl : b.length = 64 := by rw [hbe]; exact hg at_ ha
  obtain ⟨ab, ao, rfl, hab, hcell⟩ := hr0.get (k := at_) (by simp [strs, ha])
  have haI : (at_ : Int) < (N : Int) := by omega
  have hNI : (N : Int) ≤ 4096 := by omega
  have hcI : (count : Int) ≤ 4096 := by omega
  have hcJ : (2 : Int) ≤ (count : Int) := by omega
  have hroom : 64 * ((count : Int) - 1) = (R : Int) := by rw [hR]; unfold roomI; omega
  have hbz : (⟨b.toArray⟩ : ByteArray).size = 64 := by simp [ByteArray.size, hbl]
  have hRl : R ≤ 262144 := by rw [hR]; unfold roomI; omega
  have HH := Lib.hid (And.intro hb0 (And.intro hbl hRl))
  have hstr : (strs ((List.range N).map g))[at_]'(by simp [strs, ha]) = .string ⟨b.toArray⟩ := by rw [hbe]; simp [strs]
  rw [hstr] at hcell
  rw [← hbe]
  have HRM := Lib.hid hroom
  clear hr0 hr hg hbe hstr hR hRl hroom
  go_enter Try.func86, Try.ntmps86
  go_upto_region 1 with (fail)
  generalize w.alloc (.cells #[s0, .slice (some ⟨ab, ao, none⟩) N c, f0, .int .i64 st, .int .i64 lf] 33) = W0 at hb0 hg0 HH hcell ⊢
  have x1 := cell_of_row W0 w.heap.size 1 _ _ _ hg0
  clear hb0 hg0
  go_upto_block 0 with (fail)
  go_cut [9, 11] from 18 to 30 (fun u _ w' => u = .int .i64 (seqV b : Int) ∧ w' = W0 ∧ seqV b ≤ 4611686018427388159)
  case first =>
    go_wp2
    go_loop [9, 11] (fun u i => ∃ k : Nat, k ≤ 8 ∧ i = .int .i64 (1 + (k : Int)) ∧ u = .int .i64 (beV ((b.drop 1).take k) : Int) ∧ beV ((b.drop 1).take k) ≤ 4611686018427388159) (fun _ i => 9 - (intOf i).toNat)
    case atStart => exact ⟨0, by omega, rfl, rfl, by simp [beV]⟩
    case round =>
      obtain ⟨k, hk, rfl, rfl, hle⟩ := hrel
      by_cases hk8 : k < 8
      · have hkI : (1 : Int) + (k : Int) < 9 := by omega
        have hkJ : (0 : Int) ≤ 1 + (k : Int) := by omega
        have hkN : ((1 : Int) + (k : Int)).toNat = 1 + k := by omega
        have hd8 : ((b.drop 1)).length = 63 := by simp; omega
        obtain ⟨x, hx⟩ : ∃ x, x = b[1 + k]'(by omega) := ⟨_, rfl⟩
        have hxb : (⟨b.toArray⟩ : ByteArray)[1 + k]'(by rw [hbz]; omega) = x := by rw [hx]; rfl
        have hsn : beV ((b.drop 1).take (k + 1)) = beV ((b.drop 1).take k) * 256 + x.toNat := by
          rw [take_snoc' _ k (by omega), beV_snoc, hx]
          simp [Nat.add_comm]
        obtain ⟨V, hV⟩ : ∃ V, V = beV ((b.drop 1).take k) := ⟨_, rfl⟩
        rw [← hV] at hsn ⊢
        have hxl : (x.toNat : Int) ≤ 255 := by have := x.toNat_lt; omega
        by_cases hbig : 18014398509481984 < (V : Int)
        · have hno : ahd R b = none := ahd_big R hk8 hbl (by rw [← hV]; omega)
          have HX := Lib.hid hno
          clear hV hsn hx hxb hno
          go_wp2
          go_ret2
          exact ⟨by rw [HX.out]; rfl, HH.out.1⟩
        · have HX := Lib.hid hsn
          have hVl : (V : Int) ≤ 18014398509481984 := by omega
          clear hV hsn hx hbig
          go_wp2
          exact ⟨⟨k + 1, by omega, by simp; omega, by rw [HX.out]; simp, by rw [HX.out]; omega⟩, by simp [intOf]; omega⟩
      · obtain rfl : k = 8 := by omega
        go_wp2
        go_meet
        exact ⟨by simp [seqV], rfl, hle⟩
  case rest =>
    obtain ⟨rfl, rfl, hsl⟩ := hcut
    have hdef : ahd R b = if 1 ≤ seqV b ∧ seqV b ≤ 4611686018427387904 ∧ sizeV b ≤ R ∧ b = headI (seqV b) (sizeV b) then some (seqV b, sizeV b) else none := rfl
    have hszl := sizeV_lt b
    obtain ⟨S, hS⟩ : ∃ S, S = seqV b := ⟨_, rfl⟩
    rw [← hS] at hdef hsl
    rw [← hS]
    clear hS
    have HDF := Lib.hid (And.intro hdef (And.intro hsl hszl))
    clear hdef hsl hszl hcell x1
    go_upto_block 2 with (fail)
    go_cut [10, 12] from 31 to 41 (fun u _ w' => u = .int .i64 (sizeV b : Int) ∧ Below w.heap.size w w')
    case first =>
      go_wp2
      go_loop [10, 12] (fun u i => ∃ k : Nat, k ≤ 4 ∧ i = .int .i64 (9 + (k : Int)) ∧ u = .int .i64 (beV ((b.drop 9).take k) : Int)) (fun _ i => 13 - (intOf i).toNat)
      case atStart => exact ⟨0, by omega, rfl, rfl⟩
      case round =>
        obtain ⟨k, hk, rfl, rfl⟩ := hrel
        by_cases hk4 : k < 4
        · have hkI : (9 : Int) + (k : Int) < 13 := by omega
          have hkJ : (0 : Int) ≤ 9 + (k : Int) := by omega
          have hkN : ((9 : Int) + (k : Int)).toNat = 9 + k := by omega
          have hbl := HH.out.2.1
          have hd8 : ((b.drop 9)).length = 55 := by simp; omega
          obtain ⟨x, hx⟩ : ∃ x, x = b[9 + k]'(by omega) := ⟨_, rfl⟩
          have hxb : (⟨b.toArray⟩ : ByteArray)[9 + k]'(by rw [hbz]; omega) = x := by rw [hx]; rfl
          have hsn : beV ((b.drop 9).take (k + 1)) = beV ((b.drop 9).take k) * 256 + x.toNat := by
            rw [take_snoc' _ k (by omega), beV_snoc, hx]
            simp [Nat.add_comm]
          have hlt : beV ((b.drop 9).take k) < 16777216 := by
            have := beV_lt ((b.drop 9).take k)
            have h2 : ((b.drop 9).take k).length ≤ 3 := by rw [List.length_take]; omega
            have h3 : 256 ^ ((b.drop 9).take k).length ≤ 256 ^ 3 := Nat.pow_le_pow_right (by omega) h2
            omega
          obtain ⟨V, hV⟩ : ∃ V, V = beV ((b.drop 9).take k) := ⟨_, rfl⟩
          rw [← hV] at hsn hlt ⊢
          have hxl : (x.toNat : Int) ≤ 255 := by have := x.toNat_lt; omega
          have hVl : (V : Int) < 16777216 := by omega
          have HX := Lib.hid hsn
          clear hV hsn hx hbl hd8 hlt
          go_wp2
          exact ⟨⟨k + 1, by omega, by simp; omega, by rw [HX.out]; simp⟩, by simp [intOf]; omega⟩
        · obtain rfl : k = 4 := by omega
          go_wp2
          go_meet
          exact ⟨rfl, HH.out.1⟩
    case rest =>
      obtain ⟨rfl, hwc⟩ := hcut
      have HDF2 := HDF.out
      obtain ⟨Y, hY⟩ : ∃ Y, Y = sizeV b := ⟨_, rfl⟩
      rw [← hY] at HDF2
      rw [← hY]
      have HD := Lib.hid HDF2
      have HB := Lib.hid hwc
      have hroom := HRM.out
      clear HDF2 HDF hY hwc
      by_cases hbad : S < 1 ∨ 4611686018427387904 < S ∨ R < Y
      · have hno : ahd R b = none := by rw [HD.out.1, if_neg (fun hh => by omega)]
        have HNO := Lib.hid hno
        have hbad' : (S : Int) < 1 ∨ (¬ (S : Int) < 1 ∧ (4611686018427387904 : Int) < (S : Int)) ∨ (¬ (S : Int) < 1 ∧ ¬ (4611686018427387904 : Int) < (S : Int) ∧ (R : Int) < (Y : Int)) := by omega
        clear hbad hno
        obtain ⟨X, hX⟩ : ∃ X : Int, X = (S : Int) := ⟨_, rfl⟩
        rw [← hX] at hbad' ⊢
        clear hX
        rcases hbad' with h1 | ⟨h1, h2⟩ | ⟨h1, h2, h3⟩
        all_goals
          go_wp2
          go_ret2
          exact ⟨by rw [HNO.out]; rfl, HB.out⟩
      · have hho := rHeadI_any S Y wc (by omega) (by have := HD.out.2.2; omega)
        obtain ⟨X, hX⟩ : ∃ X : Int, X = (S : Int) := ⟨_, rfl⟩
        have h1 : ¬ X < 1 := by omega
        have h2 : ¬ (4611686018427387904 : Int) < X := by omega
        have h3 : ¬ (R : Int) < (Y : Int) := by omega
        have HRG := Lib.hid (show 1 ≤ S ∧ S ≤ 4611686018427387904 ∧ Y ≤ R by omega)
        rw [← hX] at hho ⊢
        have HHO := Lib.hid hho
        have HX := Lib.hid hX
        clear hbad hho hX
        by_cases hbe : b = headI S Y
        · have HHO2 := HHO.out
          rw [← hbe] at HHO2
          have HHO := Lib.hid HHO2
          have hyes : ahd R b = some (S, Y) := by rw [HD.out.1, if_pos ⟨HRG.out.1, HRG.out.2.1, HRG.out.2.2, hbe⟩]
          have HYS := Lib.hid hyes
          clear HHO2 hbe hyes
          go_wp2_with (go_at_call 39; (with_reducible refine HHO.out.mono ?_); rintro e w3 ⟨rfl, hb3⟩; have HB3 := Lib.hid hb3; clear hb3)
          go_ret2
          exact ⟨by rw [HYS.out, HX.out]; rfl, HB.out.trans (lower' HB3.out HB.out.size)⟩
        · have hno : ahd R b = none := by rw [HD.out.1, if_neg (fun hh => hbe hh.2.2.2)]
          have HNO := Lib.hid hno
          have hbq : (b == headI S Y) = false := beq_eq_false_iff_ne.2 hbe
          clear hno
          go_wp2_with (go_at_call 39; (with_reducible refine HHO.out.mono ?_); rintro e w3 ⟨rfl, hb3⟩; have HB3 := Lib.hid hb3; clear hb3)
          go_ret2
          exact ⟨by rw [HNO.out]; rfl, HB.out.trans (lower' HB3.out HB.out.size)⟩
end Go.Proofs.Ytnjljalihjkmcaa
/- The document's image: Counts, Load. -/
namespace Go.Proofs.Ytnjljalihjkmcaa
open Go.RowKit Go.Maps

/-- What Counts answers. -/
def countsR (g : Nat → List UInt8) (first count : Nat) : Nat × Nat × Nat :=
  if seqO (hdA g first count) = 0 ∧ seqO (hdB g first count) = 0 then (0, 0, 0) else (areaC g first count, seqO (hdC g first count), sizO (hdC g first count))
def countsV (x : Nat × Nat × Nat) : Value := .tuple #[.int .i64 (x.1 : Int), .int .i64 (x.2.1 : Int), .int .i64 (x.2.2 : Int)]
theorem resCounts (tmps : Array Value) (v6 v7 v8 : Value) (h6 : tmps.getD 6 undef = v6) (h7 : tmps.getD 7 undef = v7) (h8 : tmps.getD 8 undef = v8) (w : World) :
    (results Try.f69 tmps).run Try.prog w = .ok (.tuple #[v6, v7, v8]) w := by
  subst h6 h7 h8
  simp [results, Try.results69, go_sem]
theorem resLoadR (tmps : Array Value) (v6 v7 v8 : Value) (h6 : tmps.getD 6 undef = v6) (h7 : tmps.getD 7 undef = v7) (h8 : tmps.getD 8 undef = v8) (w : World) :
    (results Try.f38 tmps).run Try.prog w = .ok (.tuple #[v6, v7, v8]) w := by
  subst h6 h7 h8
  simp [results, Try.results38, go_sem]
set_option maxRecDepth 100000 in
set_option maxHeartbeats 2000000 in
theorem rcounts_any (g : Nat → List UInt8) (N first count : Nat) (s0 f0 : Value) (st lf : Int) (A : Option Addr) (c B : Nat) (w : World) (hr : Rd w B A (strs ((List.range N).map g))) (hB : B ≤ w.heap.size) (hg : ∀ i, i < N → (g i).length = 64) (hfit : first + 2 * count ≤ N) (hN : N ≤ 4096) (hc2 : 2 ≤ count) :
    Calls Try.prog 69 #[.agg #[s0, .slice A N c, f0, .int .i64 st, .int .i64 lf], .int .i64 (first : Int), .int .i64 (count : Int)] w fun e w' => e = .returned (countsV (countsR g first count)) ∧ Below w.heap.size w w' := by
  have hb0 : Below w.heap.size w (w.alloc (.cells #[s0, .slice A N c, f0, .int .i64 st, .int .i64 lf] 33)) := (Below.refl _ _).alloc (Nat.le_refl _) _
  have hg0 := heap_alloc_new w (.cells #[s0, .slice A N c, f0, .int .i64 st, .int .i64 lf] 33)
  have har1 := fun (W : World) (hW : Below w.heap.size w W) => rarea_any g N first count s0 f0 st lf A c B W (hr.below hW hB) (Nat.le_trans hB hW.size) hg (by omega) hN hc2 (by omega) _ rfl
  have har2 := fun (W : World) (hW : Below w.heap.size w W) => rarea_any g N (first + count) count s0 f0 st lf A c B W (hr.below hW hB) (Nat.le_trans hB hW.size) hg (by omega) hN hc2 (by omega) _ rfl
  obtain ⟨x, hx⟩ : ∃ x, x = hdA g first count := ⟨_, rfl⟩
  obtain ⟨y, hy⟩ : ∃ y, y = hdB g first count := ⟨_, rfl⟩
  have ex : ahd (roomI count) (g first) = x := hx.symm
  have ey : ahd (roomI count) (g (first + count)) = y := hy.symm
  rw [ex] at har1
  rw [ey, Int.natCast_add] at har2
  obtain ⟨P, hP⟩ : ∃ P, P = seqO x := ⟨_, rfl⟩
  obtain ⟨Q, hQ⟩ : ∃ Q, Q = seqO y := ⟨_, rfl⟩
  obtain ⟨p, hp⟩ : ∃ p, p = sizO x := ⟨_, rfl⟩
  obtain ⟨q, hq⟩ : ∃ q, q = sizO y := ⟨_, rfl⟩
  have hres : countsR g first count = if P = 0 ∧ Q = 0 then (0, 0, 0) else if Q ≤ P then (first, P, p) else (first + count, Q, q) := by
    unfold countsR areaC hdC
    rw [← hx, ← hy, ← hP, ← hQ]
    by_cases h0 : P = 0 ∧ Q = 0
    · rw [if_pos h0, if_pos h0]
    · rw [if_neg h0, if_neg h0]
      by_cases h1 : Q ≤ P
      · have hpk : pick x y = true := by unfold pick; rw [← hP, ← hQ]; exact decide_eq_true ⟨by omega, h1⟩
        rw [if_pos h1]; simp [hpk, ← hP, ← hp]
      · have hpk : pick x y = false := by unfold pick; rw [← hP, ← hQ]; exact decide_eq_false (fun h => h1 h.2)
        rw [if_neg h1]; simp [hpk, ← hQ, ← hq]
  rw [← hP, ← hp] at har1
  rw [← hQ, ← hq] at har2
  have HA1 := Lib.hid har1
  have HA2 := Lib.hid har2
  have HRS := Lib.hid hres
  have hfI : (first : Int) + (count : Int) ≤ 4096 := by omega
  have hf0 : (0 : Int) ≤ (first : Int) := by omega
  clear har1 har2 hres hx hy ex ey hP hQ hp hq hr hg hfit hB
  go_enter Try.func69, Try.ntmps69
  go_upto_region 1 with (fail)
  generalize w.alloc (.cells #[s0, .slice A N c, f0, .int .i64 st, .int .i64 lf] 33) = W0 at hb0 hg0 ⊢
  have x0 := cell_of_row W0 w.heap.size 0 _ _ _ hg0
  have x1 := cell_of_row W0 w.heap.size 1 _ _ _ hg0
  have x2 := cell_of_row W0 w.heap.size 2 _ _ _ hg0
  have x3 := cell_of_row W0 w.heap.size 3 _ _ _ hg0
  have x4 := cell_of_row W0 w.heap.size 4 _ _ _ hg0
  have HB := Lib.hid (And.intro hb0 hg0)
  clear hb0 hg0
  go_upto_region 2 with (go_at_call 86; (with_reducible refine (HA1.out _ HB.out.1).mono ?_); rintro e w1 ⟨rfl, hb1⟩)
  have hg1 := (hb1.block w.heap.size (heap_lt HB.out.2)).trans HB.out.2
  have hw1 : Below w.heap.size w w1 := HB.out.1.trans (lower' hb1 HB.out.1.size)
  clear x0 x1 x2 x3 x4
  have x0 := cell_of_row w1 w.heap.size 0 _ _ _ hg1
  have x1 := cell_of_row w1 w.heap.size 1 _ _ _ hg1
  have x2 := cell_of_row w1 w.heap.size 2 _ _ _ hg1
  have x3 := cell_of_row w1 w.heap.size 3 _ _ _ hg1
  have x4 := cell_of_row w1 w.heap.size 4 _ _ _ hg1
  have H1 := Lib.hid hw1
  clear hg1 hw1 hb1
  by_cases h0 : P = 0
  · by_cases h1 : Q = 0
    · subst h0 h1
      go_wp2_with (go_at_call 86; (with_reducible refine (HA2.out _ H1.out).mono ?_); rintro e w2 ⟨rfl, hb2⟩; have HB2 := Lib.hid hb2; clear hb2)
      exact bodyPost_ret (resCounts _ _ _ _ rfl rfl rfl _) rfl ⟨by rw [HRS.out]; rfl, H1.out.trans (lower' HB2.out H1.out.size)⟩
    · have e : countsR g first count = (first + count, Q, q) := by rw [HRS.out, if_neg (fun h => h1 h.2), if_neg (by omega)]
      subst h0
      have HE := Lib.hid e
      have hQI : ¬ (Q : Int) = 0 := by omega
      have hQb : ((Q : Int) == 0) = false := by rw [beq_eq_false_iff_ne]; exact hQI
      have hQ2 : ¬ (Q : Int) ≤ 0 := by omega
      clear e h1
      go_wp2_with (go_at_call 86; (with_reducible refine (HA2.out _ H1.out).mono ?_); rintro e w2 ⟨rfl, hb2⟩; have HB2 := Lib.hid hb2; clear hb2)
      exact bodyPost_ret (resCounts _ _ _ _ rfl rfl rfl _) rfl ⟨by rw [HE.out]; simp [countsV], H1.out.trans (lower' HB2.out H1.out.size)⟩
  · have hPI : ¬ (P : Int) = 0 := by omega
    have hPb : ((P : Int) == 0) = false := by rw [beq_eq_false_iff_ne]; exact hPI
    by_cases h2 : Q ≤ P
    · have e : countsR g first count = (first, P, p) := by rw [HRS.out, if_neg (fun h => h0 h.1), if_pos h2]
      have HE := Lib.hid e
      have h2I : (Q : Int) ≤ (P : Int) := by omega
      clear e h0 h2
      go_wp2_with (go_at_call 86; (with_reducible refine (HA2.out _ H1.out).mono ?_); rintro e w2 ⟨rfl, hb2⟩; have HB2 := Lib.hid hb2; clear hb2)
      exact bodyPost_ret (resCounts _ _ _ _ rfl rfl rfl _) rfl ⟨by rw [HE.out]; simp [countsV], H1.out.trans (lower' HB2.out H1.out.size)⟩
    · have e : countsR g first count = (first + count, Q, q) := by rw [HRS.out, if_neg (fun h => h0 h.1), if_neg h2]
      have HE := Lib.hid e
      have h2I : ¬ (Q : Int) ≤ (P : Int) := by omega
      clear e h0 h2
      go_wp2_with (go_at_call 86; (with_reducible refine (HA2.out _ H1.out).mono ?_); rintro e w2 ⟨rfl, hb2⟩; have HB2 := Lib.hid hb2; clear hb2)
      exact bodyPost_ret (resCounts _ _ _ _ rfl rfl rfl _) rfl ⟨by rw [HE.out]; simp [countsV], H1.out.trans (lower' HB2.out H1.out.size)⟩
theorem hdC_some' {g : Nat → List UInt8} {first count s n : Nat} (h : hdC g first count = some (s, n)) : 1 ≤ s ∧ s ≤ 4611686018427387904 ∧ n ≤ roomI count := by
  unfold hdC at h
  split at h
  · exact ⟨(ahd_some h).1, (ahd_some h).2.1, (ahd_some h).2.2.1⟩
  · exact ⟨(ahd_some h).1, (ahd_some h).2.1, (ahd_some h).2.2.1⟩
/-- What Load answers. -/
def loadV : Option (Nat × List UInt8) → Value
  | none => .tuple #[.int .i64 0, .string ⟨#[]⟩, .bool false]
  | some (s, d) => .tuple #[.int .i64 (s : Int), .string ⟨d.toArray⟩, .bool true]
theorem counts_none {g : Nat → List UInt8} {first count : Nat} (h : hdC g first count = none) : (countsR g first count).2.1 = 0 := by
  unfold countsR
  split
  · rfl
  · rw [h]; rfl
theorem counts_some {g : Nat → List UInt8} {first count s n : Nat} (h : hdC g first count = some (s, n)) : countsR g first count = (areaC g first count, s, n) := by
  have h1 := (hdC_some' h)
  unfold countsR
  rw [if_neg, h]
  · rfl
  · rintro ⟨h2, h3⟩
    unfold hdC at h
    split at h
    · rw [h] at h2; change s = 0 at h2; omega
    · rw [h] at h3; change s = 0 at h3; omega
set_option maxRecDepth 100000 in
set_option maxHeartbeats 2000000 in
theorem rload_any (g : Nat → List UInt8) (N first count : Nat) (s0 f0 : Value) (st lf : Int) (A : Option Addr) (c B : Nat) (w : World) (hr : Rd w B A (strs ((List.range N).map g))) (hB : B ≤ w.heap.size) (hg : ∀ i, i < N → (g i).length = 64) (hfit : first + 2 * count ≤ N) (hN : N ≤ 4096) (hc2 : 2 ≤ count) :
    Calls Try.prog 38 #[.agg #[s0, .slice A N c, f0, .int .i64 st, .int .i64 lf], .int .i64 (first : Int), .int .i64 (count : Int)] w fun e w' => e = .returned (loadV (imgOf g first count)) ∧ Below w.heap.size w w' := by
  have hb0 : Below w.heap.size w (w.alloc (.cells #[s0, .slice A N c, f0, .int .i64 st, .int .i64 lf] 33)) := (Below.refl _ _).alloc (Nat.le_refl _) _
  have hg0 := heap_alloc_new w (.cells #[s0, .slice A N c, f0, .int .i64 st, .int .i64 lf] 33)
  have hct := fun (W : World) (hW : Below w.heap.size w W) => rcounts_any g N first count s0 f0 st lf A c B W (hr.below hW hB) (Nat.le_trans hB hW.size) hg hfit hN hc2
  have hal : areaC g first count ≤ first + count := by unfold areaC; split <;> omega
  obtain ⟨X, hX⟩ : ∃ X, X = hdC g first count := ⟨_, rfl⟩
  have himg : imgOf g first count = imgAt g (areaC g first count) X := by rw [hX]; rfl
  have HR := Lib.hid (And.intro hr (And.intro hB hg))
  rw [himg]
  cases hXc : X with
  | none =>
    have hz : (countsR g first count).2.1 = 0 := counts_none (hX ▸ hXc)
    obtain ⟨K, hK⟩ : ∃ K, K = countsR g first count := ⟨_, rfl⟩
    rw [← hK] at hz hct
    unfold countsV at hct
    rw [hz] at hct
    obtain ⟨k1, hk1⟩ : ∃ k : Int, k = (K.1 : Int) := ⟨_, rfl⟩
    obtain ⟨k2, hk2⟩ : ∃ k : Int, k = (K.2.2 : Int) := ⟨_, rfl⟩
    rw [← hk1, ← hk2] at hct
    have HC := Lib.hid hct
    have HV := Lib.hid (show loadV (imgAt g (areaC g first count) none) = .tuple #[.int .i64 0, .string ⟨#[]⟩, .bool false] from rfl)
    clear hct hz hK hk1 hk2 himg hX hXc hr hg
    go_enter Try.func38, Try.ntmps38
    go_upto_region 1 with (fail)
    generalize w.alloc (.cells #[s0, .slice A N c, f0, .int .i64 st, .int .i64 lf] 33) = W0 at hb0 hg0 ⊢
    have x0 := cell_of_row W0 w.heap.size 0 _ _ _ hg0
    have x1 := cell_of_row W0 w.heap.size 1 _ _ _ hg0
    have x2 := cell_of_row W0 w.heap.size 2 _ _ _ hg0
    have x3 := cell_of_row W0 w.heap.size 3 _ _ _ hg0
    have x4 := cell_of_row W0 w.heap.size 4 _ _ _ hg0
    have HB := Lib.hid (And.intro hb0 hg0)
    clear hb0 hg0
    go_wp2_with (go_at_call 69; (with_reducible refine (HC.out _ HB.out.1).mono ?_); rintro e w1 ⟨rfl, hb1⟩; have HB1 := Lib.hid hb1; clear hb1)
    exact bodyPost_ret (resLoadR _ _ _ _ rfl rfl rfl _) rfl ⟨by rw [HV.out]; rfl, HB.out.1.trans (lower' HB1.out HB.out.1.size)⟩
  | some z =>
    obtain ⟨s, n⟩ := z
    have hcs := counts_some (hX ▸ hXc : hdC g first count = some (s, n))
    obtain ⟨hs1, hs2, hn⟩ := hdC_some' (hX ▸ hXc : hdC g first count = some (s, n))
    rw [hcs] at hct
    unfold countsV at hct
    obtain ⟨C, hC⟩ : ∃ C, C = areaC g first count := ⟨_, rfl⟩
    rw [← hC] at hct hal
    rw [← hC]
    have hroom : roomI count ≤ 262144 := by unfold roomI; omega
    have hsn : secs n < count := secs_room hn hc2
    have HC := Lib.hid hct
    have hs0 : ((s : Int) == 0) = false := by rw [beq_eq_false_iff_ne]; omega
    have hs0' : ¬ (s : Int) = 0 := by omega
    have HS := Lib.hid (And.intro hsn (And.intro hal hfit))
    have hnI : (n : Int) ≤ 262144 := by omega
    have hCI : (C : Int) + (secs n : Int) < (N : Int) := by omega
    have hNI : (N : Int) ≤ 4096 := by omega
    have hsnI : (secs n : Int) ≤ 4096 := by omega
    clear hct hcs himg hX hXc hr hg hs1 hs2 hn hsn hal hC hroom hfit
    go_enter Try.func38, Try.ntmps38
    go_upto_region 1 with (fail)
    generalize w.alloc (.cells #[s0, .slice A N c, f0, .int .i64 st, .int .i64 lf] 33) = W0 at hb0 hg0 ⊢
    have x0 := cell_of_row W0 w.heap.size 0 _ _ _ hg0
    have x1 := cell_of_row W0 w.heap.size 1 _ _ _ hg0
    have x2 := cell_of_row W0 w.heap.size 2 _ _ _ hg0
    have x3 := cell_of_row W0 w.heap.size 3 _ _ _ hg0
    have x4 := cell_of_row W0 w.heap.size 4 _ _ _ hg0
    have HB := Lib.hid (And.intro hb0 hg0)
    clear hb0 hg0
    go_upto_region 2 with (go_at_call 69; (with_reducible refine (HC.out _ HB.out.1).mono ?_); rintro e w1 ⟨rfl, hb1⟩)
    have hg1 := (hb1.block w.heap.size (heap_lt HB.out.2)).trans HB.out.2
    have hw1 : Below w.heap.size w w1 := HB.out.1.trans (lower' hb1 HB.out.1.size)
    have y1 := cell_of_row w1 w.heap.size 1 _ _ _ hg1
    have H1 := Lib.hid (And.intro hw1 (HR.out.1.below hw1 HR.out.2.1))
    clear hg1 hw1 hb1 x0 x1 x2 x3 x4
    go_wp2_with (fail)
    go_loop [9, 12] (fun a u => ∃ k : Nat, k ≤ secs n ∧ a = .int .i64 ((C : Int) + (k : Int)) ∧ u = .string ⟨(cat g (C + 1) k).toArray⟩) (fun a _ => secs n - (intOf a - (C : Int)).toNat)
    case atStart => exact ⟨0, by omega, by simp, rfl⟩
    case round =>
      obtain ⟨k, hk, rfl, rfl⟩ := hrel
      have hcl : (cat g (C + 1) k).length = 64 * k := cat_len (fun i hi => HR.out.2.2 _ (by have := HS.out; omega))
      have hkI : (k : Int) ≤ (secs n : Int) := by omega
      by_cases hkn : k < secs n
      · have hlt : ((cat g (C + 1) k).length : Int) < (n : Int) := by rw [hcl]; unfold secs at hkn; omega
        have hkN : (C : Int) + (k : Int) + 1 < (N : Int) := by omega
        have hk0 : (0 : Int) ≤ (C : Int) + (k : Int) + 1 := by omega
        have hkt : ((C : Int) + (k : Int) + 1).toNat = C + 1 + k := by omega
        obtain ⟨ab2, ao2, rfl, hab2, hc2'⟩ := H1.out.2.get (k := C + 1 + k) (by simp [strs]; omega)
        have hc3 : w1.cell? ⟨ab2, ao2 + (C + 1 + k), none⟩ = some (.string ⟨(g (C + 1 + k)).toArray⟩) := by rw [hc2']; simp [strs]
        have hns : ¬ 9223372036854775807 < (cat g (C + 1) k).length + (g (C + 1 + k)).length := by
          rw [hcl, HR.out.2.2 _ (by have := HS.out; omega)]
          omega
        clear hc2' hab2 hcl
        go_wp2
        exact ⟨⟨k + 1, hkn, by simp; omega, by rw [ba_app, cat_succ]⟩, by simp [intOf]; omega⟩
      · obtain rfl : k = secs n := by omega
        have hlt : ¬ ((cat g (C + 1) (secs n)).length : Int) < (n : Int) := by rw [hcl]; unfold secs; omega
        have hle : (n : Int) ≤ ((cat g (C + 1) (secs n)).length : Int) := by omega
        have hex := ba_take (cat g (C + 1) (secs n)) n
        have HV := Lib.hid (show loadV (imgAt g C (some (s, n))) = .tuple #[.int .i64 (s : Int), .string ⟨((cat g (C + 1) (secs n)).take n).toArray⟩, .bool true] from rfl)
        clear hcl hkn hk
        go_upto_region 8 with (fail)
        go_region
        all_goals
          go_wp2
          exact bodyPost_ret (resLoadR _ _ _ _ rfl rfl rfl _) rfl ⟨by rw [HV.out]; rfl, H1.out.1.drew⟩
end Go.Proofs.Ytnjljalihjkmcaa
/- The document's image: Fits. -/
namespace Go.Proofs.Ytnjljalihjkmcaa
open Go.RowKit Go.Maps

instance (size : Nat) (first count : Int) : Decidable (FitsI size first count) := by unfold FitsI; infer_instance
set_option maxRecDepth 100000 in
set_option maxHeartbeats 1000000 in
theorem rfits_any (size : Nat) (hs : size ≤ 4096) (first count : Int) (h1 : -9223372036854775808 ≤ first ∧ first ≤ 9223372036854775807) (h2 : -9223372036854775808 ≤ count ∧ count ≤ 9223372036854775807) (w : World) :
    Calls Try.prog 34 #[.int .i64 (size : Int), .int .i64 first, .int .i64 count] w fun e w' => e = .returned (.bool (decide (FitsI size first count))) ∧ w = w' := by
  have hsI : (size : Int) ≤ 4096 := by omega
  by_cases c1 : 0 ≤ first
  · by_cases c2 : 2 ≤ count
    · by_cases c3 : first ≤ (size : Int)
      · have hd : ((size : Int) - first).tdiv 2 = ((size : Int) - first) / 2 := Int.tdiv_eq_ediv_of_nonneg (by omega)
        by_cases c4 : count ≤ ((size : Int) - first) / 2
        · have e : decide (FitsI size first count) = true := decide_eq_true (by unfold FitsI; omega)
          have HE := Lib.hid e
          rw [e]
          clear e HE
          go_enter Try.func34, Try.ntmps34
          go_wp2_with (fail)
          go_ret
          exact ⟨rfl, rfl⟩
        · have e : decide (FitsI size first count) = false := decide_eq_false (by unfold FitsI; omega)
          rw [e]
          clear e
          go_enter Try.func34, Try.ntmps34
          go_wp2_with (fail)
          go_ret
          exact ⟨rfl, rfl⟩
      · have e : decide (FitsI size first count) = false := decide_eq_false (by unfold FitsI; omega)
        rw [e]
        clear e
        go_enter Try.func34, Try.ntmps34
        go_wp2_with (fail)
        go_ret
        exact ⟨rfl, rfl⟩
    · have e : decide (FitsI size first count) = false := decide_eq_false (by unfold FitsI; omega)
      rw [e]
      clear e
      go_enter Try.func34, Try.ntmps34
      go_wp2_with (fail)
      go_ret
      exact ⟨rfl, rfl⟩
  · have e : decide (FitsI size first count) = false := decide_eq_false (by unfold FitsI; omega)
    rw [e]
    clear e
    go_enter Try.func34, Try.ntmps34
    go_wp2_with (fail)
    go_ret
    exact ⟨rfl, rfl⟩
end Go.Proofs.Ytnjljalihjkmcaa
/- The law's Tells. -/
namespace Go.Proofs.Ytnjljalihjkmcaa
open Go.RowKit Go.Maps

/-- A disk, and the document's of the same. -/
structure Both (w : World) (p bs bw T : Nat) (M : DM) (v : Value) : Prop where
  disk : DiskM w p bs bw M T
  ref : RefV w [p, bs, bw] (refOf M) v
  ok : M.Ok T
theorem Both.below {w w' : World} {p bs bw T : Nat} {M : DM} {v : Value} (h : Both w p bs bw T M v) (hb : Below w.heap.size w w') : Both w' p bs bw T M v := ⟨h.disk.kept hb, h.ref.below hb, h.ok⟩
theorem ints_map (L : List Nat) : (L.map fun (i : Nat) => Value.int .i64 (i : Int)) = ints L := rfl

set_option maxRecDepth 100000 in
set_option maxHeartbeats 4000000 in
theorem tells_any (w : World) (p bs bw T : Nat) (M : DM) (v : Value) (h : Both w p bs bw T M v) :
    Calls Try.prog 27 #[.pointer (some ⟨p, 0, none⟩), v] w fun e w' => e = .returned (.bool true) ∧ Below w.heap.size w w' := by
  have hh := h
  obtain ⟨hD, ⟨A1, A2, A3, c1, c2, c3, rfl, h1, h2, h3⟩, hk⟩ := h
  have hl1 : (refOf M).sure.length = M.size := by simp [refOf]
  have hl2 : (refOf M).now.length = M.size := by simp [refOf]
  have hl3 : (refOf M).fresh.length = M.size := by simp [refOf]
  have hst : (refOf M).steps = (M.steps : Int) := rfl
  rw [hl1, hl2, hl3, hst] at hh ⊢
  have hb0 : Below w.heap.size w (w.alloc (.cells #[.slice A1 M.size c1, .slice A2 M.size c2, .slice A3 M.size c3, .int .i64 (M.steps : Int), .int .i64 (refOf M).left] 33)) := (Below.refl _ _).alloc (Nat.le_refl _) _
  have g0 := heap_alloc_new w (.cells #[.slice A1 M.size c1, .slice A2 M.size c2, .slice A3 M.size c3, .int .i64 (M.steps : Int), .int .i64 (refOf M).left] 33)
  have s0 := alloc1_size w (.cells #[.slice A1 M.size c1, .slice A2 M.size c2, .slice A3 M.size c3, .int .i64 (M.steps : Int), .int .i64 (refOf M).left] 33)
  have hh2 := hh.below hb0
  have HB := Lib.hid (And.intro hb0 s0)
  have HL0 := Lib.hid (And.intro hl1 (And.intro hl2 (And.intro hl3 hst)))
  clear hD h1 h2 h3 hk hh hl1 hl2 hl3 hst
  go_enter Try.func27, Try.ntmps27
  go_upto_region 1 with go_in
  generalize w.alloc (.cells #[.slice A1 M.size c1, .slice A2 M.size c2, .slice A3 M.size c3, .int .i64 (M.steps : Int), .int .i64 (refOf M).left] 33) = W at HB hb0 g0 s0 hh2 ⊢
  obtain ⟨b0, hbe⟩ : ∃ b0, b0 = w.heap.size := ⟨_, rfl⟩
  rw [← hbe] at g0 ⊢
  have hbl : b0 < W.heap.size := by omega
  have HBE := Lib.hid hbe
  clear hbe
  have hKS : ∀ w' : World, Below W.heap.size W w' → (Below W.heap.size W w' ∧ w'.cell? ⟨b0, 0, none⟩ = some (.slice A1 M.size c1) ∧ w'.cell? ⟨b0, 1, none⟩ = some (.slice A2 M.size c2) ∧ w'.cell? ⟨b0, 2, none⟩ = some (.slice A3 M.size c3) ∧ w'.cell? ⟨b0, 3, none⟩ = some (.int .i64 (M.steps : Int)) ∧ w'.cell? ⟨b0, 4, none⟩ = some (.int .i64 (refOf M).left)) := fun w' hb =>
    have hg := (hb.block b0 hbl).trans g0
    ⟨hb, cell_of_row w' b0 0 _ _ _ hg, cell_of_row w' b0 1 _ _ _ hg, cell_of_row w' b0 2 _ _ _ hg, cell_of_row w' b0 3 _ _ _ hg, cell_of_row w' b0 4 _ _ _ hg⟩
  have KS := Lib.hid hKS
  have hT : T ≤ 1000000000 := hh2.ok.T
  have hz : M.size ≤ 4096 := hh2.ok.size
  have hfl : M.fresh.length ≤ 4096 := by
    have : M.fresh.length ≤ M.size := by unfold DM.fresh; exact Nat.le_trans (List.length_filter_le _ _) (by simp)
    omega
  have hus := fun (W' : World) (hb : Below W.heap.size W W') => unsureM (hh2.disk.kept hb) hT
  have hru := fun (W' : World) (hb : Below W.heap.size W W') => runsure_any W' _ (refOf M) _ (hh2.ref.below hb) (by rw [HL0.out.2.2.1]; exact hz)
  rw [refOf_fresh] at hru
  have HUS := Lib.hid hus
  have HRU := Lib.hid hru
  have HT := Lib.hid (And.intro hT (And.intro hz hfl))
  have HH2 := Lib.hid hh2
  have hsz := sizeM (hh2.disk.kept ((Below.refl _ W).drew))
  have hsp := stepsM (hh2.disk.kept ((Below.refl _ W).drew))
  have HSZ := Lib.hid hsz
  have HSP := Lib.hid hsp
  clear hKS hus hru hT hz hfl hh2 hsz hsp g0 hb0
  go_region_held3 (fun w' => Below W.heap.size W w' ∧ w'.cell? ⟨b0, 0, none⟩ = some (.slice A1 M.size c1) ∧ w'.cell? ⟨b0, 1, none⟩ = some (.slice A2 M.size c2) ∧ w'.cell? ⟨b0, 2, none⟩ = some (.slice A3 M.size c3) ∧ w'.cell? ⟨b0, 3, none⟩ = some (.int .i64 (M.steps : Int)) ∧ w'.cell? ⟨b0, 4, none⟩ = some (.int .i64 (refOf M).left))
    (first
      | exact KS.out _ (Below.refl _ _).drew
      | exact KS.out _ hB5
      | exact KS.out _ hB4
      | exact KS.out _ hB3
      | assumption)
    (first
      | (go_at_call 44; (with_reducible refine HSZ.out.mono ?_); rintro e w1 ⟨rfl, rfl⟩)
      | (go_at_call 41; (with_reducible refine HSP.out.mono ?_); rintro e w1 ⟨rfl, rfl⟩)
      | (go_at_call 62; (with_reducible refine (HUS.out W.drew ((Below.refl _ _).drew)).mono ?_); rintro e w3 ⟨v3, rfl, hrow3, hb3⟩; obtain ⟨Au, cu, rfl, _, _, hu3⟩ := own_shape hrow3; have hB3 : Below W.heap.size W w3 := (Below.refl _ _).drew.trans hb3; clear hrow3)
      | (go_at_call 65; (with_reducible refine (HRU.out w3 hB3).mono ?_); rintro e w4 ⟨v4, rfl, hrow4, hb4⟩; obtain ⟨Ar, cr, rfl, _, _, hr4⟩ := own_shape hrow4; have hB4 : Below W.heap.size W w4 := hB3.trans (lower' hb4 hB3.size); have hu4 := hu3.below hb4 (Nat.le_refl _); clear hrow4)
      | (go_at_call 64; (refine (ints_same w4 Au Ar M.fresh cu cr _ _ hu4 hr4 hb4.size (Nat.le_refl _) HT.out.2.2).mono ?_); rintro e w5 ⟨rfl, hb5⟩; have hB5 : Below W.heap.size W w5 := hB4.trans (lower' hb5 hB4.size)))
  have hS5 := KS.out _ hB5
  have HB5 := Lib.hid hB5
  clear hB3 hB4 hB5 hu3 hr4 hu4 hb3 hb4 hb5
  go_wp2_with go_in
  go_loopw [5, 6, 7, 32] (fun _ _ _ i wr => ∃ k : Nat, k ≤ M.size ∧ i = .int .i64 (k : Int) ∧ Below w5.heap.size w5 wr)
    (fun _ _ _ i _ => M.size - (intOf i).toNat)
  case atStart => exact ⟨0, by omega, rfl, Below.refl _ _⟩
  case round =>
    obtain ⟨k, hk, rfl, hb⟩ := hrel
    have hB6 : Below W.heap.size W wr := HB5.out.trans (lower' hb HB5.out.size)
    have hkb : (k : Int) ≤ 4096 := by have := HT.out.2.1; omega
    by_cases hkl : k < M.size
    · have hkI : (k : Int) < (M.size : Int) := by omega
      have hRC := readC (i := k) (HH2.out.disk.kept hB6) HT.out.2.1 hkl
      have HRC := Lib.hid hRC
      obtain ⟨a1, a2, a3, d1, d2, d3, he, _, hs2, _⟩ := HH2.out.ref
      have ea : A2 = a2 := by
        have h3 := congrArg (fun v : Value => match v with | .agg cs => cs.getD 1 undef | _ => undef) he
        simp only [Array.getD] at h3
        simp at h3
        exact h3.1
      subst ea
      obtain ⟨p2, o2, rfl, hp2, hq2⟩ := hs2.1.get (k := k) (by rw [strs_len, refOf_len]; exact hkl)
      have hno : ∀ w' : World, Below W.heap.size W w' → w'.cell? ⟨p2, o2 + k, none⟩ = some (.string ⟨(M.get k).toArray⟩) := by
        intro w' hw'
        have e1 : (strs (refOf M).now)[k]'(by rw [strs_len, refOf_len]; exact hkl) = .string ⟨(M.get k).toArray⟩ := by simp [strs, refOf]
        rw [← e1, ← hq2]
        exact hw'.cell (p := ⟨p2, o2 + k, none⟩) hp2
      have HNO := Lib.hid hno
      have HX := Lib.hid (And.intro hb hkl)
      clear hRC he hs2 hp2 hq2 hno hb hkl
      go_upto_region 7 with (first
        | (go_at_call 40; (with_reducible refine HRC.out.mono ?_); rintro e w6 ⟨gb, rfl, hgb1, hgb2, hrb, hlb, hb6⟩)
        | go_in)
      have hB7 : Below W.heap.size W w6 := hB6.trans (lower' hb6 hB6.size)
      have q1 := fun n => strAt (n := 64) (c := 64) (hrb.drewN n) hlb.symm
      have c1 := HNO.out w6 hB7
      have c2 := (KS.out _ hB7).2.2.1
      have hb56 : Below w5.heap.size w5 w6 := HX.out.1.trans (lower' hb6 HX.out.1.size)
      have HY := Lib.hid hb56
      clear hrb hb6 hb56
      go_quiet (fail)
      go_wp2_with go_in
      exact ⟨⟨k + 1, HX.out.2, by simp, Below.drewN' HY.out _⟩, by simp [intOf]; have := HX.out.2; omega⟩
    · obtain rfl : k = M.size := by omega
      have HX := Lib.hid hB6
      clear hB6 hb
      go_wp2_with go_in
      go_ret
      exact ⟨rfl, HB.out.1.trans (lower' HX.out (by rw [HB.out.2]; omega))⟩
end Go.Proofs.Ytnjljalihjkmcaa
/- The document's disk in a block beside a disk: other blocks, off a block, facts on a write. -/
namespace Go.Proofs.Ytnjljalihjkmcaa
open Go.RowKit Go.Maps

theorem Sl.ext {w : World} {X Y : List Nat} {A : Option Addr} {xs : List Value} (h : Sl w X A xs) (hn : xs ≠ []) (hY : ∀ y ∈ Y, w.heap.size ≤ y) : Sl w (X ++ Y) A xs := by
  obtain ⟨b, o, e, hlt, hc⟩ := h.1 hn
  refine ⟨h.1, fun a ha hx => ?_⟩
  rcases List.mem_append.1 hx with hx | hx
  · exact h.2 a ha hx
  · rw [e] at ha; cases ha
    exact absurd (hY _ hx) (by show ¬ (w.heap.size ≤ b); omega)
theorem RefV.ext {w : World} {X Y : List Nat} {M : DM} {v : Value} (h : RefV w X (refOf M) v) (hp : 0 < M.size) (hY : ∀ y ∈ Y, w.heap.size ≤ y) : RefV w (X ++ Y) (refOf M) v := by
  obtain ⟨A1, A2, A3, c1, c2, c3, rfl, h1, h2, h3⟩ := h
  have ne : ∀ {α : Type} (f : Nat → α), (List.range M.size).map f ≠ [] := fun f e => by have := congrArg List.length e; simp at this; omega
  exact ⟨A1, A2, A3, c1, c2, c3, rfl, h1.ext (by simp only [strs, refOf, List.map_map]; exact ne _) hY, h2.ext (by simp only [strs, refOf, List.map_map]; exact ne _) hY, h3.ext (by simp only [bools, refOf, List.map_map]; exact ne _) hY⟩
theorem RefV.sub {w : World} {X Y : List Nat} {R : RD} {v : Value} (h : RefV w X R v) (hY : ∀ y ∈ Y, y ∈ X) : RefV w Y R v := by
  obtain ⟨A1, A2, A3, c1, c2, c3, rfl, h1, h2, h3⟩ := h
  exact ⟨A1, A2, A3, c1, c2, c3, rfl, h1.sub hY, h2.sub hY, h3.sub hY⟩
theorem write_facts (M : DM) (i : Int) (l : List UInt8) : (M.writeM i l).size = M.size ∧ (M.writeM i l).steps ≤ M.steps + 1 ∧ (M.writeM i l).left ≤ M.left := by
  unfold DM.writeM
  split
  · exact ⟨rfl, by omega, Nat.le_refl _⟩
  · split
    · exact ⟨rfl, by omega, Nat.le_refl _⟩
    · exact ⟨rfl, Nat.le_refl _, by show (if M.armed then M.left - 1 else M.left) ≤ M.left; split <;> omega⟩
theorem Sl.off {w : World} {X : List Nat} {A : Option Addr} {xs : List Value} {b : Nat} {cs : Array Value} {t : TypeId} {fr : Nat × Nat} (h : Sl w X A xs) (hn : xs ≠ []) (hb : w.heap[b]? = some (.cells cs t fr)) (hx : ∀ x ∈ xs, x ∉ cs) : Sl w (b :: X) A xs := by
  refine ⟨h.1, fun a ha hm => ?_⟩
  rcases List.mem_cons.1 hm with e | e
  · obtain ⟨b', o, e', _, hc⟩ := h.1 hn
    rw [e'] at ha; cases ha
    change b' = b at e
    subst e
    obtain ⟨x, r, hxr⟩ := List.exists_cons_of_ne_nil hn
    have := hc 0 x (by rw [hxr]; rfl)
    rw [cell_of_row w b' _ _ _ _ hb] at this
    exact hx x (by simp [hxr]) (Array.mem_of_getElem? this)
  · exact h.2 a ha e
section
variable {w w' : World} {b p bs bw B T n1 n2 n3 c1 c2 c3 : Nat} {M : DM} {v : Value} {A1 A2 A3 : Option Addr} {s l : Int} {t : TypeId} {fr : Nat × Nat} {X : List Nat}
theorem RefV.off (h : RefV w X (refOf M) v) (hp : 0 < M.size) (hb : w.heap[b]? = some (.cells #[.slice A1 n1 c1, .slice A2 n2 c2, .slice A3 n3 c3, .int .i64 s, .int .i64 l] t fr)) : RefV w (b :: X) (refOf M) v := by
  obtain ⟨a1, a2, a3, d1, d2, d3, rfl, h1, h2, h3⟩ := h
  have ne : ∀ {α : Type} (f : Nat → α), (List.range M.size).map f ≠ [] := fun f e => by have := congrArg List.length e; simp at this; omega
  have hs : ∀ (L : List (List UInt8)), ∀ x ∈ strs L, x ∉ #[Value.slice A1 n1 c1, .slice A2 n2 c2, .slice A3 n3 c3, .int .i64 s, .int .i64 l] := by
    intro L x hx
    obtain ⟨y, _, rfl⟩ := List.mem_map.1 hx
    simp
  have hbs : ∀ (L : List Bool), ∀ x ∈ bools L, x ∉ #[Value.slice A1 n1 c1, .slice A2 n2 c2, .slice A3 n3 c3, .int .i64 s, .int .i64 l] := by
    intro L x hx
    obtain ⟨y, _, rfl⟩ := List.mem_map.1 hx
    simp
  exact ⟨a1, a2, a3, d1, d2, d3, rfl, h1.off (by simp only [strs, refOf, List.map_map]; exact ne _) hb (hs _), h2.off (by simp only [strs, refOf, List.map_map]; exact ne _) hb (hs _), h3.off (by simp only [bools, refOf, List.map_map]; exact ne _) hb (hbs _)⟩
theorem DiskM.off (h : DiskM w p bs bw M T) (hb : w.heap[b]? = some (.cells #[.slice A1 n1 c1, .slice A2 n2 c2, .slice A3 n3 c3, .int .i64 s, .int .i64 l] t fr)) : p ≠ b ∧ bs ≠ b ∧ bw ≠ b := by
  obtain ⟨D, ⟨h1, _, ns, nw, ⟨es, cl, h2, _⟩, ⟨es2, cl2, h3, _⟩, _⟩, _⟩ := h
  refine ⟨?_, ?_, ?_⟩
  · rintro rfl
    rw [h1] at hb
    unfold DK.cells at hb
    simp at hb
  · rintro rfl
    rw [h2] at hb
    cases hb
  · rintro rfl
    rw [h3] at hb
    cases hb
end
/-- A disk, and beside it in the block bx the document's disk, that stands a write behind or not: M and R. -/
structure BoxD (W0 wr : World) (bx p bs bw N T : Nat) (M R : DM) : Prop where
  box : ∃ A1 A2 A3 n1 n2 n3 c1 c2 c3 s l, wr.heap[bx]? = some (.cells #[.slice A1 n1 c1, .slice A2 n2 c2, .slice A3 n3 c3, .int .i64 s, .int .i64 l] 33 (0, 0)) ∧ RefV wr [bx, p, bs, bw] (refOf R) (.agg #[.slice A1 n1 c1, .slice A2 n2 c2, .slice A3 n3 c3, .int .i64 s, .int .i64 l])
  disk : DiskM wr p bs bw M T
  okM : M.Ok T
  okR : R.Ok T
  sizeM : M.size = N
  sizeR : R.size = N
  stepsM : M.steps ≤ T
  stepsR : R.steps ≤ T
  pos : 0 < N
  off : p ≠ bx ∧ bs ≠ bx ∧ bw ≠ bx
  low : W0.heap.size ≤ p ∧ W0.heap.size ≤ bs ∧ W0.heap.size ≤ bw ∧ W0.heap.size ≤ bx
  below : Below W0.heap.size W0 wr
section
variable {W0 wr w' : World} {bx p bs bw N T : Nat} {M R : DM}
theorem BoxD.lt (h : BoxD W0 wr bx p bs bw N T M R) : bx < wr.heap.size := by
  obtain ⟨_, _, _, _, _, _, _, _, _, _, _, hb, _⟩ := h.box
  exact heap_lt hb
theorem BoxD.kept (h : BoxD W0 wr bx p bs bw N T M R) (hb : Below wr.heap.size wr w') : BoxD W0 w' bx p bs bw N T M R := by
  obtain ⟨A1, A2, A3, n1, n2, n3, c1, c2, c3, s, l, hg, hv⟩ := h.box
  exact ⟨⟨A1, A2, A3, n1, n2, n3, c1, c2, c3, s, l, (hb.block bx (heap_lt hg)).trans hg, hv.below hb⟩, h.disk.kept hb, h.okM, h.okR, h.sizeM, h.sizeR, h.stepsM, h.stepsR, h.pos, h.off, h.low, h.below.trans (lower' hb h.below.size)⟩
theorem BoxD.drew (h : BoxD W0 wr bx p bs bw N T M R) : BoxD W0 wr.drew bx p bs bw N T M R := h.kept (Below.refl _ _).drew
/-- The disk is written. -/
theorem BoxD.wrote (h : BoxD W0 wr bx p bs bw N T M M) {i : Int} {b : List UInt8} (hD : DiskM w' p bs bw (M.writeM i b) (T + 1)) (hf : Fr wr w' [p, bw]) (hT : T ≤ 1000) : BoxD W0 w' bx p bs bw N (T + 1) (M.writeM i b) M := by
  obtain ⟨A1, A2, A3, n1, n2, n3, c1, c2, c3, s, l, hg, hv⟩ := h.box
  obtain ⟨f1, f2, f3⟩ := write_facts M i b
  have ho := h.off
  have h1 := h.okM
  have h2 := h.stepsM
  exact ⟨⟨A1, A2, A3, n1, n2, n3, c1, c2, c3, s, l, (hf.block bx (heap_lt hg) (by simp; omega)).trans hg, hv.fr hf (by simp)⟩, hD, ⟨by rw [f1]; exact h1.size, by omega, Nat.le_trans f3 h1.left, by omega⟩, ⟨h1.size, h1.steps, h1.left, by omega⟩, f1.trans h.sizeM, h.sizeR, by omega, by omega, h.pos, h.off, h.low,
    h.below.trans (hf.below h.below.size (by have := h.low; simp; omega))⟩
/-- The document's disk is written: what its call answers. -/
theorem BoxD.rwrite (h : BoxD W0 wr bx p bs bw N T M R) {v : Value} (hv : RefV wr [bx, p, bs, bw] (refOf R) v) (i : Int) (b : List UInt8) :
    Calls Try.prog 23 #[v, .int .i64 i, .string ⟨b.toArray⟩] wr fun e w' => ∃ B1 B2 B3 m1 m2 m3 d1 d2 d3 s l, e = .returned (.tuple #[.agg #[.slice B1 m1 d1, .slice B2 m2 d2, .slice B3 m3 d3, .int .i64 s, .int .i64 l], .int .i64 (R.writeE i b)]) ∧ RefV w' [bx, p, bs, bw] (refOf (R.writeM i b)) (.agg #[.slice B1 m1 d1, .slice B2 m2 d2, .slice B3 m3 d3, .int .i64 s, .int .i64 l]) ∧ Below wr.heap.size wr w' := by
  have hl := h.disk.lt
  have hx := h.lt
  refine (rwrite_any wr [bx, p, bs, bw] (refOf R) v hv (refOf_ok h.okR) (by simp; omega) i b).mono ?_
  rintro e w' ⟨v', rfl, hR, hb⟩
  rw [(refOf_write R i b).1]
  rw [(refOf_write R i b).2] at hR
  have hR' := hR
  obtain ⟨A1, A2, A3, c1, c2, c3, rfl, _, _, _⟩ := hR'
  exact ⟨_, _, _, _, _, _, _, _, _, _, _, rfl, hR, hb⟩
/-- The answer is stored. -/
theorem BoxD.put (h : BoxD W0 wr bx p bs bw N T M R) (hb : Below wr.heap.size wr w') {B1 B2 B3 : Option Addr} {m1 m2 m3 d1 d2 d3 : Nat} {s l : Int} (hR : RefV w' [bx, p, bs, bw] (refOf M) (.agg #[.slice B1 m1 d1, .slice B2 m2 d2, .slice B3 m3 d3, .int .i64 s, .int .i64 l])) :
    BoxD W0 (((((w'.setCell ⟨bx, 0, none⟩ (.slice B1 m1 d1)).setCell ⟨bx, 1, none⟩ (.slice B2 m2 d2)).setCell ⟨bx, 2, none⟩ (.slice B3 m3 d3)).setCell ⟨bx, 3, none⟩ (.int .i64 s)).setCell ⟨bx, 4, none⟩ (.int .i64 l)) bx p bs bw N T M M := by
  have h7 := h.kept hb
  obtain ⟨A1, A2, A3, n1, n2, n3, c1, c2, c3, s', l', hg, hv⟩ := h7.box
  have hf : Fr w' (((((w'.setCell ⟨bx, 0, none⟩ (.slice B1 m1 d1)).setCell ⟨bx, 1, none⟩ (.slice B2 m2 d2)).setCell ⟨bx, 2, none⟩ (.slice B3 m3 d3)).setCell ⟨bx, 3, none⟩ (.int .i64 s)).setCell ⟨bx, 4, none⟩ (.int .i64 l)) [bx] := (((((Fr.refl _ _).setCell (by simp) _).setCell (by simp) _).setCell (by simp) _).setCell (by simp) _).setCell (by simp) _
  have ho := h.off
  exact ⟨⟨_, _, _, _, _, _, _, _, _, _, _, set5 hg _ _ _ _ _, hR.fr hf (by simp)⟩, h7.disk.fr hf (by simp; omega) (by simp; omega) (by simp; omega), h.okM, h.okM, h.sizeM, h.sizeM, h.stepsM, h.stepsM, h.pos, h.off, h.low, h7.below.trans (hf.below h7.below.size (by have := h.low; simp; omega))⟩
theorem BoxD.both (h : BoxD W0 wr bx p bs bw N T M M) {v : Value} (hv : RefV wr [bx, p, bs, bw] (refOf M) v) : Both wr p bs bw T M v := ⟨h.disk, hv.sub (fun _ hy => List.mem_cons_of_mem _ hy), h.okM⟩
end
end Go.Proofs.Ytnjljalihjkmcaa
/- Rows of three numbers among the arguments, opened. -/
namespace Go.Proofs.Ytnjljalihjkmcaa
open Go.ChangeShapes Go.WideShapes Go.ChangeAt Go.RowKit Go.Deep
set_option maxRecDepth 100000

/-- Three numbers. -/
structure Tri where
  a : Int
  b : Int
  c : Int
instance : Inhabited Tri := ⟨⟨0, 0, 0⟩⟩
def Tri.cells (o : Tri) : List Value := [.int .i64 o.a, .int .i64 o.b, .int .i64 o.c]
def tris (L : List Tri) : List Value := L.flatMap Tri.cells
theorem tris_len (L : List Tri) : (tris L).length = L.length * 3 := by
  induction L with
  | nil => rfl
  | cons a L ih => simp only [tris, List.flatMap_cons, List.length_append] at ih ⊢; rw [ih]; simp [Tri.cells]; omega
theorem tris_get (L : List Tri) : ∀ (i : Nat) (h : i < L.length) (j : Nat), j < 3 → (tris L)[i * 3 + j]? = (L[i].cells)[j]? := by
  induction L with
  | nil => intro i h; exact absurd h (by simp)
  | cons a L ih =>
    intro i h j hj
    cases i with
    | zero =>
      show (a.cells ++ tris L)[0 * 3 + j]? = _
      rw [List.getElem?_append_left (by simp [Tri.cells]; omega)]
      simp
    | succ i =>
      show (a.cells ++ tris L)[(i + 1) * 3 + j]? = _
      rw [List.getElem?_append_right (by simp [Tri.cells]; omega)]
      have : (i + 1) * 3 + j - a.cells.length = i * 3 + j := by simp [Tri.cells]; omega
      rw [this, ih i (by simpa using h) j hj]
      simp
theorem cells_tri : Try.prog.cellsOf 66 = 3 := by kernel_rfl
def Tri.ok (q : Tri) : Prop := (-9223372036854775808 ≤ q.a ∧ q.a ≤ 9223372036854775807) ∧ (-9223372036854775808 ≤ q.b ∧ q.b ≤ 9223372036854775807) ∧ (-9223372036854775808 ≤ q.c ∧ q.c ≤ 9223372036854775807)
theorem trod_arr3 {H : Type} {enc : TypeId × Value → H} {W : World} {fuel : Nat} {c0 c1 c2 : Value} {x : DataW H × List MemPlace} (h : DataW.trod enc Try.prog W 0 (fun _ => true) true fuel 66 [c0, c1, c2] = some x) :
    ∃ y0 y1 y2 n, DataW.trod enc Try.prog W 0 (fun _ => true) true n 3 [c0] = some y0 ∧ DataW.trod enc Try.prog W 0 (fun _ => true) true n 3 [c1] = some y1 ∧ DataW.trod enc Try.prog W 0 (fun _ => true) true n 3 [c2] = some y2 := by
  obtain ⟨xs, m, _, hx, _, hlen, hg⟩ := DataW.trod_array Try.underlying66 h
  match xs, hlen with
  | [y0, y1, y2], _ =>
    have g0 := hg 0 (by omega)
    have g1 := hg 1 (by omega)
    have g2 := hg 2 (by omega)
    rw [show Try.prog.cellsOf 3 = 1 from by kernel_rfl] at g0 g1 g2
    exact ⟨y0, y1, y2, m, by simpa using g0, by simpa using g1, by simpa using g2⟩
theorem open_tris {H : Type} {enc : TypeId × Value → H} {W : World} {base : Nat} {v : Value} {d : DataW H} {p : List MemPlace} (hv : Value.okWide Try.prog W .any base 64 v)
    (h : DataW.Trod enc Try.prog W 0 (fun _ => true) true 64 v d p) :
    ∃ (A : Option Addr) (L : List Tri) (c : Nat), v = .slice A L.length c ∧ Rd W W.heap.size A (tris L) ∧ (∀ o ∈ L, o.ok) := by
  obtain ⟨a0, len0, cap0, rfl⟩ := okWide_slice Try.underlying64 hv
  obtain ⟨fuel, hf⟩ := h
  rcases open_slice Try.underlying64 hf with ⟨hcs, _⟩ | ⟨x, len, cap, m, n, D, Pl, hcs, _, hl, hm, hmm, hx, hel⟩
  · simp [Value.cells] at hcs
    obtain ⟨rfl, rfl, rfl⟩ := hcs
    exact ⟨none, [], 0, rfl, Rd.emp _ _ _, by simp⟩
  · simp [Value.cells] at hcs
    obtain ⟨rfl, rfl, rfl⟩ := hcs
    simp only [if_true] at hmm
    subst hmm
    rw [cells_tri] at hel
    have hel2 : ∀ i, i < len0 → ∃ q : Tri, q.ok ∧ ∀ j u, q.cells[j]? = some u → W.cell? ((x.add (i * 3)).add j) = some u := by
      intro i hi
      obtain ⟨cs', hc, ht⟩ := hel i (by omega)
      obtain ⟨_, hcl, hat⟩ := World.cells?_some hc
      match cs', hcl with
      | [c0, c1, c2], _ =>
        obtain ⟨y0, y1, y2, n', g0, g1, g2⟩ := trod_arr3 ht
        obtain ⟨z0, e0, _, w0⟩ := DataW.trod_int Try.underlying3 g0
        obtain ⟨z1, e1, _, w1⟩ := DataW.trod_int Try.underlying3 g1
        obtain ⟨z2, e2, _, w2⟩ := DataW.trod_int Try.underlying3 g2
        simp only [List.cons.injEq, and_true] at e0 e1 e2
        subst e0 e1 e2
        refine ⟨⟨z0, z1, z2⟩, ⟨fits_num w0, fits_num w1, fits_num w2⟩, fun j u hu => ?_⟩
        have hj : j < 3 := by
          have := (List.getElem?_eq_some_iff.1 hu).1
          simpa [Tri.cells] using this
        rw [hat j hj, ← hu]
        rfl
    obtain ⟨L, hL, hk⟩ := choose_rows len0 hel2
    subst hL
    refine ⟨some x, L, m, rfl, ?_, ?_⟩
    · have hcc : ∀ j u, (tris L)[j]? = some u → W.cell? (x.add j) = some u := by
        intro j u hu
        have hj : j < L.length * 3 := by
          have := (List.getElem?_eq_some_iff.1 hu).1
          rwa [tris_len] at this
        have hd : j = j / 3 * 3 + j % 3 := by omega
        have hk3 : j / 3 < L.length := by omega
        rw [hd, tris_get L (j / 3) hk3 (j % 3) (by omega)] at hu
        have := (hk (j / 3) hk3).2 (j % 3) u hu
        rw [addAdd] at this
        rw [hd]
        exact this
      by_cases hb : x.block < W.heap.size
      · exact Rd.ofAddr hb hcc
      · intro hn
        obtain ⟨y, r, hyr⟩ := List.exists_cons_of_ne_nil hn
        have := hcc 0 y (by rw [hyr]; rfl)
        have h2 := World.block_lt_of_cell? W _ this
        simp [Addr.add] at h2
        omega
    · intro q hq
      obtain ⟨i, hi, rfl⟩ := List.mem_iff_getElem.1 hq
      exact (hk i hi).1
end Go.Proofs.Ytnjljalihjkmcaa
/- Rows of bytes that are made, and five. -/
namespace Go.Proofs.Ytnjljalihjkmcaa
open Go.RowKit Go.Maps

theorem makeBytes (n : Nat) (hn : n ≤ 8192) (w : World) : (Instr.makeSlice 45 (.int .i64 (n : Int)) (.int .i64 (n : Int))).run Try.prog w = .ok (.slice (some ⟨w.heap.size, 0, none⟩) n n) (w.alloc (.cells (u8s (List.replicate n 0)).toArray 5)) := by
  have h := run_make_row' (P := Try.prog) 45 5 (.int .u8 0) 1 Try.underlying45 infoU8 rfl .i64 .i64 n (by omega) (by omega) w
  have e : madeCells #[Value.int .u8 0] n = (u8s (List.replicate n 0)).toArray := by
    apply Array.toList_inj.1
    rw [toList_madeCells_one]
    simp [u8s]
  rw [e] at h
  exact h
theorem make65 (w : World) : (Instr.makeSlice 45 (.int .i64 65) (.int .i64 65)).run Try.prog w = .ok (.slice (some ⟨w.heap.size, 0, none⟩) 65 65) (w.alloc (.cells (u8s (List.replicate 65 0)).toArray 5)) := makeBytes 65 (by omega) w
theorem conv_five (w : World) : (convert 45 45 (.slice (some ⟨w.heap.size, 0, none⟩) 5 5)).run Try.prog (w.alloc (.cells #[.int .u8 102, .int .u8 105, .int .u8 118, .int .u8 101, .int .u8 33] 5)) = .ok (.slice (some ⟨w.heap.size, 0, none⟩) 5 5) (w.alloc (.cells #[.int .u8 102, .int .u8 105, .int .u8 118, .int .u8 101, .int .u8 33] 5 (5, 6))) :=
  Lib.run_convert_bytes_const w 45 5 #[.int .u8 102, .int .u8 105, .int .u8 118, .int .u8 101, .int .u8 33] 5 5 Try.underlying45 Try.underlying5
def five : List UInt8 := [102, 105, 118, 101, 33]
end Go.Proofs.Ytnjljalihjkmcaa
/- An image in memory: Save of a row just made; the layer's awake. -/
namespace Go.Proofs.Ytnjljalihjkmcaa
open Go.RowKit Go.Maps

theorem saveR_facts (M : DM) (first count : Nat) (s : Int) (d : List UInt8) (hc : 2 ≤ count) (hc2 : count ≤ 2048) : (saveR M first count s d).2.size = M.size ∧ (saveR M first count s d).2.steps ≤ M.steps + 5000 ∧ (saveR M first count s d).2.left ≤ M.left := by
  unfold saveR
  split
  · exact ⟨rfl, Nat.le_add_right _ _, Nat.le_refl _⟩
  · split
    · exact ⟨rfl, Nat.le_add_right _ _, Nat.le_refl _⟩
    · split
      · exact ⟨rfl, Nat.le_add_right _ _, Nat.le_refl _⟩
      · rename_i hr
        obtain ⟨h1, h2, h3, _⟩ := runOps_facts (saveOps (areaO M.get first count) s.toNat d) M
        rw [saveOps_len] at h2
        have := secs_room (n := d.length) (Nat.le_of_not_lt hr) hc
        exact ⟨h1, by omega, h3⟩
section
variable {w : World} {q p bs bw T first count : Nat} {M : DM}
theorem ImgD.two (h : ImgD w q p bs bw T first count M) : 2 ≤ count ∧ count ≤ 2048 := by
  have := h.img.two; have := h.fits; have := h.size; omega
theorem ImgD.fr {w' : World} {M' : DM} {T' : Nat} {S : List Nat} (h : ImgD w q p bs bw T first count M) (hf : Fr w w' S) (hq : q ∉ S) (hD : DiskM w' p bs bw M' T') (hs : M'.size = M.size) : ImgD w' q p bs bw T' first count M' :=
  ⟨h.img.fr hf hq, hD, h.ap, by rw [hs]; exact h.fits, by rw [hs]; exact h.size⟩
/-- What Save leaves. -/
def Saved (w w' : World) (q p bs bw T first count : Nat) (M' : DM) : Prop := ImgD w' q p bs bw (T + 5000) first count M' ∧ Fr w w' [p, bs, bw]
theorem saveD (h : ImgD w q p bs bw T first count M) (s : Int) (A : Option Addr) (d : List UInt8) (c B : Nat) (hr : Rd w B A (u8s d)) (hBw : B ≤ w.heap.size) (hB : d ≠ [] → ∀ x, A = some x → x.block ≠ p ∧ x.block ≠ bs ∧ x.block ≠ bw) (hc : d.length ≤ c) (hcm : c ≤ 9223372036854775807) (hfit : Fit M T 5000) :
    Calls Try.prog 35 #[.pointer (some ⟨q, 0, none⟩), .int .i64 s, .slice A d.length c] w fun e w' => e = .returned (.int .i64 (saveR M first count s d).1) ∧ Saved w w' q p bs bw T first count (saveR M first count s d).2 := by
  refine (saveI_any h s A d c B hr hBw hB hc hcm hfit).mono ?_
  rintro e w' ⟨rfl, h1, h2⟩
  exact ⟨rfl, h.fr h2 (by simp; exact h.ap) h1 (saveR_facts M first count s d h.two.1 h.two.2).1, h2⟩
theorem save_new (h : ImgD w q p bs bw T first count M) (s : Int) (d : List UInt8) {n : Nat} (hn : d.length = n) (hm : n ≤ 1000000) (hfit : Fit M T 5000) (fr : Nat × Nat) :
    Calls Try.prog 35 #[.pointer (some ⟨q, 0, none⟩), .int .i64 s, .slice (some ⟨w.heap.size, 0, none⟩) n n] (w.alloc (.cells (u8s d).toArray 5 fr)) fun e w' => e = .returned (.int .i64 (saveR M first count s d).1) ∧ Saved w w' q p bs bw T first count (saveR M first count s d).2 := by
  subst hn
  have hb : Below w.heap.size w (w.alloc (.cells (u8s d).toArray 5 fr)) := (Below.refl _ _).alloc (Nat.le_refl _) _
  have hl := h.disk.lt
  refine (saveD (h.below hb) s (some ⟨w.heap.size, 0, none⟩) d d.length (w.heap.size + 1) (Rd.new w (u8s d).toArray 5 fr) (by simp) (fun _ a ha' => by cases ha'; show w.heap.size ≠ p ∧ w.heap.size ≠ bs ∧ w.heap.size ≠ bw; omega) (Nat.le_refl _) (by omega) hfit).mono ?_
  rintro e w' ⟨rfl, h1, h2⟩
  exact ⟨rfl, h1, (Fr.of_below hb _).trans h2⟩
theorem save_nil (h : ImgD w q p bs bw T first count M) (s : Int) (hfit : Fit M T 5000) :
    Calls Try.prog 35 #[.pointer (some ⟨q, 0, none⟩), .int .i64 s, .slice none 0 0] w fun e w' => e = .returned (.int .i64 (saveR M first count s []).1) ∧ Saved w w' q p bs bw T first count (saveR M first count s []).2 :=
  saveD h s none [] 0 0 (Rd.emp _ _ _) (Nat.zero_le _) (fun h => absurd rfl h) (Nat.le_refl _) (by omega) hfit
/-- An image's place on a disk, opened. -/
theorem openD (hD : DiskM w p bs bw M T) (hz : M.size ≤ 4096) (hf : FitsI M.size (first : Int) (count : Int)) :
    Calls Try.prog 33 #[.pointer (some ⟨p, 0, none⟩), .int .i64 (first : Int), .int .i64 (count : Int)] w fun e w' => ∃ q, e = .returned (.tuple #[.pointer (some ⟨q, 0, none⟩), .int .i64 0]) ∧ w.heap.size ≤ q ∧ ImgD w' q p bs bw T first count M ∧ Below w.heap.size w w' := by
  refine (openI_any hD hz first count hf).mono ?_
  rintro e w' ⟨q, rfl, h1, h2, h3⟩
  have hl := hD.lt
  unfold FitsI at hf
  exact ⟨q, rfl, h1, ⟨h2, hD.kept h3, by omega, by omega, hz⟩, h3⟩
end
def im1 : DM := (saveR (DM.new 8) 0 4 1 five).2
theorem im_facts : (saveR (DM.new 8) 0 4 1 five).1 = 0 ∧ im1.steps = 6 ∧ im1.left = 0 ∧ saveR im1 0 4 1 [] = (2, im1) ∧ saveR im1 0 4 2 (List.replicate 193 0) = (3, im1) ∧ imgOf im1.get 0 4 = some (1, five) := by
  have h1 : seqI (imgOf im1.get 0 4) = 1 := by decide +kernel
  refine ⟨by decide +kernel, by decide +kernel, by decide +kernel, ?_, ?_, by decide +kernel⟩
  · unfold saveR
    rw [h1]
    rfl
  · unfold saveR
    rw [h1, if_neg (by decide), if_neg (by decide), if_pos (by rw [List.length_replicate]; decide)]
theorem make193 (w : World) : (Instr.makeSlice 45 (.int .i64 193) (.int .i64 193)).run Try.prog w = .ok (.slice (some ⟨w.heap.size, 0, none⟩) 193 193) (w.alloc (.cells (u8s (List.replicate 193 0)).toArray 5)) := makeBytes 193 (by omega) w
set_option maxRecDepth 100000 in
set_option maxHeartbeats 2000000 in
theorem imgAwake_any (w : World) : Calls Try.prog 32 #[] w fun e w' => e = .returned (.bool true) ∧ Below w.heap.size w w' := by
  have H1 := Lib.hid (newM 8 w (by omega) (by omega))
  go_enter Try.func32, Try.ntmps32
  go_upto_region 4 with (first
    | (go_at_call 11; (refine H1.out.mono ?_); rintro e w1 ⟨rfl, hD, hF⟩)
    | go_in)
  have HF1 := Lib.hid (hF.below (B := w.heap.size) (Nat.le_refl _) (by simp))
  have HO := Lib.hid (openD (first := 0) (count := 4) hD (by decide) (by unfold FitsI; exact ⟨by decide, by decide, by decide, by decide⟩))
  clear hD hF
  go_upto_region 5 with (first
    | (go_at_call 33; (refine HO.out.mono ?_); rintro e w2 ⟨q, rfl, hq, hI, hb2⟩)
    | go_in)
  have ha := save_new hI 1 five (n := 5) rfl (by omega) ⟨by decide, by decide, by decide, by omega⟩ (5, 6)
  have e1 : (saveR (DM.new 8) 0 4 1 five).1 = 0 := im_facts.1
  rw [e1] at ha
  have HA := Lib.hid ha
  have hsz : im1.size = 8 := (saveR_facts (DM.new 8) 0 4 1 five (by omega) (by omega)).1
  have hfit : ∀ T, T ≤ 20000 → Fit im1 T 5000 := fun T hT => ⟨by rw [hsz]; omega, by rw [im_facts.2.1]; omega, by rw [im_facts.2.2.1]; omega, by omega⟩
  have hs2 := fun (w3 : World) (T : Nat) (hT : T ≤ 20000) (h : ImgD w3 q (w.heap.size + 2) w.heap.size (w.heap.size + 1) T 0 4 im1) => save_nil h 1 (hfit T hT)
  have hs3 := fun (w3 : World) (T : Nat) (hT : T ≤ 20000) (h : ImgD w3 q (w.heap.size + 2) w.heap.size (w.heap.size + 1) T 0 4 im1) => save_new h 2 (List.replicate 193 0) (n := 193) (by rw [List.length_replicate]) (by omega) (hfit T hT) (0, 0)
  rw [im_facts.2.2.2.1] at hs2
  rw [im_facts.2.2.2.2.1] at hs3
  have hl := fun (w3 : World) (T : Nat) (h : ImgD w3 q (w.heap.size + 2) w.heap.size (w.heap.size + 1) T 0 4 im1) => loadI_any h
  rw [im_facts.2.2.2.2.2] at hl
  have HS2 := Lib.hid hs2
  have HS3 := Lib.hid hs3
  have HL := Lib.hid hl
  have HB2 := Lib.hid (And.intro hb2 (And.intro hq HF1.out.size))
  have HMK := Lib.hid make193
  have hcv := conv_five w2
  clear ha hs2 hs3 hl hI hb2 hq e1 hsz hfit
  go_wp2_with (first
    | (go_at_call 35; (refine HA.out.mono ?_); rintro e w3 ⟨rfl, hI3, hf3⟩; clear HA; have hst := stepsM hI3.disk; rw [show (saveR (DM.new 8) 0 4 1 five).2.steps = 6 from im_facts.2.1] at hst; have HST := Lib.hid hst; have hc2 := HS2.out w3 _ (by omega) hI3; have HC2 := Lib.hid hc2; have HI3 := Lib.hid hf3; clear hI3 hf3 hst hc2 HS2)
    | (go_at_call 41; (with_reducible refine HST.out.mono ?_); rintro e w4 ⟨rfl, rfl⟩)
    | (go_at_call 35; (refine HC2.out.mono ?_); rintro e w5 ⟨rfl, hI5, hf5⟩; clear HC2; have hc3 := HS3.out w5 _ (by omega) hI5; have HC3 := Lib.hid hc3; have HF5 := Lib.hid hf5; have hmk := HMK.out w5; clear hI5 hf5 hc3 HS3)
    | (go_at_call 35; (refine HC3.out.mono ?_); rintro e w6 ⟨rfl, hI6, hf6⟩; have hc4 := HL.out w6 _ hI6; have HC4 := Lib.hid hc4; have HF6 := Lib.hid hf6; clear hI6 hf6 hc4 HL)
    | (go_at_call 37; (refine HC4.out.mono ?_); rintro e w7 ⟨A7, c7, rfl, hO7⟩; obtain ⟨A8, c8, e8, ho1, ho2, ho3, ho4, hb7⟩ := hO7; cases e8; have hst7 := strAt (n := five.length) (c := c7) ho2 rfl; have HB7 := Lib.hid hb7; clear ho1 ho2 ho3 ho4 hb7)
    | go_in)
  go_ret
  refine ⟨rfl, ?_⟩
  have z1 := HF1.out.size
  have z2 := HB2.out.1.size
  have z3 := HI3.out.size
  have z5 := HF5.out.size
  have z6 := HF6.out.size
  have hx : ∀ x ∈ [w.heap.size + 2, w.heap.size, w.heap.size + 1], w.heap.size ≤ x := fun x hx => by simp at hx; omega
  exact HF1.out.trans ((lower' HB2.out.1 z1).trans ((HI3.out.below (B := w.heap.size) (by omega) hx).trans ((HF5.out.below (B := w.heap.size) (by omega) hx).trans ((HF6.out.below (B := w.heap.size) (by omega) hx).trans (lower' HB7.out (by omega))))))
end Go.Proofs.Ytnjljalihjkmcaa
/- A struct of three numbers among the arguments, opened. -/
namespace Go.Proofs.Ytnjljalihjkmcaa
open Go.ChangeShapes Go.WideShapes Go.ChangeAt Go.RowKit Go.Deep
set_option maxRecDepth 100000

theorem trod_struct3 {H : Type} {enc : TypeId × Value → H} {P : Program} {w : World} {base : Nat} {spare : Nat → Bool} {held : Bool} {t : TypeId} {f0 f1 f2 : Field} {fuel : Nat} {cs : List Value} {x : DataW H × List MemPlace}
    (ht : P.underlying t = some (.struct #[f0, f1, f2])) (h : DataW.trod enc P w base spare held fuel t cs = some x) :
    ∃ y0 y1 y2 n, x.1 = .agg [y0.1, y1.1, y2.1] ∧ cs.length = P.cellsOf t ∧ DataW.trod enc P w base spare held n f0.type ((cs.drop f0.offset).take (P.cellsOf f0.type)) = some y0 ∧
      DataW.trod enc P w base spare held n f1.type ((cs.drop f1.offset).take (P.cellsOf f1.type)) = some y1 ∧ DataW.trod enc P w base spare held n f2.type ((cs.drop f2.offset).take (P.cellsOf f2.type)) = some y2 := by
  obtain ⟨xs, n, _, rfl, hl, hlen, hf⟩ := DataW.trod_struct ht h
  match xs, hlen with
  | [y0, y1, y2], _ => exact ⟨y0, y1, y2, n, by simp, hl, by simpa using hf 0 f0 rfl, by simpa using hf 1 f1 rfl, by simpa using hf 2 f2 rfl⟩
theorem open_area {H : Type} {enc : TypeId × Value → H} {W : World} {base : Nat} {v : Value} {d : DataW H} {p : List MemPlace} (hv : Value.okWide Try.prog W .any base 23 v)
    (h : DataW.Trod enc Try.prog W 0 (fun _ => true) true 23 v d p) :
    ∃ m n k : Int, v = .agg #[.int .i64 m, .int .i64 n, .int .i64 k] ∧ (-9223372036854775808 ≤ m ∧ m ≤ 9223372036854775807) ∧ (-9223372036854775808 ≤ n ∧ n ≤ 9223372036854775807) ∧ (-9223372036854775808 ≤ k ∧ k ≤ 9223372036854775807) := by
  obtain ⟨cs, rfl, hcs⟩ : ∃ cs : Array Value, v = .agg cs ∧ cs.size = Try.prog.cellsOf 23 := by
    simp only [Value.okWide, Try.underlying23] at hv
    obtain ⟨cs, h1, h2, _⟩ := hv
    exact ⟨cs, h1, h2⟩
  obtain ⟨l⟩ := cs
  have h3 : Try.prog.cellsOf 23 = 3 := by kernel_rfl
  match l, hcs.trans h3 with
  | [c0, c1, c2], _ =>
    obtain ⟨fuel, hf⟩ := h
    obtain ⟨y0, y1, y2, m, _, _, g0, g1, g2⟩ := trod_struct3 Try.underlying23 hf
    have g0' : DataW.trod enc Try.prog W 0 (fun _ => true) true m 3 [c0] = some y0 := by simpa [Value.cells, show Try.prog.cellsOf 3 = 1 from by kernel_rfl] using g0
    have g1' : DataW.trod enc Try.prog W 0 (fun _ => true) true m 3 [c1] = some y1 := by simpa [Value.cells, show Try.prog.cellsOf 3 = 1 from by kernel_rfl] using g1
    have g2' : DataW.trod enc Try.prog W 0 (fun _ => true) true m 3 [c2] = some y2 := by simpa [Value.cells, show Try.prog.cellsOf 3 = 1 from by kernel_rfl] using g2
    obtain ⟨a, e0, _, wa⟩ := DataW.trod_int Try.underlying3 g0'
    obtain ⟨b, e1, _, wb⟩ := DataW.trod_int Try.underlying3 g1'
    obtain ⟨k, e2, _, wc⟩ := DataW.trod_int Try.underlying3 g2'
    simp only [List.cons.injEq, and_true] at e0 e1 e2
    subst e0 e1 e2
    exact ⟨a, b, k, rfl, fits_num wa, fits_num wb, fits_num wc⟩
end Go.Proofs.Ytnjljalihjkmcaa
