/- The library's iterator over the parts of a slice of bytes (slices.Chunk, by 64): its contract. -/
import Derived.RangeFuncNested
import Derived.RangeFuncBound
import Derived.RangeFuncCalls
import Derived.RangeFuncLeaves
import Derived.RangeFuncWrites
import Derived.Shelf.Abstract
import Derived.Shelf.RegionOpen
import Derived.WalkKit
import Derived.OwnWalkIn
import Derived.TacticsInMore
import Derived.LoopNIn
import Derived.LoopIn
import Derived.Lib.Hide
import Derived.Test.YtdjcpjfomgfjlaaProg
namespace Go.Proofs.Ytdjcpjfomgfjlaa
open Go.RowKit Go.Shelf
attribute [local go_sem] Oper.semAt_some

/-- How many parts of 64 bytes n bytes have. -/
def parts (n : Nat) : Nat := (n + 63) / 64
/-- The k-th part of a slice. -/
def partV (A : Option Addr) (n : Nat) (k : Nat) : Value :=
  .slice (A.map fun a => ⟨a.block, a.off + k * 64, none⟩) (min 64 (n - k * 64)) (min 64 (n - k * 64))
/-- The first k parts. -/
def firsts (n : Nat) (k : Nat) : List (Fin (parts n)) := (List.finRange (parts n)).take k
theorem firsts_succ (n k : Nat) (h : k < parts n) : firsts n (k + 1) = firsts n k ++ [⟨k, h⟩] := by
  unfold firsts
  rw [List.take_succ_eq_append_getElem (by simpa using h)]
  simp
theorem firsts_len (n k : Nat) (h : k ≤ parts n) : (firsts n k).length = k := by
  unfold firsts; simp; omega
/-- What a round keeps: the two boxes that the iterator reads. -/
def KpB (Bs Bn : Nat) (W W' : World) : Prop := W'.cell? ⟨Bs, 0, none⟩ = W.cell? ⟨Bs, 0, none⟩ ∧ W'.cell? ⟨Bn, 0, none⟩ = W.cell? ⟨Bn, 0, none⟩
set_option maxRecDepth 100000 in
set_option maxHeartbeats 2000000 in
theorem chunk1_in (F : Fence) (n : Nat) (hF : F.fn 94) (hro : F.round = none) (hn : 1 ≤ n) (l Bs Bn : Nat) (A : Option Addr) (len cap : Nat) (hlen : len ≤ 300000) (hA : 0 < len → ∃ ab ao, A = some ⟨ab, ao, none⟩) (hcap : len ≤ cap) (hcm : cap ≤ 9223372036854775807)
    (J Jx : List (Fin (parts len)) → World → Prop) (BJ : Nat) (hJ : AbidesFrom BJ J)
    (hY : ∀ pre x W, J pre W → pre.length < parts len → YieldAt F (n - 1) Try.prog l #[partV A len x.1] W fun e W' =>
      (e = .returned (.bool true) ∧ J (pre ++ [x]) W' ∧ KpB Bs Bn W W') ∨ (e = .returned (.bool false) ∧ Jx (pre ++ [x]) W'))
    (W : World) (hBs : W.cell? ⟨Bs, 0, none⟩ = some (.slice A len cap)) (hBn : W.cell? ⟨Bn, 0, none⟩ = some (.int .i64 64)) (h0 : J [] W) :
    CallsIn F n Try.prog 94 #[.func (.yield l) #[] #[], .pointer (some ⟨Bs, 0, none⟩), .pointer (some ⟨Bn, 0, none⟩)] W fun e W' => (∃ v, e = .returned v) ∧
      ((∃ ys, ys = List.finRange (parts len) ∧ J ys W') ∨ (∃ pre, (∃ k, k ≤ parts len ∧ pre = firsts len k) ∧ Jx pre W')) := by
  refine callsIn_of_wp Try.func94 rfl hF ?_ hro
  simp only [Try.ntmps94, List.size_toArray, List.length_cons, List.length_nil, Nat.reduceAdd, Nat.reduceSub, Array.replicate_succ, Array.replicate_zero, List.push_toArray, List.append_toArray, List.nil_append, List.cons_append]
  have hlenI : (len : Int) ≤ 300000 := by omega
  gi_wp2
  gi_loopw [4] (fun i wr => ∃ k : Nat, k ≤ parts len ∧ i = .int .i64 ((k : Int) * 64) ∧ J (firsts len k) wr ∧ KpB Bs Bn W wr)
    (fun i _ => parts len * 64 - (intOf i).toNat)
  case atStart => exact ⟨0, Nat.zero_le _, by simp, h0, rfl, rfl⟩
  case round =>
    obtain ⟨k, hk, rfl, hJs, hks, hkn⟩ := hrel
    have c1 := hks.trans hBs
    have c2 := hkn.trans hBn
    by_cases hlt : k < parts len
    · obtain ⟨ab, ao, rfl⟩ := hA (by unfold parts at hlt; omega)
      have hdr : wr.grownBy wr.drew none := ⟨rfl, rfl, rfl, Nat.le_refl _, fun _ _ _ => rfl⟩
      have hJd : J (firsts len k) wr.drew := hJ _ _ _ none hJs hdr (fun r e => by cases e)
      obtain ⟨E, hE⟩ : ∃ E, E = min 64 (len - k * 64) := ⟨_, rfl⟩
      have hpv : partV (some ⟨ab, ao, none⟩) len k = .slice (some ⟨ab, ao + k * 64, none⟩) E E := by rw [hE]; rfl
      obtain ⟨fn, tmps, assign, body, hy, hR⟩ := hY _ ⟨k, hlt⟩ wr.drew hJd (by rw [firsts_len _ _ hk]; exact hlt)
      dsimp only at hy
      rw [hpv] at hy
      have hkI : (k : Int) * 64 < (len : Int) := by unfold parts at hlt; omega
      have hkc : (k : Int) * 64 ≤ (cap : Int) := by omega
      have hcne : ¬ cap = k * 64 := by omega
      have hks64 : ((k : Int) * 64).toNat = k * 64 := by omega
      have hif : (if ((len - k * 64 : Nat) : Int) < 64 then ((len - k * 64 : Nat) : Int) else 64) = (E : Int) := by split <;> omega
      have hE1 : (k : Int) * 64 + (E : Int) ≤ (len : Int) := by omega
      have hEJ : (k : Int) * 64 + (E : Int) ≤ (cap : Int) := by omega
      have hE2 : ((k : Int) * 64 + (E : Int)).toNat = k * 64 + E := by omega
      have hE0 : (0 : Int) ≤ (E : Int) := by omega
      have HK := Lib.hid (And.intro hks hkn)
      have HLT := Lib.hid (show k + 1 ≤ parts len from hlt)
      have HL := Lib.hid (firsts_succ len k hlt)
      clear hE hpv hdr hJd hJs hJ hY hks hkn hBs hBn h0 hA
      gi_wp2
      gi_region
      all_goals
        gi_wp2
        refine hR.mono ?_
        rintro e W3 (⟨rfl, hJ3, hk3⟩ | ⟨rfl, hJx3⟩)
        · have c3 : W3.cell? ⟨Bn, 0, none⟩ = some (.int .i64 64) := hk3.2.trans c2
          gi_wp2
          go_roundw
          case rel => exact ⟨k + 1, by omega, by simp; omega, by rw [HL.out]; exact hJ3, hk3.1.trans HK.out.1, hk3.2.trans HK.out.2⟩
          case measure => simp [intOf]; omega
        · gi_wp2
          refine bodyPost_ret (results_none rfl _ _ _) rfl ?_
          exact ⟨⟨_, rfl⟩, .inr ⟨_, ⟨k + 1, HLT.out, HL.out.symm⟩, hJx3⟩⟩
    · obtain rfl : k = parts len := by omega
      have hkI : ¬ (parts len : Int) * 64 < (len : Int) := by unfold parts; omega
      gi_wp2
      go_end0
      have : firsts len (parts len) = List.finRange (parts len) := by unfold firsts; exact List.take_of_length_le (by simp)
      rw [this] at hJs
      exact ⟨⟨_, rfl⟩, .inl hJs⟩
theorem chunk_stops (F : Fence) (n : Nat) (hF : F.fn 94) (hro : F.round = none) (hn : 1 ≤ n) (Bs Bn : Nat) (A : Option Addr) (len cap : Nat) (hlen : len ≤ 300000) (hA : 0 < len → ∃ ab ao, A = some ⟨ab, ao, none⟩) (hcap : len ≤ cap) (hcm : cap ≤ 9223372036854775807)
    (w : World) (hb1 : Bs < w.heap.size) (hb2 : Bn < w.heap.size) (hBs : w.cell? ⟨Bs, 0, none⟩ = some (.slice A len cap)) (hBn : w.cell? ⟨Bn, 0, none⟩ = some (.int .i64 64)) :
    SeqStopsK F n Try.prog 94 #[.pointer (some ⟨Bs, 0, none⟩), .pointer (some ⟨Bn, 0, none⟩)] (fun x : Fin (parts len) => #[partV A len x.1]) (KpB Bs Bn) (fun ys => ys = List.finRange (parts len)) (fun pre => ∃ k, k ≤ parts len ∧ pre = firsts len k) (parts len) w :=
  fun l J Jx W hW hJ _ hY h0 => chunk1_in F n hF hro hn l Bs Bn A len cap hlen hA hcap hcm J Jx _ hJ hY W ((hW.cell (p := ⟨Bs, 0, none⟩) hb1).trans hBs) ((hW.cell (p := ⟨Bn, 0, none⟩) hb2).trans hBn) h0
set_option maxRecDepth 100000 in
set_option maxHeartbeats 1000000 in
theorem chunk_in (F : Fence) (n : Nat) (hF : F.fn 89) (hro : F.round = none) (A : Option Addr) (len cap : Nat) (w : World) :
    CallsIn F n Try.prog 89 #[.slice A len cap, .int .i64 64] w fun e w' => e = .returned (.func (.func 94) #[] #[.pointer (some ⟨w.heap.size, 0, none⟩), .pointer (some ⟨w.heap.size + 1, 0, none⟩)]) ∧ w' = (w.alloc (.cells #[.slice A len cap] 45)).alloc (.cells #[.int .i64 64] 3) := by
  refine callsIn_of_wp Try.func89 rfl hF ?_ hro
  simp only [Try.ntmps89, List.size_toArray, List.length_cons, List.length_nil, Nat.reduceAdd, Nat.reduceSub, Array.replicate_succ, Array.replicate_zero, List.push_toArray, List.append_toArray, List.nil_append, List.cons_append]
  gi_wp2
  go_ret
  exact ⟨rfl, rfl⟩
end Go.Proofs.Ytdjcpjfomgfjlaa
