/- The library's iterator from a list's end (slices.Backward): its contract; append within a fence. -/
import Derived.RangeFuncNested
import Derived.RangeFuncBound
import Derived.RangeFuncCalls
import Derived.RangeFuncLeaves
import Derived.RangeFuncWrites
import Derived.Shelf.Abstract
import Derived.Shelf.RegionOpen
import Derived.WalkKit
import Derived.OwnWalkIn
import Derived.TacticsInMore
import Derived.LoopNIn
import Derived.LoopIn
import Derived.Lib.Hide
import Derived.Sort.CutIn
import Derived.Sort.QuietIn
import Derived.Test.YtgjjdmkoamjdpaaJnN
namespace Go.Proofs.Ytgjjdmkoamjdpaa
open Go.RowKit Go.Shelf
attribute [local go_sem] Oper.semAt_some

def firstsN (n k : Nat) : List (Fin n) := (List.finRange n).take k
theorem firstsN_succ (n k : Nat) (h : k < n) : firstsN n (k + 1) = firstsN n k ++ [⟨k, h⟩] := by
  unfold firstsN
  rw [List.take_succ_eq_append_getElem (by simpa using h)]
  simp
theorem firstsN_len (n k : Nat) (h : k ≤ n) : (firstsN n k).length = k := by
  unfold firstsN; simp; omega
theorem firstsN_all (n : Nat) : firstsN n n = List.finRange n := by unfold firstsN; exact List.take_of_length_le (by simp)
/-- What is handed on: a place of the list, from its end, and the number there. -/
def backI (L : List Int) (k : Nat) : Int := ((L.length - 1 - k : Nat) : Int)
def backN (L : List Int) (k : Nat) : Int := L.getD (L.length - 1 - k) 0
def backV (L : List Int) (k : Nat) : Array Value := #[.int .i64 (backI L k), .int .i64 (backN L k)]
/-- What a round keeps: the box that the iterator reads, and the list. -/
def KpR (Bs g n : Nat) (W W' : World) : Prop := W'.cell? ⟨Bs, 0, none⟩ = W.cell? ⟨Bs, 0, none⟩ ∧ ∀ j, j < n → W'.cell? ⟨g, j, none⟩ = W.cell? ⟨g, j, none⟩
set_option maxRecDepth 100000 in
set_option maxHeartbeats 2000000 in
theorem back1_in (F : Fence) (n : Nat) (hF : F.fn 60) (hro : F.round = none) (hn : 1 ≤ n) (l Bs g : Nat) (A : Option Addr) (L : List Int) (cap : Nat) (hlen : L.length ≤ 5000) (hA : 0 < L.length → A = some ⟨g, 0, none⟩)
    (J Jx : List (Fin L.length) → World → Prop) (BJ : Nat) (hJ : AbidesFrom BJ J)
    (hY : ∀ pre x W, J pre W → pre.length < L.length → YieldAt F (n - 1) Try.prog l (backV L x.1) W fun e W' =>
      (e = .returned (.bool true) ∧ J (pre ++ [x]) W' ∧ KpR Bs g L.length W W') ∨ (e = .returned (.bool false) ∧ Jx (pre ++ [x]) W'))
    (W : World) (hBs : W.cell? ⟨Bs, 0, none⟩ = some (.slice A L.length cap)) (hL : ∀ j (h : j < L.length), W.cell? ⟨g, j, none⟩ = some (.int .i64 L[j])) (h0 : J [] W) :
    CallsIn F n Try.prog 60 #[.func (.yield l) #[] #[], .pointer (some ⟨Bs, 0, none⟩)] W fun e W' => (∃ v, e = .returned v) ∧
      ((∃ ys, ys = List.finRange L.length ∧ J ys W') ∨ (∃ pre, (∃ k, k ≤ L.length ∧ pre = firstsN L.length k) ∧ Jx pre W')) := by
  refine callsIn_of_wp Try.func60 rfl hF ?_ hro
  simp only [Try.ntmps60, List.size_toArray, List.length_cons, List.length_nil, Nat.reduceAdd, Nat.reduceSub, Array.replicate_succ, Array.replicate_zero, List.push_toArray, List.append_toArray, List.nil_append, List.cons_append]
  gi_wp2
  gi_loopw [3] (fun i wr => ∃ k m : Nat, m + k = L.length ∧ i = .int .i64 ((m : Int) - 1) ∧ J (firstsN L.length k) wr ∧ KpR Bs g L.length W wr) (fun i _ => ((intOf i) + 1).toNat)
  case atStart => exact ⟨0, L.length, by omega, by simp, h0, rfl, fun _ _ => rfl⟩
  case round =>
    obtain ⟨k, m, hmk, rfl, hJs, hk1, hk2⟩ := hrel
    have c1 := hk1.trans hBs
    cases m with
    | zero =>
      obtain rfl : k = L.length := by omega
      rw [show (((0 : Nat) : Int) - 1) = -1 from rfl]
      gi_wp2
      go_end0
      rw [firstsN_all] at hJs
      exact ⟨⟨_, rfl⟩, .inl ⟨_, rfl, hJs⟩⟩
    | succ p =>
      rw [show (((p + 1 : Nat) : Int) - 1) = (p : Int) from by omega]
      have hp : p < L.length := by omega
      have c2 := (hk2 p hp).trans (hL p hp)
      have hAe := hA (by omega)
      subst hAe
      have hpI : (p : Int) < (L.length : Int) := by omega
      have hkl : k < L.length := by omega
      obtain ⟨fn, tmps, assign, body, hy, hR⟩ := hY _ ⟨k, hkl⟩ wr hJs (by rw [firstsN_len _ _ (by omega)]; exact hkl)
      have hbv : backV L k = #[.int .i64 (p : Int), .int .i64 L[p]] := by
        have e : L.length - 1 - k = p := by omega
        unfold backV backI backN
        rw [e, List.getD_eq_getElem?_getD, List.getElem?_eq_getElem hp]
        rfl
      dsimp only at hy
      rw [hbv] at hy
      have HK := Lib.hid (And.intro hk1 (And.intro hk2 (And.intro (firstsN_succ _ k hkl) hkl)))
      clear hbv hJs hk1 hk2 hA hJ hY hBs hL h0
      generalize L[p] = v at c2 hy
      gi_wp2
      refine hR.mono ?_
      rintro e W3 (⟨rfl, hJ3, hk3⟩ | ⟨rfl, hJx3⟩)
      · gi_wp2
        go_roundw
        case rel => exact ⟨k + 1, p, by omega, by go_num, by rw [HK.out.2.2.1]; exact hJ3, hk3.1.trans HK.out.1, fun j hj => (hk3.2 j hj).trans (HK.out.2.1 j hj)⟩
        case measure => simp [intOf]; try omega
      · gi_wp2
        refine bodyPost_ret (results_none rfl _ _ _) rfl ?_
        exact ⟨⟨_, rfl⟩, .inr ⟨_, ⟨k + 1, HK.out.2.2.2, HK.out.2.2.1.symm⟩, hJx3⟩⟩
theorem back_stops (F : Fence) (n : Nat) (hF : F.fn 60) (hro : F.round = none) (hn : 1 ≤ n) (Bs g : Nat) (A : Option Addr) (L : List Int) (cap : Nat) (hlen : L.length ≤ 5000) (hA : 0 < L.length → A = some ⟨g, 0, none⟩)
    (w : World) (hb1 : Bs < w.heap.size) (hb2 : 0 < L.length → g < w.heap.size) (hBs : w.cell? ⟨Bs, 0, none⟩ = some (.slice A L.length cap)) (hL : ∀ j (h : j < L.length), w.cell? ⟨g, j, none⟩ = some (.int .i64 L[j])) :
    SeqStopsK F n Try.prog 60 #[.pointer (some ⟨Bs, 0, none⟩)] (fun x : Fin L.length => backV L x.1) (KpR Bs g L.length) (fun ys => ys = List.finRange L.length) (fun pre => ∃ k, k ≤ L.length ∧ pre = firstsN L.length k) L.length w :=
  fun l J Jx W hW hJ _ hY h0 => back1_in F n hF hro hn l Bs g A L cap hlen hA J Jx _ hJ hY W ((hW.cell (p := ⟨Bs, 0, none⟩) hb1).trans hBs) (fun j h => (hW.cell (p := ⟨g, j, none⟩) (hb2 (by omega))).trans (hL j h)) h0
set_option maxRecDepth 100000 in
set_option maxHeartbeats 1000000 in
theorem back_in (F : Fence) (n : Nat) (hF : F.fn 42) (hro : F.round = none) (A : Option Addr) (len cap : Nat) (w : World) :
    CallsIn F n Try.prog 42 #[.slice A len cap] w fun e w' => e = .returned (.func (.func 60) #[] #[.pointer (some ⟨w.heap.size, 0, none⟩)]) ∧ w' = w.alloc (.cells #[.slice A len cap] 25) := by
  refine callsIn_of_wp Try.func42 rfl hF ?_ hro
  simp only [Try.ntmps42, List.size_toArray, List.length_cons, List.length_nil, Nat.reduceAdd, Nat.reduceSub, Array.replicate_succ, Array.replicate_zero, List.push_toArray, List.append_toArray, List.nil_append, List.cons_append]
  gi_wp2
  go_ret
  exact ⟨rfl, rfl⟩
theorem wpListIn_appK {F : Fence} {nF : Nat} {ops : Array Oper} {rest : List Oper} {o : Oper} {a : Act} {Q : Exit → Act → World → Prop} (w : World) (hgd : o.guard = none) (s x : Operand) (t : TypeId)
    (ho : o.op = .call { callee := .builtin .append, args := #[s, x], argTypes := #[t, t] }) (hty : o.type = t) (v y v' : Value) (w' : World) (hs : a.eval s = v) (hx : a.eval x = y)
    (hrun : (Builtin.append_ #[t, t] t #[v, y]).run Try.prog w = .ok v' w') (h : wpListIn F nF Try.prog ops Q rest (a.put o.dst v') w') : wpListIn F nF Try.prog ops Q (o :: rest) a w := by
  refine wpListIn_plain hgd fun K hK => ?_
  unfold Oper.wpIn
  refine ⟨by simp [Oper.about, ho, resolve, Target.leads, Sem.run_pure], ?_⟩
  rw [Oper.semAt_plain F _ _ (by rw [ho]; intro c hc'; cases hc')]
  simp [execOp, ho, resolve, invoke, builtin, hs, hx, hty, hrun, Result.andThen]
  exact hK _ _ h
end Go.Proofs.Ytgjjdmkoamjdpaa
