/- strconv.AppendInt at base 16, of a number below 128. -/
import Derived.Test.YtinhmchekdolmaaDoorProg
import Derived.Test.YtinhmchekdolmaaDoorMem
import Derived.Test.YtinhmchekdolmaaDoorValA
import Derived.WalkKit
import Derived.WalkSpells
import Derived.WalkLawsBesides
import Derived.IntWalk
import Derived.OneCell
import Derived.Laws.Bits64b
import Derived.Deep.QuietTactic
import Derived.BigQuiet
import Derived.KernelRfl
import Derived.Lib.Hide
namespace Go.Proofs.YtinhmchekdolmaaDoor
open Go.RowKit

set_option maxRecDepth 100000 in
set_option maxHeartbeats 2000000 in
theorem tz16 (w : World) (h : w.cell? ⟨7, 15, none⟩ = some (.int .u8 4)) :
    Calls Tryd.prog 85 #[.int .u64 16] w fun e w' => e = .returned (.int .i64 4) ∧ w = w' := by
  go_enter Tryd.func85, Tryd.ntmps85
  have e1 : bits .and .u64 16 (IntKind.u64.wrap (-16)) = 16 := by decide
  have e2 : IntKind.u64.wrap 4573923408821661840 = 4573923408821661840 := by decide
  go_wp2
  go_ret
  exact ⟨rfl, rfl⟩

theorem grown_setNew {w W : World} {row : Option Nat} (h : w.grownBy W row) {p : Addr} (hp : w.heap.size ≤ p.block) (u : Value) : w.grownBy (W.setCell p u) row :=
  ⟨h.os, h.tape, h.output, by rw [World.size_setCell]; exact h.size, fun k hk hne => (Below.heap_setCell W p u k (by omega)).trans (h.block k hk hne)⟩
def digits36 : ByteArray := ⟨#[48, 49, 50, 51, 52, 53, 54, 55, 56, 57, 97, 98, 99, 100, 101, 102, 103, 104, 105, 106, 107, 108, 109, 110, 111, 112, 113, 114, 115, 116, 117, 118, 119, 120, 121, 122]⟩
def hx (d : Nat) : UInt8 := digits36.data.getD d 0
def hexB (u : Nat) : List UInt8 := if u < 16 then [hx u] else [hx (u / 16), hx (u % 16)]
theorem and15 (u : Nat) (h : u < 128) : bits .and .u64 (u : Int) 15 = ((u % 16 : Nat) : Int) := by
  have := bits_and_u64_nat u 15 (by omega) (by omega)
  rw [show (15 : Int) = ((15 : Nat) : Int) from rfl, this, show (15 : Nat) = 2 ^ 4 - 1 from rfl, Nat.and_two_pow_sub_one_eq_mod]

set_option maxRecDepth 100000 in
set_option maxHeartbeats 2000000 in
theorem formatBits16_one (base : Nat) (v : Value) (l : List UInt8) (u : Nat) (hu : u < 16) (w : World) (hown : OwnB w base 5 v l) (hbase : base ≤ w.heap.size) (hl : l.length ≤ 100000)
    (h : w.cell? ⟨7, 15, none⟩ = some (.int .u8 4)) :
    Calls Tryd.prog 73 #[v, .int .u64 (u : Int), .int .i64 16, .bool false, .bool true] w fun e w' => ∃ v', e = .returned (.tuple #[v', .string ⟨#[]⟩]) ∧ OwnB w' base 5 v' (l ++ [hx u]) ∧ w.grownBy w' v.ownBlock := by
  obtain ⟨i0, hi, hz0, hz1, hz2⟩ := info_parts infoU8
  have hz := World.block_lt_of_cell? w _ h
  have e3 : bits .and .i64 16 15 = 0 := by decide
  have hW : (w.alloc (.cells (Array.replicate 65 (.int .u8 0)) 112)).cell? ⟨7, 15, none⟩ = some (.int .u8 4) := (World.cell?_alloc_lt _ _ _ hz).trans h
  go_enter Tryd.func73, Tryd.ntmps73
  go_wp2_with (first | (go_at_call 85; refine (tz16 _ hW).mono ?_; rintro e w' ⟨rfl, rfl⟩) | go_in)
  have hblk : (w.alloc (.cells (Array.replicate 65 (.int .u8 0)) 112)).heap[w.heap.size]? = some (.cells (Array.replicate 65 (.int .u8 0)) 112 (0, 0)) := heap_alloc_new w _
  have hsz : (w.alloc (.cells (Array.replicate 65 (.int .u8 0)) 112)).heap.size = w.heap.size + 1 := by simp
  have hownW := hown.alloc (.cells (Array.replicate 65 (.int .u8 0)) 112)
  have hBW : w.grownBy (w.alloc (.cells (Array.replicate 65 (.int .u8 0)) 112)) v.ownBlock := World.grownBy_alloc w _ _
  have hob : v.ownBlock ≠ some w.heap.size := fun e => by have := (World.ownsRow.lt hown _ e).2; omega
  obtain ⟨g, hg⟩ : ∃ g, g = w.heap.size := ⟨_, rfl⟩
  rw [← hg] at hblk hsz hob hbase ⊢
  have hgw : w.heap.size ≤ g := Nat.le_of_eq hg.symm
  generalize (w.alloc (.cells (Array.replicate 65 (.int .u8 0)) 112)) = W at *
  have c64 : W.cell? ⟨g, 64, none⟩ = some (.int .u8 0) := by rw [cell_of_row W g 64 _ _ _ hblk]; rfl
  have f64 : W.frozen? ⟨g, 64, none⟩ = false := frozen_of_row W g 64 _ _ hblk
  have HBK := Lib.hid hblk
  have HSZ := Lib.hid hsz
  have HG := Lib.hid hg
  clear hblk hsz hg hown hW h hz
  go_loop [1, 13] (fun uv iv => uv = .int .u64 (u : Int) ∧ iv = .int .i64 65) (fun _ _ => 0)
  case atStart => exact ⟨rfl, rfl⟩
  case round =>
    obtain ⟨rfl, rfl⟩ := hrel
    have hu' : ¬ (16 : Int) ≤ (u : Int) := by omega
    have hu2 : (u : Int) < 36 := by omega
    have hd : u < digits36.size := by show u < 36; omega
    have hgx : digits36[u] = hx u := (Array.getElem_eq_getD (xs := digits36.data) (i := u) (h := hd) 0)
    have hrd : Rd (W.setCell ⟨g, 64, none⟩ (.int .u8 ((digits36[u].toNat : Nat) : Int))) (g + 1) (some ⟨g, 64, none⟩) (u8s [hx u]) := fun _ => ⟨g, 64, rfl, Nat.lt_succ_self _, fun j y hy => by
      rcases j with _ | j
      · simp [u8s] at hy
        subst hy
        rw [← hgx]
        exact World.cell?_setCell_same W ⟨g, 64, none⟩ _ c64
      · simp [u8s] at hy⟩
    have hown2 : OwnB (W.setCell ⟨g, 64, none⟩ (.int .u8 ((digits36[u].toNat : Nat) : Int))) base 5 v l := ownsRow_setCell_other hownW hob _
    have hB2 : w.grownBy (W.setCell ⟨g, 64, none⟩ (.int .u8 ((digits36[u].toNat : Nat) : Int))) v.ownBlock := grown_setNew hBW (p := ⟨g, 64, none⟩) hgw _
    have hsz2 : base ≤ (W.setCell ⟨g, 64, none⟩ (.int .u8 ((digits36[u].toNat : Nat) : Int))).heap.size := by rw [World.size_setCell, HSZ.out]; omega
    have hll : l.length + 1 ≤ 140737488355328 := by omega
    clear hownW hgx
    go_wp2_with (at_builtin; refine wpList_appB _ rfl (.tmp 95) (.tmp 97) _ rfl base 5 i0 _ Tryd.underlying26 hi hz0 hz1 hz2 rfl v l rfl hown2 (g + 1) (some ⟨g, 64, none⟩) 1 1 [hx u] rfl rfl hrd hll hsz2 ?_; intro v3 w3 hown3 hg3 hat3)
    go_ret2
    exact ⟨_, rfl, hown3, World.grownBy.trans hB2 hg3⟩

theorem shr4 (u : Nat) : (u : Int) / 16 = ((u / 16 : Nat) : Int) := by omega

set_option maxRecDepth 100000 in
set_option maxHeartbeats 2000000 in
theorem formatBits16_two (base : Nat) (v : Value) (l : List UInt8) (u : Nat) (hu0 : 16 ≤ u) (hu : u < 128) (w : World) (hown : OwnB w base 5 v l) (hbase : base ≤ w.heap.size) (hl : l.length ≤ 100000)
    (h : w.cell? ⟨7, 15, none⟩ = some (.int .u8 4)) :
    Calls Tryd.prog 73 #[v, .int .u64 (u : Int), .int .i64 16, .bool false, .bool true] w fun e w' => ∃ v', e = .returned (.tuple #[v', .string ⟨#[]⟩]) ∧ OwnB w' base 5 v' (l ++ [hx (u / 16), hx (u % 16)]) ∧ w.grownBy w' v.ownBlock := by
  obtain ⟨i0, hi, hz0, hz1, hz2⟩ := info_parts infoU8
  have hz := World.block_lt_of_cell? w _ h
  have e3 : bits .and .i64 16 15 = 0 := by decide
  have hW : (w.alloc (.cells (Array.replicate 65 (.int .u8 0)) 112)).cell? ⟨7, 15, none⟩ = some (.int .u8 4) := (World.cell?_alloc_lt _ _ _ hz).trans h
  go_enter Tryd.func73, Tryd.ntmps73
  go_wp2_with (first | (go_at_call 85; refine (tz16 _ hW).mono ?_; rintro e w' ⟨rfl, rfl⟩) | go_in)
  have hblk : (w.alloc (.cells (Array.replicate 65 (.int .u8 0)) 112)).heap[w.heap.size]? = some (.cells (Array.replicate 65 (.int .u8 0)) 112 (0, 0)) := heap_alloc_new w _
  have hsz : (w.alloc (.cells (Array.replicate 65 (.int .u8 0)) 112)).heap.size = w.heap.size + 1 := by simp
  have hownW := hown.alloc (.cells (Array.replicate 65 (.int .u8 0)) 112)
  have hBW : w.grownBy (w.alloc (.cells (Array.replicate 65 (.int .u8 0)) 112)) v.ownBlock := World.grownBy_alloc w _ _
  have hob : v.ownBlock ≠ some w.heap.size := fun e => by have := (World.ownsRow.lt hown _ e).2; omega
  obtain ⟨g, hg⟩ : ∃ g, g = w.heap.size := ⟨_, rfl⟩
  rw [← hg] at hblk hsz hob hbase ⊢
  have hgw : w.heap.size ≤ g := Nat.le_of_eq hg.symm
  generalize (w.alloc (.cells (Array.replicate 65 (.int .u8 0)) 112)) = W at *
  have c63 : W.cell? ⟨g, 63, none⟩ = some (.int .u8 0) := by rw [cell_of_row W g 63 _ _ _ hblk]; rfl
  have c64 : W.cell? ⟨g, 64, none⟩ = some (.int .u8 0) := by rw [cell_of_row W g 64 _ _ _ hblk]; rfl
  have f63 : W.frozen? ⟨g, 63, none⟩ = false := frozen_of_row W g 63 _ _ hblk
  have f64 : W.frozen? ⟨g, 64, none⟩ = false := frozen_of_row W g 64 _ _ hblk
  have hd : u % 16 < digits36.size := by show u % 16 < 36; omega
  have hgx : digits36[u % 16] = hx (u % 16) := (Array.getElem_eq_getD (xs := digits36.data) (i := u % 16) (h := hd) 0)
  obtain ⟨W1, hW1⟩ : ∃ x, x = W.setCell ⟨g, 64, none⟩ (.int .u8 ((digits36[u % 16].toNat : Nat) : Int)) := ⟨_, rfl⟩
  have b64 : W1.cell? ⟨g, 64, none⟩ = some (.int .u8 ((hx (u % 16)).toNat : Int)) := by rw [hW1, hgx]; exact World.cell?_setCell_same W ⟨g, 64, none⟩ _ c64
  have b63 : W1.cell? ⟨g, 63, none⟩ = some (.int .u8 0) := by
    rw [hW1, World.cell?_setCell_other W _ _ _ (by intro e; injection e with e1 e2; omega)]; exact c63
  have hblk1 : W1.heap[g]? = some (.cells ((Array.replicate 65 (.int .u8 0)).setIfInBounds 64 (.int .u8 ((digits36[u % 16].toNat : Nat) : Int))) 112 (0, 0)) := by rw [hW1]; exact heap_setCell_same W g 64 _ _ _ hblk
  have k63 : W1.frozen? ⟨g, 63, none⟩ = false := frozen_of_row W1 g 63 _ _ hblk1
  have hown1 : OwnB W1 base 5 v l := by rw [hW1]; exact ownsRow_setCell_other hownW hob _
  have hB1 : w.grownBy W1 v.ownBlock := by rw [hW1]; exact grown_setNew hBW (p := ⟨g, 64, none⟩) hgw _
  have hsz1 : base ≤ W1.heap.size := by rw [hW1, World.size_setCell, hsz]; omega
  have hand := and15 u hu
  have HW1 := Lib.hid hW1
  have HG := Lib.hid hg
  clear hblk hblk1 hsz hg hown hW h hz hW1 hgx hownW hBW
  go_loopw [1, 13] (fun uv iv wr => (uv = .int .u64 (u : Int) ∧ iv = .int .i64 65 ∧ wr = W) ∨ (uv = .int .u64 ((u / 16 : Nat) : Int) ∧ iv = .int .i64 64 ∧ wr = W1)) (fun uv _ _ => (intOf uv).toNat)
  case atStart => exact .inl ⟨rfl, rfl, rfl⟩
  case round =>
    rcases hrel with ⟨rfl, rfl, rfl⟩ | ⟨rfl, rfl, rfl⟩
    · have hu' : (16 : Int) ≤ (u : Int) := by omega
      have hu2 : (u : Int) % 16 < 36 := by omega
      go_wp2
      go_roundw
      case rel => exact .inr ⟨by go_num, rfl, HW1.out.symm⟩
      case measure => simp [intOf]; omega
    · have hu' : ¬ (16 : Int) ≤ ((u / 16 : Nat) : Int) := by omega
      obtain ⟨q, hq⟩ : ∃ q, q = u / 16 := ⟨_, rfl⟩
      have hq8 : q < 16 := by omega
      rw [← hq] at hu' ⊢
      have hd : q < digits36.size := by show q < 36; omega
      have hgx : digits36[q] = hx q := (Array.getElem_eq_getD (xs := digits36.data) (i := q) (h := hd) 0)
      have hrd : Rd (wr.setCell ⟨g, 63, none⟩ (.int .u8 ((digits36[q].toNat : Nat) : Int))) (g + 1) (some ⟨g, 63, none⟩) (u8s [hx q, hx (u % 16)]) := fun _ => ⟨g, 63, rfl, Nat.lt_succ_self _, fun j y hy => by
        rcases j with _ | _ | j
        · simp [u8s] at hy
          subst hy
          rw [← hgx]
          exact World.cell?_setCell_same wr ⟨g, 63, none⟩ _ b63
        · simp [u8s] at hy
          subst hy
          rw [World.cell?_setCell_other wr _ _ _ (by intro e; injection e with e1 e2; omega)]
          exact b64
        · simp [u8s] at hy⟩
      have hown2 : OwnB (wr.setCell ⟨g, 63, none⟩ (.int .u8 ((digits36[q].toNat : Nat) : Int))) base 5 v l := ownsRow_setCell_other hown1 hob _
      have hB2 : w.grownBy (wr.setCell ⟨g, 63, none⟩ (.int .u8 ((digits36[q].toNat : Nat) : Int))) v.ownBlock := grown_setNew hB1 (p := ⟨g, 63, none⟩) hgw _
      have hsz2 : base ≤ (wr.setCell ⟨g, 63, none⟩ (.int .u8 ((digits36[q].toNat : Nat) : Int))).heap.size := by rw [World.size_setCell]; exact hsz1
      have hll : l.length + 2 ≤ 140737488355328 := by omega
      have HQ := Lib.hid hq
      have hq36 : (q : Int) < 36 := by omega
      clear hown1 hgx hq hand HW1 b64 c63 c64 f63 f64
      go_wp2_with (at_builtin; refine wpList_appB _ rfl (.tmp 95) (.tmp 97) _ rfl base 5 i0 _ Tryd.underlying26 hi hz0 hz1 hz2 rfl v l rfl hown2 (g + 1) (some ⟨g, 63, none⟩) 2 2 [hx q, hx (u % 16)] rfl rfl hrd hll hsz2 ?_; intro v3 w3 hown3 hg3 hat3)
      go_ret2
      exact ⟨_, rfl, by rw [← HQ.out]; exact hown3, World.grownBy.trans hB2 hg3⟩

set_option maxRecDepth 100000 in
theorem appendInt16_any (base : Nat) (v : Value) (l : List UInt8) (u : Nat) (hu : u < 128) (w : World) (hown : OwnB w base 5 v l) (hbase : base ≤ w.heap.size) (hl : l.length ≤ 100000)
    (h : w.cell? ⟨7, 15, none⟩ = some (.int .u8 4)) :
    Calls Tryd.prog 49 #[v, .int .i64 (u : Int), .int .i64 16] w fun e w' => ∃ v', e = .returned v' ∧ OwnB w' base 5 v' (l ++ hexB u) ∧ w.grownBy w' v.ownBlock := by
  have hf : Calls Tryd.prog 73 #[v, .int .u64 (u : Int), .int .i64 16, .bool false, .bool true] w fun e w' => ∃ v', e = .returned (.tuple #[v', .string ⟨#[]⟩]) ∧ OwnB w' base 5 v' (l ++ hexB u) ∧ w.grownBy w' v.ownBlock := by
    unfold hexB
    split
    · rename_i h1
      exact formatBits16_one base v l u h1 w hown hbase hl h
    · rename_i h1
      exact formatBits16_two base v l u (by omega) hu w hown hbase hl h
  obtain ⟨R, hR⟩ : ∃ R, R = l ++ hexB u := ⟨_, rfl⟩
  rw [← hR] at hf ⊢
  have HF := Lib.hid hf
  clear hf hR h hown
  go_enter Tryd.func49, Tryd.ntmps49
  go_wp2_with (first | (go_at_call 73; (with_reducible refine HF.out.mono ?_); rintro e w' ⟨v', rfl, hown', hb'⟩) | go_in)
  go_ret
  exact ⟨_, rfl, hown', hb'⟩
end Go.Proofs.YtinhmchekdolmaaDoor
