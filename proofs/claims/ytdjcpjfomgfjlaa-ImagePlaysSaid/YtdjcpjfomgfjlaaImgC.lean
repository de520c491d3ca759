/- An image in memory: number, putNumber, headOf, room, sector. -/
import Derived.Test.YtdjcpjfomgfjlaaJnF
import Derived.Test.YtdjcpjfomgfjlaaJnE
namespace Go.Proofs.Ytdjcpjfomgfjlaa
open Go.RowKit Go.Maps

/-- An image's place: its block q, over the disk at p. -/
structure ImgAt (w : World) (q p first count : Nat) : Prop where
  blk : w.heap[q]? = some (.cells #[.pointer (some ⟨p, 0, none⟩), .int .i64 (first : Int), .int .i64 (count : Int)] 116 (0, 0))
  two : 2 ≤ count
theorem ImgAt.lt {w : World} {q p first count : Nat} (h : ImgAt w q p first count) : q < w.heap.size := (Array.getElem?_eq_some_iff.1 h.blk).1
theorem ImgAt.fr {w w' : World} {q p first count : Nat} (h : ImgAt w q p first count) {S : List Nat} (hf : Fr w w' S) (hq : q ∉ S) : ImgAt w' q p first count := ⟨(hf.block q h.lt hq).trans h.blk, h.two⟩
theorem ImgAt.below {w w' : World} {q p first count : Nat} (h : ImgAt w q p first count) (hb : Below w.heap.size w w') : ImgAt w' q p first count := ⟨(hb.block q h.lt).trans h.blk, h.two⟩

set_option maxRecDepth 100000 in
set_option maxHeartbeats 1000000 in
theorem number_any (A : Option Addr) (b : List UInt8) (n c B : Nat) (w : World) (hr : Rd w B A (u8s b)) (hn : n = b.length) (hl : b.length ≤ 8) :
    Calls Try.prog 88 #[.slice A n c] w fun e w' => e = .returned (.int .i64 (wrap64 (beV b : Int))) ∧ w = w' := by
  have HR := Lib.hid hr
  have HN := Lib.hid (And.intro hn hl)
  have hnI : (n : Int) ≤ 8 := by omega
  clear hr hn hl
  go_enter Try.func88, Try.ntmps88
  go_wp2
  go_loop [3, 5, 8] (fun u _ i => ∃ k : Nat, k ≤ n ∧ i = .int .i64 (k : Int) ∧ u = .int .i64 (wrap64 (beV (b.take k) : Int))) (fun _ _ i => n - (intOf i).toNat)
  case atStart => exact ⟨0, by omega, rfl, by simp [beV, wrap64]⟩
  case round =>
    obtain ⟨k, hk, rfl, rfl⟩ := hrel
    by_cases hkn : k < n
    · have hkI : (k : Int) < (n : Int) := by omega
      have hkb : k < b.length := by have := HN.out.1; omega
      obtain ⟨ab, ao, rfl, hab, hcell⟩ := HR.out.get (k := k) (by rw [u8s_len]; exact hkb)
      rw [u8s_get b k hkb] at hcell
      obtain ⟨x, hx⟩ : ∃ x, x = b[k] := ⟨_, rfl⟩
      rw [← hx] at hcell
      have hsn : beV (b.take (k + 1)) = beV (b.take k) * 256 + x.toNat := by
        rw [take_snoc' _ k hkb, beV_snoc, hx]
      have hlt : beV (b.take k) < 72057594037927936 := by
        have := beV_lt (b.take k)
        have h2 : (b.take k).length ≤ 7 := by rw [List.length_take]; have := HN.out.2; omega
        have h3 : 256 ^ (b.take k).length ≤ 256 ^ 7 := Nat.pow_le_pow_right (by omega) h2
        omega
      have HS := Lib.hid (And.intro hsn hlt)
      obtain ⟨V, hV⟩ : ∃ V, V = beV (b.take k) := ⟨_, rfl⟩
      rw [← hV] at HS ⊢
      clear hsn hlt hx hV hkb hab
      go_wp2
      go_round
      case rel =>
        refine ⟨k + 1, by omega, by simp, ?_⟩
        rw [or_byte V x HS.out.2, HS.out.1]
      case measure => simp [intOf]; omega
    · have hkE : k = b.length := by have := HN.out.1; omega
      have hkI : ¬ (k : Int) < (n : Int) := by omega
      rw [hkE, List.take_length] at *
      go_wp2
      go_ret
      exact ⟨rfl, rfl⟩
/-- A row, of which k places from o on have a number's highest bytes. -/
def putK (l : List UInt8) (o n s : Nat) : Nat → List UInt8
  | 0 => l
  | k + 1 => (putK l o n s k).set (o + k) (UInt8.ofNat (s / 2 ^ (8 * (n - 1 - k))))
theorem putK_len (l : List UInt8) (o n s : Nat) : ∀ k, (putK l o n s k).length = l.length
  | 0 => rfl
  | k + 1 => by rw [putK, List.length_set, putK_len l o n s k]
set_option maxRecDepth 100000 in
set_option maxHeartbeats 1000000 in
theorem putNumber_any (g o n c s base : Nat) (l : List UInt8) (w : World) (hg : w.heap[g]? = some (.cells (u8s l).toArray 5 (0, 0))) (hn : n ≤ 8) (ho : o + n ≤ l.length) (hs : s ≤ 9223372036854775807) (hB : base ≤ g) :
    Calls Try.prog 90 #[.slice (some ⟨g, o, none⟩) n c, .int .i64 (s : Int)] w fun e w' => e = .returned (.tuple #[]) ∧ w'.heap[g]? = some (.cells (u8s (putK l o n s n)).toArray 5 (0, 0)) ∧ Below base w w' := by
  have HG := Lib.hid (And.intro hg (And.intro ho hB))
  have hnI : (n : Int) ≤ 8 := by omega
  have hsI : (s : Int) ≤ 9223372036854775807 := by omega
  clear hg hn ho hs hB
  go_enter Try.func90, Try.ntmps90
  go_wp2
  go_loopw [4, 7] (fun _ i wr => ∃ k : Nat, k ≤ n ∧ i = .int .i64 (k : Int) ∧ wr.heap[g]? = some (.cells (u8s (putK l o n s k)).toArray 5 (0, 0)) ∧ Below base w wr)
    (fun _ i _ => n - (intOf i).toNat)
  case atStart => exact ⟨0, by omega, rfl, HG.out.1, Below.refl _ _⟩
  case round =>
    obtain ⟨k, hk, rfl, hg, hb⟩ := hrel
    by_cases hkn : k < n
    · have hkI : (k : Int) < (n : Int) := by omega
      obtain ⟨j, hj⟩ : ∃ j, j = n - 1 - k := ⟨_, rfl⟩
      have hjI : (n : Int) - 1 - (k : Int) = (j : Int) := by omega
      have hj7 : (j : Int) ≤ 7 := by omega
      obtain ⟨x, hx⟩ : ∃ x, x = UInt8.ofNat (s / 2 ^ (8 * (n - 1 - k))) := ⟨_, rfl⟩
      have hxv : (s : Int) / 2 ^ (8 * j) % 256 = (x.toNat : Int) := by
        rw [hx, mod256, hj]
        simp
      obtain ⟨v1, hv1⟩ := row_cell (i := o + k) hg (by rw [putK_len]; have := HG.out.2.1; omega)
      have zf1 := frozen_of_row wr g (o + k) _ _ hg
      have hg2 := row_set (i := o + k) hg x
      rw [hx] at hg2
      have hg3 : (wr.setCell ⟨g, o + k, none⟩ (.int .u8 ((UInt8.ofNat (s / 2 ^ (8 * (n - 1 - k)))).toNat : Int))).heap[g]? = some (.cells (u8s (putK l o n s (k + 1))).toArray 5 (0, 0)) := hg2
      rw [← hx] at hg3
      have HX := Lib.hid (And.intro hg3 (And.intro (hb.setCell (p := ⟨g, o + k, none⟩) HG.out.2.2 (.int .u8 (x.toNat : Int))) hxv))
      clear hg hb hg2 hg3 hxv hx hj
      go_wp2_with go_in
      rw [HX.out.2.2]
      exact ⟨⟨k + 1, by omega, by simp, HX.out.1, HX.out.2.1⟩, by simp [intOf]; omega⟩
    · have hkE : k = n := by omega
      have hkI : ¬ (k : Int) < (n : Int) := by omega
      subst hkE
      have HX := Lib.hid (And.intro hg hb)
      clear hg hb
      go_wp2
      (try simp only [Exit.inBlock, Exit.then])
      refine bodyPost_end (results_none rfl _ _ _) rfl ?_
      exact ⟨rfl, HX.out.1, HX.out.2⟩
theorem putK_head (s n : Nat) : putK (putK ((zero64.set 0 73).set 63 90) 1 8 s 8) 9 4 n 4 = headI s n := by
  simp [putK, zero64, headI, be8, be4, List.replicate_succ]
set_option maxRecDepth 100000 in
theorem headI_any (s n : Nat) (w : World) (hs : s ≤ 4611686018427387904) (hn : n < 4294967296) :
    Calls Try.prog 81 #[.int .i64 (s : Int), .int .i64 (n : Int)] w fun e w' => New64 w w' (headI s n) e := by
  have hmk := make64 w
  have h0 : ((u8s zero64).set 0 (.int .u8 73)).set 63 (.int .u8 90) = u8s ((zero64.set 0 73).set 63 90) := rfl
  have hg : (w.alloc (.cells (((u8s zero64).set 0 (.int .u8 73)).set 63 (.int .u8 90)).toArray 5)).heap[w.heap.size]? = some (.cells (u8s ((zero64.set 0 73).set 63 90)).toArray 5 (0, 0)) := by rw [h0]; exact heap_alloc_new w _
  have hB1 : Below w.heap.size w (w.alloc (.cells (((u8s zero64).set 0 (.int .u8 73)).set 63 (.int .u8 90)).toArray 5)) := (Below.refl _ w).alloc (Nat.le_refl _) _
  have hp1 := putNumber_any w.heap.size 1 8 63 s w.heap.size _ _ hg (by omega) (by simp [zero64]) (by omega) (Nat.le_refl _)
  have HP1 := Lib.hid hp1
  have HB := Lib.hid (And.intro hB1 (And.intro hs hn))
  clear hmk h0 hg hB1 hs hn hp1
  have hmk := make64 w
  go_enter Try.func81, Try.ntmps81
  go_upto_region 4 with (go_at_call 90; (with_reducible refine HP1.out.mono ?_); rintro e w1 ⟨rfl, hg1, hb1⟩)
  have hp2 := putNumber_any w.heap.size 9 4 55 n w.heap.size _ _ hg1 (by omega) (by simp [putK_len, zero64]) (by have := HB.out.2.2; omega) (Nat.le_refl _)
  rw [putK_head] at hp2
  have HP2 := Lib.hid hp2
  have HB1 := Lib.hid hb1
  clear hp2 hg1 hb1 HP1
  go_wp2_with (go_at_call 90; (with_reducible refine HP2.out.mono ?_); rintro e w2 ⟨rfl, hg2, hb2⟩)
  go_ret
  exact new64_row (Nat.le_refl _) hg2 (headI_len _ _) (HB.out.1.trans (HB1.out.trans hb2))
section
variable {w : World} {q p first count : Nat}
set_option maxRecDepth 100000 in
theorem roomI_any (h : ImgAt w q p first count) (hc : count ≤ 4096) :
    Calls Try.prog 62 #[.pointer (some ⟨q, 0, none⟩)] w fun e w' => e = .returned (.int .i64 (roomI count : Int)) ∧ w = w' := by
  have a2 := cell_of_row w q 2 _ _ _ h.blk
  have hr : (((count : Int) - 1) * 64) = (roomI count : Int) := by unfold roomI; have := h.two; omega
  have hc2 : (2 : Int) ≤ (count : Int) := by have := h.two; omega
  have hcI : (count : Int) ≤ 4096 := by omega
  have HR := Lib.hid hr
  clear h hr hc
  go_enter Try.func62, Try.ntmps62
  go_wp2
  go_ret
  exact ⟨by first | rfl | (rw [HR.out]; rfl), rfl⟩
set_option maxRecDepth 100000 in
theorem sectorI_any {bs bw T : Nat} {M : DM} (h : ImgAt w q p first count) (hD : DiskM w p bs bw M T) (hz : M.size ≤ 4096) {i : Nat} (hi : i < M.size) :
    Calls Try.prog 83 #[.pointer (some ⟨q, 0, none⟩), .int .i64 (i : Int)] w fun e w' => New64 w w' (M.get i) e := by
  have a0 := cell_of_row w q 0 _ _ _ h.blk
  have hr := readC hD hz hi
  have HR := Lib.hid hr
  clear h hr hD
  go_enter Try.func83, Try.ntmps83
  go_wp2_with (go_at_call 60; (with_reducible refine HR.out.mono ?_); rintro e w' ⟨g, rfl, h1, h2, h3, h4, h5⟩)
  go_ret
  exact ⟨g, rfl, h1, h2, h3, h4, h5⟩
end
end Go.Proofs.Ytdjcpjfomgfjlaa
