/- dirty, wipe. -/
import Derived.Test.YtdjcpjfomgfjlaaLogH
namespace Go.Proofs.Ytdjcpjfomgfjlaa
open Go.RowKit Go.Maps

theorem equal_b (A1 A2 : Option Addr) (l1 l2 : List UInt8) (n1 n2 c1 c2 B1 B2 : Nat) (b : Bool) (w : World) (h1 : Rd w B1 A1 (u8s l1)) (h2 : Rd w B2 A2 (u8s l2)) (hn1 : n1 = l1.length) (hn2 : n2 = l2.length) (hb : Hid ((l1 == l2) = b)) :
    Calls Try.prog 72 #[.slice A1 n1 c1, .slice A2 n2 c2] w fun e w' => e = .returned (.bool b) ∧ w = w' := by
  have := equal_any A1 A2 l1 l2 n1 n2 c1 c2 B1 B2 w h1 h2 hn1 hn2
  rw [hb.out] at this
  exact this
theorem rd_zero (W : World) : Rd (W.alloc (.cells (u8s zero64).toArray 5)) (W.heap.size + 1) (some ⟨W.heap.size, 0, none⟩) (u8s zero64) := Rd.new W (u8s zero64).toArray 5 (0, 0)
/-- The sectors from one on, up to another, that aren't zeros. -/
def dirtyL (g : Nat → List UInt8) (a k : Nat) : List Nat := ((List.range k).map fun i => a + i).filter fun i => !(g i == zero64)
theorem dirtyL_succ (g : Nat → List UInt8) (a k : Nat) : dirtyL g a (k + 1) = dirtyL g a k ++ if (g (a + k) == zero64) = true then [] else [a + k] := by
  unfold dirtyL
  rw [List.range_succ, List.map_append, List.filter_append]
  congr 1
  by_cases h : (g (a + k) == zero64) = true
  · simp [h]
  · simp [h]
theorem dirtyL_len (g : Nat → List UInt8) (a k : Nat) : (dirtyL g a k).length ≤ k := by
  unfold dirtyL
  refine Nat.le_trans (List.length_filter_le _ _) (by simp)
theorem dirtyL_mem {g : Nat → List UInt8} {a k i : Nat} (h : i ∈ dirtyL g a k) : a ≤ i ∧ i < a + k := by
  unfold dirtyL at h
  obtain ⟨h1, _⟩ := List.mem_filter.1 h
  obtain ⟨j, hj, rfl⟩ := List.mem_map.1 h1
  have := List.mem_range.1 hj
  omega
theorem dirtyL_not {g : Nat → List UInt8} {a k i : Nat} (h1 : a ≤ i) (h2 : i < a + k) (h : i ∉ dirtyL g a k) : g i = zero64 := by
  have : (g i == zero64) = true := by
    cases hb : (g i == zero64) with
    | true => rfl
    | false =>
      exfalso; apply h
      unfold dirtyL
      refine List.mem_filter.2 ⟨List.mem_map.2 ⟨i - a, List.mem_range.2 (by omega), by omega⟩, by simp [hb]⟩
  exact beq_iff_eq.1 this
def LG.dirty (L : LG) (M : DM) : List Nat := dirtyL M.get L.endd (L.behind - L.endd)

set_option maxRecDepth 100000 in
set_option maxHeartbeats 4000000 in
theorem dirty_any {w : World} {base q p bs bw T : Nat} {L : LG} {v : Value} {M : DM} (h : LogAt w base q p L v) (hD : DiskM w p bs bw M T) (hz : M.size ≤ 4096) (hbm : L.behind ≤ M.size) :
    Calls Try.prog 40 #[.pointer (some ⟨q, 0, none⟩)] w fun e w' => ∃ v', e = .returned v' ∧ w'.ownsRow w.heap.size 3 1 v' (L.dirty M).length (ints (L.dirty M)) ∧ Below w.heap.size w w' := by
  obtain ⟨i0, hi, hz0, hz1, hz2⟩ := info_parts infoInt
  have hblk := h.blk
  unfold LG.cells at hblk
  have a3 := cell_of_row w q 3 _ _ _ hblk
  obtain ⟨K, hK⟩ : ∃ K, K = L.behind - L.endd := ⟨_, rfl⟩
  have hend := h.ok.endd
  have HH := Lib.hid (And.intro h (And.intro hD (And.intro hz (And.intro hbm (And.intro hK hend)))))
  clear h hblk hD hz hbm hK hend
  go_enter Try.func40, Try.ntmps40
  go_wp2_with go_in
  go_loopw [3, 4] (fun u i wr => ∃ k : Nat, k ≤ K ∧ i = .int .i64 ((L.endd : Int) + (k : Int)) ∧ wr.ownsRow w.heap.size 3 1 u (dirtyL M.get L.endd k).length (ints (dirtyL M.get L.endd k)) ∧ Below w.heap.size w wr)
    (fun _ i _ => K - (intOf i - (L.endd : Int)).toNat)
  case atStart => exact ⟨0, by omega, by simp, by have := World.ownsRow_nil w w.heap.size 3 1; simpa [ints, dirtyL] using this, Below.refl _ _⟩
  case round =>
    obtain ⟨k, hk, rfl, ho, hb⟩ := hrel
    have hblk := (HH.out.1.kept hb).blk
    unfold LG.cells at hblk
    have a2 := cell_of_row wr q 2 _ _ _ hblk
    have hbe : (L.behind : Int) ≤ 4096 := by have := HH.out.2.2.1; have := HH.out.2.2.2.1; omega
    by_cases hkl : k < K
    · have hkI : (L.endd : Int) + (k : Int) < (L.behind : Int) := by have := HH.out.2.2.2.2.1; omega
      have hsc := fun (W : World) (hW : Below wr.heap.size wr W) => sector_any ((HH.out.1.kept hb).kept hW) ((HH.out.2.1.kept hb).kept hW) HH.out.2.2.1 (i := L.endd + k) (by have := HH.out.2.2.2.1; have := HH.out.2.2.2.2.1; omega)
      have hcast : (((L.endd + k : Nat)) : Int) = (L.endd : Int) + (k : Int) := by omega
      rw [hcast] at hsc
      have hsn := dirtyL_succ M.get L.endd k
      have hlen := dirtyL_len M.get L.endd k
      obtain ⟨l, hl⟩ : ∃ l, l = M.get (L.endd + k) := ⟨_, rfl⟩
      rw [← hl] at hsc hsn
      have hKb : K ≤ 4096 := by have := HH.out.2.2.1; have := HH.out.2.2.2.1; have := HH.out.2.2.2.2.1; omega
      have HSC := Lib.hid hsc
      have HX := Lib.hid (And.intro ho (And.intro hb (And.intro hkl (And.intro hsn (And.intro hlen (And.intro hKb hcast))))))
      obtain ⟨Ao, co, rfl, _, _, _⟩ := own_shape ho
      have HSZ := Lib.hid hb.size
      have HMK := Lib.hid (fun W => make64 W)
      clear hsc hcast hblk ho hb hkl hsn hl hlen hKb
      go_upto_region 5 with go_in
      obtain ⟨b, hbb⟩ : ∃ b, (l == zero64) = b := ⟨_, rfl⟩
      have HBB := Lib.hid hbb
      clear hbb
      have k1 : Below wr.heap.size wr wr.drew := (Below.refl _ wr).drew
      have k2 : Below wr.heap.size wr (wr.alloc (.cells (u8s zero64).toArray 5)).drew := ((Below.refl _ wr).alloc (Nat.le_refl _) _).drew
      have KK := Lib.hid (And.intro k1 k2)
      have hmk := HMK.out wr.drew
      clear k1 k2
      cases b with
      | true =>
        go_region_with (first
          | (go_at_call 69; (with_reducible refine (HSC.out wr.drew KK.out.1).mono ?_); rintro e w2 ⟨g2, rfl, hg1, hg2, hr2, hl2, hb2⟩; have hmk2 := HMK.out w2; have hra := hr2.alloc (Nat.le_refl _) (.cells (u8s zero64).toArray 5); have hrz := rd_zero w2; have hC2 : Below wr.heap.size wr (w2.alloc (.cells (u8s zero64).toArray 5)) := (KK.out.1.trans hb2).alloc hb2.size _)
          | (go_at_call 69; (with_reducible refine (HSC.out _ KK.out.2).mono ?_); rintro e w2 ⟨g2, rfl, hg1, hg2, hra, hl2, hb2⟩; have hrz := ((rd_zero wr).drew).below hb2 (by show wr.heap.size + 1 ≤ (wr.alloc _).heap.size; simp); have hC2 : Below wr.heap.size wr w2 := KK.out.2.trans (lower' hb2 (by show wr.heap.size ≤ (wr.alloc _).heap.size; simp)))
          | (go_at_call 72; (refine (equal_b _ _ l zero64 64 64 64 64 _ _ true _ hra hrz hl2.symm rfl HBB).mono ?_); rintro e w3 ⟨rfl, rfl⟩))
        all_goals
          have HC2 := Lib.hid hC2
          clear hra hrz hb2 hC2
          go_wp2_with go_in
          refine ⟨⟨k + 1, HX.out.2.2.1, by simp; omega, ?_, HX.out.2.1.trans (lower' HC2.out HSZ.out)⟩, by simp [intOf]; have := HX.out.2.2.1; omega⟩
          rw [HX.out.2.2.2.1, if_pos HBB.out, List.append_nil]
          exact own_below HX.out.1 HC2.out (Nat.le_refl _)
      | false =>
        go_region_with (first
          | (go_at_call 69; (with_reducible refine (HSC.out wr.drew KK.out.1).mono ?_); rintro e w2 ⟨g2, rfl, hg1, hg2, hr2, hl2, hb2⟩; have hmk2 := HMK.out w2; have hra := hr2.alloc (Nat.le_refl _) (.cells (u8s zero64).toArray 5); have hrz := rd_zero w2; have hC2 : Below wr.heap.size wr (w2.alloc (.cells (u8s zero64).toArray 5)) := (KK.out.1.trans hb2).alloc hb2.size _)
          | (go_at_call 69; (with_reducible refine (HSC.out _ KK.out.2).mono ?_); rintro e w2 ⟨g2, rfl, hg1, hg2, hra, hl2, hb2⟩; have hrz := ((rd_zero wr).drew).below hb2 (by show wr.heap.size + 1 ≤ (wr.alloc _).heap.size; simp); have hC2 : Below wr.heap.size wr w2 := KK.out.2.trans (lower' hb2 (by show wr.heap.size ≤ (wr.alloc _).heap.size; simp)))
          | (go_at_call 72; (refine (equal_b _ _ l zero64 64 64 64 64 _ _ false _ hra hrz hl2.symm rfl HBB).mono ?_); rintro e w3 ⟨rfl, rfl⟩))
        all_goals
          clear hra hrz hb2
          first
            | (have hq : Below wr.heap.size wr (w2.alloc (.cells (u8s zero64).toArray 5)) := hC2; clear hq; generalize w2.alloc (.cells (u8s zero64).toArray 5) = W2 at hC2 ⊢)
            | generalize w2 = W2 at hC2 ⊢
          have hoW := own_below HX.out.1 hC2 (Nat.le_refl _)
          have HC2 := Lib.hid (And.intro hC2 hoW)
          have HSN := Lib.hid (show dirtyL M.get L.endd (k + 1) = dirtyL M.get L.endd k ++ [L.endd + k] by rw [HX.out.2.2.2.1, if_neg (by rw [HBB.out]; simp)])
          clear hC2 hoW
          go_wp2_with (first
            | (at_builtin; refine wpList_appR _ rfl (.tmp 23) (.tmp 25) _ rfl w.heap.size 3 i0 _ 1 8 Try.underlying88 hi hz0 hz1 hz2 rfl (by omega) (.slice Ao (dirtyL M.get L.endd k).length co) (dirtyL M.get L.endd k).length (ints (dirtyL M.get L.endd k)) rfl (World.ownsRow.alloc HC2.out.2 _) (W2.heap.size + 1) (some ⟨W2.heap.size, 0, none⟩) 1 1 [.int .i64 ((L.endd : Int) + (k : Int))] rfl rfl (Rd.new W2 #[.int .i64 ((L.endd : Int) + (k : Int))] 3 (0, 0)) (by simp [Value.oneCell']) (by have := HX.out.2.2.2.2.1; have := HX.out.2.2.2.2.2.1; have := HX.out.2.2.1; omega) (by omega) (by have := HSZ.out; have := HC2.out.1.size; simp; omega) ?_; intro v2 w5 hown2 hg2 hat2)
            | go_in)
          rw [← HX.out.2.2.2.2.2.2, ints_snoc, ← HSN.out] at hown2
          have hl : (dirtyL M.get L.endd k).length + 1 = (dirtyL M.get L.endd (k + 1)).length := by rw [HSN.out]; simp
          rw [hl] at hown2
          have hb5 : Below w.heap.size w w5 := ((HX.out.2.1.trans (lower' HC2.out.1 HSZ.out)).alloc (by have := HSZ.out; have := HC2.out.1.size; omega) _).trans (grown_below' hg2 (fun j hj => (World.ownsRow.lt HC2.out.2 j hj).1) (by have := HSZ.out; have := HC2.out.1.size; simp; omega))
          exact ⟨⟨k + 1, HX.out.2.2.1, by simp; omega, hown2, hb5⟩, by simp [intOf]; have := HX.out.2.2.1; omega⟩
    · obtain rfl : k = K := by omega
      have hkI : ¬ ((L.endd : Int) + (k : Int) < (L.behind : Int)) := by have := HH.out.2.2.2.2; omega
      have HX := Lib.hid (And.intro ho hb)
      clear ho hb hblk
      go_wp2_with go_in
      go_ret
      refine ⟨_, rfl, ?_, HX.out.2⟩
      unfold LG.dirty
      rw [← HH.out.2.2.2.2.1]
      exact HX.out.1
end Go.Proofs.Ytdjcpjfomgfjlaa
