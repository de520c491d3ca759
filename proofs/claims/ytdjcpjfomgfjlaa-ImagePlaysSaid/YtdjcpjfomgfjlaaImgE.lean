/- An image in memory: data. -/
import Derived.Test.YtdjcpjfomgfjlaaImgD
import Derived.Test.YtdjcpjfomgfjlaaJnF
namespace Go.Proofs.Ytdjcpjfomgfjlaa
open Go.RowKit Go.Maps

set_option maxRecDepth 100000 in
set_option maxHeartbeats 2000000 in
theorem dataI_any {w : World} {q p first count bs bw T : Nat} {M : DM} (h : ImgAt w q p first count) (hD : DiskM w p bs bw M T) (hz : M.size ≤ 4096) (a s n : Nat) (hn : n ≤ 262144) (hfit : a + secs n < M.size) :
    Calls Try.prog 67 #[.pointer (some ⟨q, 0, none⟩), .agg #[.int .i64 (a : Int), .int .i64 (s : Int), .int .i64 (n : Int)]] w fun e w' => Own w w' ((cat M.get (a + 1) (secs n)).take n) e := by
  obtain ⟨i0, hi, hz0, hz1, hz2⟩ := info_parts infoU8
  have hss : secs n ≤ 4096 := by unfold secs; omega
  have hfull := hD.full
  have hlen : ∀ k, k ≤ secs n → (cat M.get (a + 1) k).length = 64 * k := fun k hk => cat_len (fun i hi => (hfull _ (by omega)).2)
  have HL := Lib.hid hlen
  have hb0 : Below w.heap.size w (w.alloc (.cells #[.int .i64 (a : Int), .int .i64 (s : Int), .int .i64 (n : Int)] 118)) := (Below.refl _ _).alloc (Nat.le_refl _) _
  have hg0 := heap_alloc_new w (.cells #[.int .i64 (a : Int), .int .i64 (s : Int), .int .i64 (n : Int)] 118)
  have hs0 : (w.alloc (.cells #[.int .i64 (a : Int), .int .i64 (s : Int), .int .i64 (n : Int)] 118)).heap.size = w.heap.size + 1 := by simp
  have HH := Lib.hid (And.intro (h.below hb0) (And.intro (hD.kept hb0) (And.intro hz (And.intro hn (And.intro hfit hss)))))
  have hsI : (secs n : Int) ≤ 4096 := by omega
  have hnI : (n : Int) ≤ 262144 := by omega
  have haI : (a : Int) ≤ 4096 := by omega
  clear hlen h hD hfull hn hss
  go_enter Try.func67, Try.ntmps67
  go_upto_region 1 with (fail)
  generalize w.alloc (.cells #[.int .i64 (a : Int), .int .i64 (s : Int), .int .i64 (n : Int)] 118) = W0 at hb0 hg0 hs0 HH ⊢
  have c0 := cell_of_row W0 w.heap.size 0 _ _ _ hg0
  have HB := Lib.hid (And.intro hb0 (And.intro hg0 hs0))
  clear hb0 hg0 hs0 hfit hz
  go_wp2_with go_in
  go_loopw [5, 6] (fun u i wr => ∃ k : Nat, k ≤ secs n ∧ i = .int .i64 ((a : Int) + 1 + (k : Int)) ∧ OwnB wr W0.heap.size 5 u (cat M.get (a + 1) k) ∧ Below W0.heap.size W0 wr)
    (fun _ i _ => secs n - (intOf i - (a : Int) - 1).toNat)
  case atStart => exact ⟨0, by omega, by simp, OwnB.nil _ _ _, Below.refl _ _⟩
  case round =>
    obtain ⟨k, hk, rfl, ho, hb⟩ := hrel
    have hgr := (hb.block w.heap.size (by have := HB.out.2.2; omega)).trans HB.out.2.1
    have a0 := cell_of_row wr w.heap.size 0 _ _ _ hgr
    have a2 := cell_of_row wr w.heap.size 2 _ _ _ hgr
    have hl := HL.out k hk
    obtain ⟨Ao, co, rfl, hc1, hc2, hr2⟩ := ho.shape
    by_cases hkl : k < secs n
    · have hkI : ((cat M.get (a + 1) k).length : Int) < (n : Int) := by rw [hl]; unfold secs at hkl; omega
      have hkJ : (k : Int) ≤ 4096 := by have := HH.out.2.2.2.2.2; omega
      have hsc := sectorI_any (HH.out.1.below hb) (HH.out.2.1.kept hb) HH.out.2.2.1 (i := a + 1 + k) (by have := HH.out.2.2.2.2.1; omega)
      have hcast : (((a + 1 + k : Nat)) : Int) = (a : Int) + 1 + (k : Int) := by omega
      rw [hcast] at hsc
      have HSC := Lib.hid hsc
      have HX := Lib.hid (And.intro ho (And.intro hb hkl))
      have HSZ := Lib.hid hb.size
      clear hsc hcast hgr ho hb hkl hl hc1 hc2 hr2 c0
      go_wp2_with (first
        | (go_at_call 83; (with_reducible refine HSC.out.mono ?_); rintro e w2 ⟨g2, rfl, hg1, hg2, hr2, hl2, hb2⟩)
        | (at_builtin; refine wpList_appB _ rfl (.tmp 17) (.tmp 20) _ rfl W0.heap.size 5 i0 _ Try.underlying45 hi hz0 hz1 hz2 rfl (.slice Ao (cat M.get (a + 1) k).length co) (cat M.get (a + 1) k) rfl (HX.out.1.below hb2 (Nat.le_refl _)) _ (some ⟨g2, 0, none⟩) 64 64 (M.get (a + 1 + k)) rfl hl2.symm hr2 (by have := HL.out k (by omega); omega) (by have := HSZ.out; have := hb2.size; omega) ?_; intro v3 w3 hown3 hg3 hat3)
        | go_in)
      have hsz2 := hb2.size
      have hown2 := HX.out.1.below hb2 (Nat.le_refl _)
      have hb3 : Below W0.heap.size W0 w3 := (HX.out.2.1.trans (lower' hb2 HSZ.out)).trans (grown_below' hg3 (fun j hj => (World.ownsRow.lt (by have h := hown2; unfold OwnB at h; exact h) j hj).1) (by have := HSZ.out; omega))
      exact ⟨⟨k + 1, HX.out.2.2, by simp; omega, by rw [cat_succ]; exact hown3, hb3⟩, by simp [intOf]; have := HX.out.2.2; omega⟩
    · obtain rfl : k = secs n := by omega
      have hq : n ≤ 64 * secs n := by unfold secs; omega
      have hkI : ¬ ((cat M.get (a + 1) (secs n)).length : Int) < (n : Int) := by omega
      have hnl : (n : Int) ≤ (co : Int) := by omega
      have HX := Lib.hid (And.intro ho (And.intro hb (And.intro hc1 (And.intro hc2 (And.intro hr2 hl)))))
      have HQ := Lib.hid hq
      clear ho hb hc1 hc2 hr2 hl hk hq hgr c0
      go_wp2_with go_in
      go_ret
      have hx := HX.out
      have hq := HQ.out
      have htl : ((cat M.get (a + 1) (secs n)).take n).length = n := by rw [List.length_take, hx.2.2.2.2.2]; omega
      refine ⟨Ao, co, by rw [htl]; rfl, fun b hb => ⟨Nat.le_trans HB.out.1.size (hx.2.2.2.2.1.2 b hb), own_typed (by have h := hx.1; unfold OwnB at h; exact h) b hb⟩, ?_, by rw [htl]; omega, hx.2.2.2.1, HB.out.1.trans (lower' hx.2.1 HB.out.1.size)⟩
      rw [u8s_take]
      exact hx.2.2.2.2.1.1.take _
end Go.Proofs.Ytdjcpjfomgfjlaa
