/- The document's Pairs of a span. -/
import Derived.Test.YtmldiojlglpoiaaSpGC
import Derived.Test.YtmldiojlglpoiaaSpF2
import Derived.Test.YtmldiojlglpoiaaJnG
import Derived.Test.YtmldiojlglpoiaaJnK
import Derived.Test.YtmldiojlglpoiaaJoBT
namespace Go.Proofs.Ytmldiojlglpoiaa
open Go.RowKit Go.Maps Go.Sort

theorem ClosOk.same {E F S : List Pr} (h : ClosOk E S) (he : ∀ q, q ∈ E ↔ q ∈ F) : ClosOk F S :=
  ⟨h.nodup, fun a b => (h.mem a b).trans ⟨fun g => g.mono fun _ _ k => (he _).1 k, fun g => g.mono fun _ _ k => (he _).2 k⟩⟩
/-- What the document's Pairs answers. -/
def RpPost (w : World) (c : Int) (R : List Tu) (e : Ending) (w' : World) : Prop := ∃ x : LV, e = .returned (.tuple #[.slice x.A x.ts.length x.c, .int .i64 c]) ∧ x.Ok w' ∧ tus x.ts = R ∧ Below w.heap.size w w' ∧ BlkP (fun b => w.heap.size ≤ b) x
theorem rpNone (w w' : World) (c : Int) (hb : Below w.heap.size w w') : RpPost w c [] (.returned (.tuple #[.slice none 0 0, .int .i64 c])) w' :=
  ⟨⟨none, [], 0⟩, rfl, ⟨fun h => absurd rfl h, (fun _ h => nomatch h), Nat.le_refl _, Nat.zero_le _⟩, rfl, hb, (fun _ h => nomatch h), (fun _ h => nomatch h)⟩
set_option maxRecDepth 100000 in
set_option maxHeartbeats 8000000 in
theorem rpairs_any (lab : Nm) (A : Option Addr) (c : Nat) (es : List Ed) (w : World) (h : Es w A c es) (hl : es.length ≤ 20) (hlm : lab.length ≤ maxLen) : Calls Try.prog 17 #[.string ⟨lab.toArray⟩, .slice A es.length c] w (RpPost w (pairsC lab (prsL lab es)) (pairsR lab (prsL lab es))) := by
  have hna := name_any lab w hlm
  cases hn : isNm lab with
  | false =>
    rw [hn] at hna
    have HN := Lib.hid hna
    have HE := Lib.hid (pairsC_no (E := prsL lab es) hn)
    clear hna hn h hl hlm
    go_enter Try.func17, Try.ntmps17
    go_wp2_with (go_at_call 41; (with_reducible refine HN.out.mono ?_); rintro e w1 ⟨rfl, rfl⟩)
    go_ret2
    rw [HE.out.1, HE.out.2]
    exact rpNone w w 1 (Below.refl _ _)
  | true =>
    rw [hn] at hna
    have HN := Lib.hid hna
    have HG := Lib.hid (redges_any lab A c es w h)
    have HE := Lib.hid (And.intro (pairsC_few (E := prsL lab es) hn (Nat.le_trans (prsL_len lab es) (by omega))) (And.intro (edsP_nodup lab es) (Nat.le_trans (edsP_len lab es) (by omega : es.length ≤ 30))))
    clear hna hn h hl hlm
    go_enter Try.func17, Try.ntmps17
    go_upto_region 4 with (first
      | (go_at_call 41; (with_reducible refine HN.out.mono ?_); rintro e w1 ⟨rfl, rfl⟩)
      | (go_at_call 43; (with_reducible refine HG.out.mono ?_); rintro e w2 ⟨A2, c2, rfl, p2, b2⟩; have HS := Lib.hid (rspan_any A2 c2 _ w2 p2 HE.out.2.1 HE.out.2.2); have B2 := Lib.hid b2; clear p2 b2)
      | (go_at_call 42; (with_reducible refine HS.out.mono ?_); rintro e w3 ⟨A3, c3, S, rfl, p3, s3, n3, b3⟩; have P3 := Lib.hid p3; have S3 := Lib.hid (s3.same fun q => mem_edsP); have N3 := Lib.hid n3; have B3 := Lib.hid (B2.out.trans (lower' b3 B2.out.size)); clear p3 s3 n3 b3))
    clear HN HG HS B2
    have h4 : ¬ (4000 : Int) < (S.length : Int) := by have := N3.out; omega
    go_wp2_with (fail)
    clear h4
    have n3 := N3.out
    go_loopw [7, 21] (fun v7 v21 wr => ∃ (k : Nat) (us : List TV), k ≤ S.length ∧ v21 = .int .i64 (k : Int) ∧ Hid (RowsAt wr w3.heap.size v7 us ∧ tus us = (S.take k).map tupOf ∧ us.length = k ∧ Below w3.heap.size w3 wr)) (fun _ v21 _ => S.length - (intOf v21).toNat)
    case atStart => exact ⟨0, [], by omega, rfl, Lib.hid ⟨RowsAt.nil _ _, rfl, rfl, Below.refl _ _⟩⟩
    case round =>
      obtain ⟨k, us, hk, rfl, hrel⟩ := hrel
      rename World => wr
      by_cases hlt : k < S.length
      · have hlI : (k : Int) < (S.length : Int) := by omega
        have hD : Below wr.heap.size wr wr.drew := (Below.refl wr.heap.size wr).drew
        obtain ⟨b, o, hA, hbl, c0, c1⟩ := (P3.out.below (hrel.out.2.2.2.trans (lower' hD hrel.out.2.2.2.size))).cell hlt
        have HTK := Lib.hid (show (S.take (k + 1)).map tupOf = (S.take k).map tupOf ++ [tupOf S[k]] from by rw [List.take_succ_eq_append_getElem hlt, List.map_append]; rfl)
        rw [hA]
        generalize S[k] = p at c0 c1 HTK
        obtain ⟨pa, pb⟩ := p
        dsimp only at c0 c1
        have hb1 : Below wr.drew.heap.size wr.drew (wr.drew.alloc (.cells #[.int .i64 pa, .int .i64 pb] 3)) := (Below.refl _ _).alloc (Nat.le_refl _) _
        have hz : w3.heap.size ≤ wr.drew.heap.size := hrel.out.2.2.2.size
        have hu : OwnI (wr.drew.alloc (.cells #[.int .i64 pa, .int .i64 pb] 3)) w3.heap.size ⟨some ⟨wr.drew.heap.size, 0, none⟩, [pa, pb], 2⟩ := own_heap (l := [pa, pb]) (heap_alloc_new wr.drew (.cells #[.int .i64 pa, .int .i64 pb] 3)) hz (by show 2 ≤ 5000; omega)
        obtain ⟨A6, c6, w6, hrun, g1, g2⟩ := ((hrel.out.1.kept hD).kept hb1).push hu (by show 2 ≤ 100; omega) (by have := hrel.out.2.2.1; omega) (Nat.le_trans hz hb1.size)
        have htu : tus (us ++ [⟨some ⟨wr.drew.heap.size, 0, none⟩, [pa, pb], 2⟩]) = (S.take (k + 1)).map tupOf := by
          rw [tus_app, hrel.out.2.1, HTK.out]
          rfl
        have hrun : (Builtin.append_ #[24, 24] 24 #[u7, .slice (some ⟨(wr.drew.alloc (.cells #[.int .i64 pa, .int .i64 pb] 3)).heap.size, 0, none⟩) 1 1]).run Try.prog ((wr.drew.alloc (.cells #[.int .i64 pa, .int .i64 pb] 3)).alloc (.cells #[.slice (some ⟨wr.drew.heap.size, 0, none⟩) 2 2] 32)) = .ok (.slice A6 (us.length + 1) c6) w6 := hrun
        rw [alloc1_size] at hrun
        have HR := Lib.hid (And.intro g1 (And.intro htu (And.intro (show (us ++ [(⟨some ⟨wr.drew.heap.size, 0, none⟩, [pa, pb], 2⟩ : TV)]).length = k + 1 by rw [List.length_append, hrel.out.2.2.1]; rfl) (hrel.out.2.2.2.trans ((lower' hD hrel.out.2.2.2.size).trans ((lower' hb1 hz).trans g2))))))
        clear g1 g2 htu hu hb1 hD hz hrel hA hbl
        go_upto_region 10 with (fail)
        go_region_law (refine step_appK _ (by rfl) (.tmp 24) (.tmp 36) 24 rfl rfl _ _ _ _ rfl rfl hrun ?_)
        all_goals
          simp only [Act.put]
          go_simp
          go_wp2_with (fail)
          go_roundw
          case rel => exact ⟨k + 1, _, by omega, by go_num, HR⟩
          case measure => simp [intOf]; omega
      · have hlI : ¬ (k : Int) < (S.length : Int) := by omega
        obtain ⟨A5, c5, e5, _, _, _⟩ := own_shape hrel.out.1.row
        have h5 := hrel.out.1
        rw [e5] at h5
        obtain ⟨_, hok⟩ := h5.ok (by have := hrel.out.2.2.1; omega)
        have htu : tus us = S.map tupOf := by rw [hrel.out.2.1, List.take_of_length_le (by omega)]
        have hsr := rsorted_p (fun b => w.heap.size ≤ b) ⟨A5, us, c5⟩ wr hok ⟨fun a ha => Nat.le_trans B3.out.size ((World.ownsRow.lt h5.row a.block (by dsimp only at ha; rw [ha]; simp [Value.ownBlock])).1), fun t ht a ha => Nat.le_trans B3.out.size (((h5.tup t ht).1.lo a ha).1)⟩ (fun b hb => Nat.le_trans (Nat.le_trans B3.out.size hrel.out.2.2.2.size) hb)
        dsimp only at hsr
        rw [htu, ← (spanL_clos S3.out).1] at hsr
        have HSR := Lib.hid hsr
        have HB := Lib.hid (B3.out.trans (lower' hrel.out.2.2.2 B3.out.size))
        rw [e5]
        clear hsr h5 e5 hok htu hrel
        go_wp2_with (go_at_call 44; (with_reducible refine HSR.out.mono ?_); rintro e w9 ⟨z, rfl, k9, e9, b9, p9⟩; have R9 := Lib.hid (And.intro k9 (And.intro e9 (And.intro (HB.out.trans (lower' b9 HB.out.size)) p9))); clear k9 e9 b9 p9)
        go_ret2
        rw [HE.out.1.1, HE.out.1.2]
        exact ⟨z, rfl, R9.out.1, R9.out.2.1, R9.out.2.2.1, R9.out.2.2.2⟩
end Go.Proofs.Ytmldiojlglpoiaa
