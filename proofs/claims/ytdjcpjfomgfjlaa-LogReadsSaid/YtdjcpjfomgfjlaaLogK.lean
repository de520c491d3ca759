/- write: a record's sectors. -/
import Derived.Test.YtdjcpjfomgfjlaaLogJ
import Derived.Laws.CopyOwn
namespace Go.Proofs.Ytdjcpjfomgfjlaa
open Go.RowKit Go.Maps

theorem wrs_cons (a : Nat) (b : List UInt8) (bs : List (List UInt8)) : wrs a (b :: bs) = some (a, b) :: wrs (a + 1) bs := by
  apply List.ext_getElem
  · simp [wrs]
  · intro i h1 h2
    cases i with
    | zero => simp [wrs]
    | succ i => simp [wrs]; omega
theorem flushD {w : World} {p bs bw T : Nat} {M : DM} (h : DiskM w p bs bw M T) (hk : M.Ok T) (hd : M.dead = true) :
    Calls Try.prog 73 #[.pointer (some ⟨p, 0, none⟩)] w fun e w' => e = .returned (.int .i64 30) ∧ DiskM w' p bs bw M (T + 1) ∧ Fr w w' [p, bs, bw] := by
  refine (flushM h hk).mono ?_
  unfold DM.flushE DM.flushM
  rw [if_pos hd, if_pos hd]
  rintro e w' ⟨rfl, h1, h2⟩
  exact ⟨rfl, h1.mono (Nat.le_succ _), h2⟩
theorem flushL {w : World} {p bs bw T : Nat} {M : DM} (h : DiskM w p bs bw M T) (hk : M.Ok T) (hd : M.dead = false) :
    Calls Try.prog 73 #[.pointer (some ⟨p, 0, none⟩)] w fun e w' => e = .returned (.int .i64 0) ∧ DiskM w' p bs bw (doneOp M none) (T + 1) ∧ Fr w w' [p, bs, bw] := by
  refine (flushM h hk).mono ?_
  unfold DM.flushE DM.flushM
  rw [if_neg (by simp [hd]), if_neg (by simp [hd])]
  rintro e w' ⟨rfl, h1, h2⟩
  exact ⟨rfl, h1.mono (Nat.le_succ _), h2⟩
/-- The k-th sector of data. -/
def chunk (d : List UInt8) (k : Nat) : List UInt8 := ((d.drop (k * 64)).take 64) ++ List.replicate (64 - ((d.drop (k * 64)).take 64).length) 0
theorem chunk_len64 (d : List UInt8) (k : Nat) : (chunk d k).length = 64 := by
  unfold chunk
  simp only [List.length_append, List.length_replicate, List.length_take, List.length_drop]
  omega
theorem chunks_drop (d : List UInt8) (k : Nat) (h : k < secs d.length) : (chunks d).drop k = chunk d k :: (chunks d).drop (k + 1) := by
  have hk : k < (chunks d).length := by rw [chunks_len]; exact h
  rw [List.drop_eq_getElem_cons hk]
  congr 1
  simp [chunks, chunk]
theorem splice_chunk (d : List UInt8) (k : Nat) : splice (u8s zero64) 0 (u8s ((d.drop (k * 64)).take 64)) = u8s (chunk d k) := by
  unfold splice chunk
  rw [u8s_append]
  simp only [List.take_zero, List.nil_append, Nat.zero_add, u8s_len]
  congr 1
  unfold u8s zero64
  rw [List.map_replicate, List.map_replicate, List.drop_replicate]

set_option maxRecDepth 100000 in
set_option maxHeartbeats 4000000 in
theorem write_rec {w : World} {base q p bs bw T : Nat} {L : LG} {v : Value} {M : DM} (h : LogAt w base q p L v) (hD : DiskM w p bs bw M T) (A : Option Addr) (d : List UInt8) (c B : Nat) (hr : Rd w B A (u8s d)) (hB : d ≠ [] → ∀ a, A = some a → a.block ≠ p ∧ a.block ≠ bs ∧ a.block ≠ bw) (hc : d.length ≤ c) (hcm : c ≤ 9223372036854775807) (hq : q ≠ p ∧ q ≠ bs ∧ q ≠ bw) (hl : d.length ≤ 4000) (hfitS : L.endd + secs d.length < M.size) (hnx : L.next ≤ 4611686018427387904) (hfit : Fit M T (secs d.length + 3)) :
    Calls Try.prog 45 #[.pointer (some ⟨q, 0, none⟩), .slice A d.length c] w fun e w' => Ran w w' p bs bw T M (appOps L.first L.recs L.next d) e := by
  have hblk := h.blk
  unfold LG.cells at hblk
  have hsec := secs_any d.length w (by omega)
  have hss : secs d.length ≤ 63 := by unfold secs; omega
  have HS := Lib.hid hsec
  have HH := Lib.hid (And.intro hblk (And.intro hq (And.intro hfitS (And.intro hss hfit))))
  have HR := Lib.hid (And.intro hr hB)
  have HD := Lib.hid (And.intro hD hD.lt)
  have hlI : (d.length : Int) ≤ 4000 := by omega
  have hsI : (secs d.length : Int) ≤ 63 := by omega
  have hqs := (Array.getElem?_eq_some_iff.1 hblk).1
  have HQ := Lib.hid hqs
  have HN := Lib.hid (And.intro hnx (And.intro hl (And.intro hc hcm)))
  have hend : (L.endd : Int) ≤ 4096 := by have := hfit.size; omega
  clear h hblk hq hl hfit hr hB hD hqs hsec hss hfitS hnx hc hcm
  go_enter Try.func45, Try.ntmps45
  go_upto_region 2 with (first
    | (go_at_call 70; (with_reducible refine HS.out.mono ?_); rintro e w1 ⟨rfl, rfl⟩)
    | go_in)
  go_wp2_with go_in
  go_loopw [5, 6, 7, 13] (fun _ _ _ i wr => ∃ (k : Nat) (M' : DM), k ≤ secs d.length ∧ i = .int .i64 (k : Int) ∧ DiskM wr p bs bw M' (T + k) ∧ Fr w wr [p, bs, bw] ∧ M'.size = M.size ∧ Fit M' (T + k) (secs d.length - k + 3) ∧ ∀ w' e, Ran wr w' p bs bw (T + k) M' (wrs (L.endd + 1 + k) ((chunks d).drop k) ++ (none :: some (L.endd, headL L.next d.length) :: none :: [])) e → Ran w w' p bs bw T M (appOps L.first L.recs L.next d) e)
    (fun _ _ _ i _ => secs d.length - (intOf i).toNat)
  case atStart => exact ⟨0, M, by omega, rfl, HD.out.1, Fr.refl _ _, rfl, by simpa using HH.out.2.2.2.2, fun w' e h => by simpa [appOps, LG.endd] using h⟩
  case round =>
    obtain ⟨k, M', hk, rfl, hD, hf, hs, hfit, hran⟩ := hrel
    have hblk := (hf.block q HQ.out (by have := HH.out.2.1; simp; omega)).trans HH.out.1
    by_cases hkl : k < secs d.length
    · have hkI : (k : Int) < (secs d.length : Int) := by omega
      have hk64 : k * 64 < d.length := by unfold secs at hkl; omega
      have hk64I : (k : Int) * 64 < (d.length : Int) := by omega
      have hk64c : (k : Int) * 64 ≤ (c : Int) := by have := HN.out.2.2.1; omega
      have hcne : ¬ c = k * 64 := by have := HN.out.2.2.1; omega
      obtain ⟨ab, ao, rfl, hab, hcc⟩ := HR.out.1 (by intro e; have := u8s_len d; rw [e] at this; simp at this; omega)
      have hAB := HR.out.2 (by rintro rfl; simp at hk64) _ rfl
      have hx : L.endd + 1 + k < M'.size := by rw [hs]; have := HH.out.2.2.1; omega
      have hdrop := chunks_drop d k hkl
      rw [hdrop, wrs_cons] at hran
      have hsrc : ∀ j u, (u8s ((d.drop (k * 64)).take 64))[j]? = some u → wr.cell? ⟨ab, ao + k * 64 + j, none⟩ = some u := fun j u hu => by
        have hu2 : (u8s d)[k * 64 + j]? = some u := by
          rw [u8s_take, u8s_drop, List.getElem?_take] at hu
          split at hu
          · rw [List.getElem?_drop] at hu; exact hu
          · cases hu
        have hc := hcc (k * 64 + j) _ hu2
        have hbl : ab < w.heap.size := World.block_lt_of_cell? w _ hc
        rw [← Nat.add_assoc] at hc
        exact (World.cell?_of_block (hf.block ab hbl (by simp; exact hAB))).trans hc
      have HSRC := Lib.hid hsrc
      have HX := Lib.hid (And.intro hD (And.intro hf (And.intro hs (And.intro hfit (And.intro hkl (And.intro hran (And.intro hblk hx)))))))
      have HLT := Lib.hid hD.lt
      have HMK := Lib.hid (fun W => make64 W)
      have hmk := HMK.out wr
      clear hD hf hs hfit hran hdrop hcc hblk hkl hAB hx hsrc hk64
      go_upto_region 5 with go_in
      have HG := Lib.hid (And.intro (heap_alloc_new wr (.cells (u8s zero64).toArray 5)) ((Below.refl _ wr).alloc (Nat.le_refl _) (.cells (u8s zero64).toArray 5)))
      clear hmk
      have hcl : (u8s ((d.drop (k * 64)).take 64)).length = min (d.length - k * 64) 64 := by rw [u8s_len, List.length_take, List.length_drop]; omega
      have HCL := Lib.hid hcl
      have hks : ((k : Int) * 64).toNat = k * 64 := by omega
      clear hcl
      go_upto_region 6 with (first
        | (refine wpList_copy_splice rfl (.tmp 17) (.tmp 21) _ _ rfl 5 Try.underlying45 (by kernel_rfl) (some ⟨wr.heap.size, 0, none⟩) (some ⟨ab, ao + k * 64, none⟩) 64 64 (d.length - k * 64) (c - k * 64) rfl rfl wr.heap.size 0 (u8s zero64) _ HG.out.1 (u8s ((d.drop (k * 64)).take 64)) (HCL.out) (fun _ => ⟨rfl, _, rfl, fun j u hu => by rw [plainAdd]; exact (HG.out.2.cell (p := ⟨ab, ao + k * 64 + j, none⟩) (World.block_lt_of_cell? wr _ (HSRC.out j u hu))).trans (HSRC.out j u hu)⟩) (by rw [HCL.out, u8s_len, zero64_len]; omega) (u8s_one _) wr.heap.size wr HG.out.2 (Nat.le_refl _) ?_; intro w3 hg3 hb3)
        | go_in)
      have hg4 := hg3.out
      rw [splice_chunk] at hg4
      have hrc : Rd w3 w3.heap.size (some ⟨wr.heap.size, 0, none⟩) (u8s (chunk d k)) := fun _ => ⟨_, 0, rfl, heap_lt hg4, fun j u hu => by
        rw [cell_of_row _ _ _ _ _ _ hg4]
        simpa using hu⟩
      have hblk3 := (hb3.block q (heap_lt HX.out.2.2.2.2.2.2.1)).trans HX.out.2.2.2.2.2.2.1
      have c0 : w3.cell? ⟨q, 0, none⟩ = some (.pointer (some ⟨p, 0, none⟩)) := cell_of_row w3 q 0 _ _ _ hblk3
      have c3 : w3.cell? ⟨q, 3, none⟩ = some (.int .i64 (L.endd : Int)) := cell_of_row w3 q 3 _ _ _ hblk3
      have hne : wr.heap.size ≠ p := by have := HLT.out; omega
      have hcast : (((L.endd + 1 + k : Nat)) : Int) = (L.endd : Int) + 1 + (k : Int) := by omega
      have hw1 := fun hd => writeL (w := w3.drew) (HX.out.1.kept hb3).drew HX.out.2.2.2.1.ok hd HX.out.2.2.2.2.2.2.2 wr.heap.size (chunk d k) (chunk_len64 d k) _ hrc.drew hne
      have hw2 := fun hd => writeD (w := w3.drew) (HX.out.1.kept hb3).drew HX.out.2.2.2.1.ok hd HX.out.2.2.2.2.2.2.2 wr.heap.size (chunk d k) (chunk_len64 d k) _ hrc.drew hne
      rw [hcast] at hw1 hw2
      have hF3 : Fr wr w3.drew [p, bs, bw] := (Fr.of_below hb3 _).drew
      have s1 : IntKind.i64.wrap ((L.endd : Int) + 1) = (L.endd : Int) + 1 := IntWalk.i64_in _ (by omega)
      have s2 : IntKind.i64.wrap ((L.endd : Int) + 1 + (k : Int)) = (L.endd : Int) + 1 + (k : Int) := IntWalk.i64_in _ (by omega)
      clear hg3 hg4 hb3 hrc hblk3 hne hcast HSRC HG HCL
      cases hd : M'.dead with
      | true =>
        have HC := Lib.hid (hw2 hd)
        have HDD := Lib.hid (And.intro hd hF3)
        clear hw1 hw2 hd hF3
        go_region_with (first
          | (go_at_call 17; (with_reducible refine HC.out.mono ?_); rintro e w4 ⟨rfl, hD2, hF2⟩))
        all_goals
          have HF := Lib.hid (And.intro hD2 (HDD.out.2.trans (hF2.mono (by simp))))
          clear hD2 hF2 s1 s2
          go_wp2_with go_in
          go_ret
          exact HX.out.2.2.2.2.2.1 _ _ (Ran.dead (o := some (L.endd + 1 + k, chunk d k)) HDD.out.1 rfl HF.out.1 (Nat.le_refl _) HF.out.2)
      | false =>
        have HC := Lib.hid (hw1 hd)
        have HDD := Lib.hid (And.intro hd hF3)
        clear hw1 hw2 hd hF3
        go_region_with (first
          | (go_at_call 17; (with_reducible refine HC.out.mono ?_); rintro e w4 ⟨rfl, hD2, hF2⟩))
        all_goals
          have HF := Lib.hid (And.intro hD2 (HDD.out.2.trans (hF2.mono (by simp))))
          clear hD2 hF2 s1 s2
          go_wp2_with go_in
          have hx := HX.out
          refine ⟨⟨k + 1, doneOp M' (some (L.endd + 1 + k, chunk d k)), hx.2.2.2.2.1, by simp, HF.out.1, hx.2.1.trans HF.out.2, (doneOp_size _ _).1.trans hx.2.2.1, ?_, fun w' e h => hx.2.2.2.2.2.1 w' e (Ran.step (o := some (L.endd + 1 + k, chunk d k)) HF.out.2 HDD.out.1 h)⟩, by simp [intOf]; have := hx.2.2.2.2.1; omega⟩
          have h2 := hx.2.2.2.1
          rw [show secs d.length - k + 3 = (secs d.length - (k + 1) + 3) + 1 by have := hx.2.2.2.2.1; omega] at h2
          exact h2.step _
    · obtain rfl : k = secs d.length := by omega
      have e0 : (chunks d).drop (secs d.length) = [] := List.drop_of_length_le (by rw [chunks_len]; exact Nat.le_refl _)
      rw [e0, wrs_nil, List.nil_append] at hran
      rw [show secs d.length - secs d.length + 3 = 2 + 1 by omega] at hfit
      have HX := Lib.hid (And.intro hD (And.intro hf (And.intro hs (And.intro hfit (And.intro hran hblk)))))
      have c0 : wr.cell? ⟨q, 0, none⟩ = some (.pointer (some ⟨p, 0, none⟩)) := cell_of_row wr q 0 _ _ _ hblk
      have hfd := fun hd => flushD hD hfit.ok hd
      have hfl := fun hd => flushL hD hfit.ok hd
      clear hD hf hs hfit hran hblk hkl e0
      cases hd : M'.dead with
      | true =>
        have HC := Lib.hid (hfd hd)
        have HDD := Lib.hid hd
        clear hfd hfl hd
        go_wp2_with (first
          | (go_at_call 73; (with_reducible refine HC.out.mono ?_); rintro e w2 ⟨rfl, hD2, hF2⟩; have HF := Lib.hid (And.intro hD2 hF2); clear hD2 hF2)
          | go_in)
        go_ret
        exact HX.out.2.2.2.2.1 _ _ (Ran.dead (o := none) HDD.out rfl HF.out.1 (Nat.le_refl _) HF.out.2)
      | false =>
        have HC := Lib.hid (hfl hd)
        have HDD := Lib.hid hd
        clear hfd hfl hd
        go_upto_region 13 with (first
          | (go_at_call 73; (with_reducible refine HC.out.mono ?_); rintro e w2 ⟨rfl, hD2, hF2⟩)
          | go_in)
        have hblk2 := (hF2.block q (heap_lt HX.out.2.2.2.2.2) (by have := HH.out.2.1; simp; omega)).trans HX.out.2.2.2.2.2
        have y0 : w2.cell? ⟨q, 0, none⟩ = some (.pointer (some ⟨p, 0, none⟩)) := cell_of_row w2 q 0 _ _ _ hblk2
        have y3 : w2.cell? ⟨q, 3, none⟩ = some (.int .i64 (L.endd : Int)) := cell_of_row w2 q 3 _ _ _ hblk2
        have y4 : w2.cell? ⟨q, 4, none⟩ = some (.int .i64 (L.next : Int)) := cell_of_row w2 q 4 _ _ _ hblk2
        have hsz : L.endd < (doneOp M' none).size := by rw [(doneOp_size _ _).1, HX.out.2.2.1]; have := HH.out.2.2.1; omega
        have hfit1 : Fit (doneOp M' none) (T + secs d.length + 1) 2 := HX.out.2.2.2.1.step none
        have hho := headOf_any L.next d.length w2.drew HN.out.1 (by have := HN.out.2.1; omega)
        have hw1 := fun hd (w3 : World) (hb : Below w2.heap.size w2.drew w3) (g : Nat) (hr : Rd w3 w3.heap.size (some ⟨g, 0, none⟩) (u8s (headL L.next d.length))) (hg : g ≠ p) => writeL (hD2.drew.kept hb) hfit1.ok hd hsz g (headL L.next d.length) (headL_len _ _) _ hr hg
        have hw2 := fun hd (w3 : World) (hb : Below w2.heap.size w2.drew w3) (g : Nat) (hr : Rd w3 w3.heap.size (some ⟨g, 0, none⟩) (u8s (headL L.next d.length))) (hg : g ≠ p) => writeD (hD2.drew.kept hb) hfit1.ok hd hsz g (headL L.next d.length) (headL_len _ _) _ hr hg
        have HHO := Lib.hid hho
        have HLT := Lib.hid hD2.lt
        have HY := Lib.hid (And.intro hF2 (And.intro hblk2 (And.intro hfit1 hsz)))
        clear hho hD2 hF2 hblk2 hfit1 hsz c0
        have hKS : ∀ w' : World, Fr w2 w' [p, bs, bw] → (w'.cell? ⟨q, 0, none⟩ = some (.pointer (some ⟨p, 0, none⟩)) ∧ w'.cell? ⟨q, 3, none⟩ = some (.int .i64 (L.endd : Int)) ∧ w'.cell? ⟨q, 4, none⟩ = some (.int .i64 (L.next : Int))) := fun w' hf =>
          have hg := (hf.block q (heap_lt HY.out.2.1) (by have := HH.out.2.1; simp; omega)).trans HY.out.2.1
          ⟨cell_of_row w' q 0 _ _ _ hg, cell_of_row w' q 3 _ _ _ hg, cell_of_row w' q 4 _ _ _ hg⟩
        have KS := Lib.hid hKS
        clear hKS
        cases hd : (doneOp M' none).dead with
        | true =>
          have HW := Lib.hid (hw2 hd)
          have HD1 := Lib.hid hd
          clear hw1 hw2 hd
          go_region_held3 (fun w' => w'.cell? ⟨q, 0, none⟩ = some (.pointer (some ⟨p, 0, none⟩)) ∧ w'.cell? ⟨q, 3, none⟩ = some (.int .i64 (L.endd : Int)) ∧ w'.cell? ⟨q, 4, none⟩ = some (.int .i64 (L.next : Int)))
            (first
              | exact KS.out w2.drew (Fr.refl w2 _).drew
              | exact hs4
              | exact hs3
              | assumption)
            (first
              | (go_at_call 75; (with_reducible refine HHO.out.mono ?_); rintro e w3 ⟨g3, rfl, hg1, hg2, hr3, hl3, hb3⟩; have hs3 := KS.out w3 ((Fr.refl w2 _).drew.trans (Fr.of_below hb3 _)))
              | (go_at_call 17; have hcall := HW.out w3 hb3 g3 hr3 (by have h := HLT.out; have h2 : w2.heap.size ≤ g3 := hg1; omega); (with_reducible refine hcall.mono ?_); clear hcall; rintro e w4 ⟨rfl, hD4, hF4⟩; have hs4 := KS.out w4 (((Fr.refl w2 _).drew.trans (Fr.of_below hb3 _)).trans (hF4.mono (by simp)))))
          all_goals
            have HF := Lib.hid (And.intro hD4 (((Fr.refl w2 [p, bs, bw]).drew.trans (Fr.of_below hb3 _)).trans (hF4.mono (by simp))))
            clear hD4 hF4 hb3 hr3 hg1 hg2 hl3 y0 y3 y4 KS
            go_wp2_with go_in
            go_ret
            exact HX.out.2.2.2.2.1 _ _ (Ran.step (o := none) HY.out.1 HDD.out (Ran.dead (o := some (L.endd, headL L.next d.length)) HD1.out rfl HF.out.1 (Nat.le_refl _) HF.out.2))
        | false =>
          have HW := Lib.hid (hw1 hd)
          have HD1 := Lib.hid hd
          clear hw1 hw2 hd
          go_region_held3 (fun w' => w'.cell? ⟨q, 0, none⟩ = some (.pointer (some ⟨p, 0, none⟩)) ∧ w'.cell? ⟨q, 3, none⟩ = some (.int .i64 (L.endd : Int)) ∧ w'.cell? ⟨q, 4, none⟩ = some (.int .i64 (L.next : Int)))
            (first
              | exact KS.out w2.drew (Fr.refl w2 _).drew
              | exact hs4
              | exact hs3
              | assumption)
            (first
              | (go_at_call 75; (with_reducible refine HHO.out.mono ?_); rintro e w3 ⟨g3, rfl, hg1, hg2, hr3, hl3, hb3⟩; have hs3 := KS.out w3 ((Fr.refl w2 _).drew.trans (Fr.of_below hb3 _)))
              | (go_at_call 17; have hcall := HW.out w3 hb3 g3 hr3 (by have h := HLT.out; have h2 : w2.heap.size ≤ g3 := hg1; omega); (with_reducible refine hcall.mono ?_); clear hcall; rintro e w4 ⟨rfl, hD4, hF4⟩; have hs4 := KS.out w4 (((Fr.refl w2 _).drew.trans (Fr.of_below hb3 _)).trans (hF4.mono (by simp)))))
          all_goals
            have hF5 : Fr w2 w4 [p, bs, bw] := ((Fr.refl w2 [p, bs, bw]).drew.trans (Fr.of_below hb3 _)).trans (hF4.mono (by simp))
            have hblk4 := (hF5.block q (heap_lt HY.out.2.1) (by have := HH.out.2.1; simp; omega)).trans HY.out.2.1
            have z0 : w4.cell? ⟨q, 0, none⟩ = some (.pointer (some ⟨p, 0, none⟩)) := cell_of_row w4 q 0 _ _ _ hblk4
            have hfl := flushR hD4 (HY.out.2.2.1.step (some (L.endd, headL L.next d.length))).ok
            have HC5 := Lib.hid hfl
            have HF := Lib.hid hF5
            clear hD4 hF4 hb3 hr3 hg1 hg2 hl3 y0 y3 y4 hF5 hblk4 hfl KS
            go_wp2_with (first
              | (go_at_call 73; (with_reducible refine HC5.out.mono ?_); rintro e w6 ⟨rfl, hD6, hF6⟩; have HF6 := Lib.hid (And.intro hD6 hF6); clear hD6 hF6)
              | go_in)
            go_ret
            exact HX.out.2.2.2.2.1 _ _ (Ran.step (o := none) HY.out.1 HDD.out (Ran.step (o := some (L.endd, headL L.next d.length)) HF.out HD1.out ⟨rfl, HF6.out.1, HF6.out.2⟩))
end Go.Proofs.Ytdjcpjfomgfjlaa
