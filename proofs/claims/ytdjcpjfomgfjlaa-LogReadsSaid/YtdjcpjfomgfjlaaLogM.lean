/- Append. -/
import Derived.Test.YtdjcpjfomgfjlaaLogL
namespace Go.Proofs.Ytdjcpjfomgfjlaa
open Go.RowKit Go.Maps

/-- A log and its disk lie apart. -/
structure Aparts (base q p bs bw : Nat) : Prop where
  lp : p < base
  ls : bs < base
  lw : bw < base
  qp : q ≠ p
  qs : q ≠ bs
  qw : q ≠ bw
theorem Aparts.fr {w w' : World} {base q p bs bw : Nat} {L : LG} {v : Value} (ha : Aparts base q p bs bw) (h : LogAt w base q p L v) (hf : Fr w w' [p, bs, bw]) : LogAt w' base q p L v :=
  h.fr hf (fun s hs => by
    simp at hs
    have := ha.lp; have := ha.ls; have := ha.lw; have := ha.qp; have := ha.qs; have := ha.qw
    omega)
/-- What an Append does. -/
def appR (L : LG) (M : DM) (d : List UInt8) : Int × DM × LG :=
  if 4000 < d.length then (3, M, L)
  else if L.room < (d.length : Int) then (5, M, L)
  else if (runOps (appOps L.first L.recs L.next d) M).1 = 0 then (0, (runOps (appOps L.first L.recs L.next d) M).2, L.add L.next d)
  else (30, (runOps (appOps L.first L.recs L.next d) M).2, L)
theorem room_fits {L : LG} {d : List UInt8} (hk : L.Ok) (h : ¬ L.room < (d.length : Int)) : L.endd + secs d.length < L.behind ∧ L.next ≤ 4611686018427387904 := by
  unfold LG.room at h
  split at h
  · omega
  · rename_i hx
    have := hk.endd
    unfold secs
    omega
/-- A log and its disk, in memory. -/
structure LogD (w : World) (base q p bs bw T : Nat) (L : LG) (v : Value) (M : DM) : Prop where
  log : LogAt w base q p L v
  disk : DiskM w p bs bw M T
  ap : Aparts base q p bs bw
  low : base ≤ w.heap.size
  fits : L.behind ≤ M.size
  size : M.size ≤ 4096
/-- What a call on a log leaves. -/
def Logged (w w' : World) (base q p bs bw T : Nat) (v : Value) (M' : DM) (L' : LG) : Prop :=
  ∃ v', LogD w' base q p bs bw T L' v' M' ∧ Fr w w' ([p, bs, bw, q] ++ v.ownBlock.toList)
set_option maxRecDepth 100000 in
set_option maxHeartbeats 2000000 in
theorem append_any {w : World} {base q p bs bw T : Nat} {L : LG} {v : Value} {M : DM} (h : LogD w base q p bs bw T L v M) (A : Option Addr) (d : List UInt8) (c B : Nat) (hr : Rd w B A (u8s d)) (hBs : B ≤ w.heap.size) (hB : d ≠ [] → ∀ a, A = some a → a.block ≠ p ∧ a.block ≠ bs ∧ a.block ≠ bw) (hc : d.length ≤ c) (hcm : c ≤ 9223372036854775807) (hfit : Fit M T 70) :
    Calls Try.prog 11 #[.pointer (some ⟨q, 0, none⟩), .slice A d.length c] w fun e w' => e = .returned (.int .i64 (appR L M d).1) ∧ Logged w w' base q p bs bw (T + 70) v (appR L M d).2.1 (appR L M d).2.2 := by
  have hroom := room_any h.log
  have hsame : ∀ w', Below w.heap.size w w' → Logged w w' base q p bs bw (T + 70) v M L := fun w' hb =>
    ⟨v, ⟨h.log.kept hb, (h.disk.kept hb).mono (by omega), h.ap, Nat.le_trans h.low hb.size, h.fits, h.size⟩, Fr.of_below hb _⟩
  have hdl : (d.length : Int) ≤ 9223372036854775807 := by omega
  have HSM := Lib.hid hsame
  have HRM := Lib.hid hroom
  have HH := Lib.hid (And.intro h (And.intro hr (And.intro hB (And.intro hc (And.intro hcm hfit)))))
  have HBS := Lib.hid hBs
  clear h hr hBs hB hc hcm hfit hroom hsame
  by_cases h1 : 4000 < d.length
  · have e : appR L M d = (3, M, L) := if_pos h1
    rw [e]
    have h1I : (4000 : Int) < (d.length : Int) := by omega
    clear e h1
    go_enter Try.func11, Try.ntmps11
    go_wp2_with go_in
    go_ret
    exact ⟨rfl, HSM.out w (Below.refl _ _)⟩
  · have h1I : (d.length : Int) ≤ 4000 := by omega
    by_cases h2 : L.room < (d.length : Int)
    · have e : appR L M d = (5, M, L) := by unfold appR; rw [if_neg h1, if_pos h2]
      rw [e]
      have h2' : L.room < (d.length : Int) := h2
      clear e h1
      go_enter Try.func11, Try.ntmps11
      go_wp2_with (first
        | (go_at_call 25; (with_reducible refine HRM.out.mono ?_); rintro e w2 ⟨rfl, hb2⟩; have HB2 := Lib.hid hb2; clear hb2)
        | go_in)
      go_ret
      exact ⟨rfl, HSM.out _ HB2.out⟩
    · obtain ⟨f1, f2⟩ := room_fits HH.out.1.log.ok h2
      have hwr := fun (w2 : World) (hb : Below w.heap.size w w2) => write_rec (HH.out.1.log.kept hb) (HH.out.1.disk.kept hb) A d c B (HH.out.2.1.below hb HBS.out) HH.out.2.2.1 HH.out.2.2.2.1 HH.out.2.2.2.2.1 ⟨HH.out.1.ap.qp, HH.out.1.ap.qs, HH.out.1.ap.qw⟩ (by omega) (by have := HH.out.1.fits; omega) f2 (HH.out.2.2.2.2.2.less (by unfold secs; omega))
      have hlenR : T + (appOps L.first L.recs L.next d).length ≤ T + 70 := by rw [appOps_len]; unfold secs; omega
      have h2' : (d.length : Int) ≤ L.room := by omega
      obtain ⟨_, _, _, hcode⟩ := runOps_facts (appOps L.first L.recs L.next d) M
      have hszR := (runOps_facts (appOps L.first L.recs L.next d) M).1
      have hlog : ∀ w2 w3 : World, Below w.heap.size w w2 → Fr w2 w3 [p, bs, bw] → DiskM w3 p bs bw (runOps (appOps L.first L.recs L.next d) M).2 (T + (appOps L.first L.recs L.next d).length) → LogD w3 base q p bs bw (T + 70) L v (runOps (appOps L.first L.recs L.next d) M).2 ∧ Fr w w3 ([p, bs, bw, q] ++ v.ownBlock.toList) := fun w2 w3 hb hf hD =>
        ⟨⟨HH.out.1.ap.fr (HH.out.1.log.kept hb) hf, hD.mono hlenR, HH.out.1.ap, Nat.le_trans HH.out.1.low (Nat.le_trans hb.size hf.size), by rw [hszR]; exact HH.out.1.fits, by rw [hszR]; exact HH.out.1.size⟩, (Fr.of_below hb _).trans (hf.mono (by simp))⟩
      have HLG := Lib.hid hlog
      have hpos := HH.out.1.log.ok.pos
      rcases hcode with hcode | hcode
      · have e : appR L M d = (0, (runOps (appOps L.first L.recs L.next d) M).2, L.add L.next d) := by unfold appR; rw [if_neg h1, if_neg h2, if_pos hcode]
        rw [e]
        unfold Ran at hwr
        rw [hcode] at hwr
        have HW := Lib.hid hwr
        have HF := Lib.hid (And.intro f1 (And.intro f2 (And.intro hpos h1)))
        clear hwr hlenR hlog hcode e f1 f2 hszR h1 h2 hpos
        go_enter Try.func11, Try.ntmps11
        go_upto_region 8 with (first
          | (go_at_call 25; (with_reducible refine HRM.out.mono ?_); rintro e w2 ⟨rfl, hb2⟩)
          | (go_at_call 45; (with_reducible refine (HW.out w2 hb2).mono ?_); rintro e w3 ⟨rfl, hD3, hF3⟩)
          | go_in)
        have hL3 := HLG.out w2 w3 hb2 hF3 hD3
        have hblk := hL3.1.log.blk
        unfold LG.cells at hblk
        have c4 : w3.cell? ⟨q, 4, none⟩ = some (.int .i64 (L.next : Int)) := cell_of_row w3 q 4 _ _ _ hblk
        have hadd := add_any hL3.1.log hL3.1.low L.next d HF.out.2.2.1 HF.out.2.1 (by have := HF.out.2.2.2; omega) (by have := HF.out.1; omega)
        have HA := Lib.hid hadd
        have HL3 := Lib.hid hL3
        clear hb2 hF3 hD3 hL3 hblk hadd
        go_wp2_with (first
          | (go_at_call 46; (with_reducible refine HA.out.mono ?_); rintro e w4 ⟨rfl, v', hl4, hf4, hb4⟩; have HL4 := Lib.hid (And.intro hl4 (And.intro hf4 hb4)); clear hl4 hf4 hb4)
          | go_in)
        go_ret
        have hap := HL3.out.1.ap
        have hns : ∀ z, z < base → z ≠ q → z ∉ q :: v.ownBlock.toList := fun z hz hzq hm => by
          rcases List.mem_cons.1 hm with h | h
          · exact hzq h
          · have := World.ownsRow.lt HL3.out.1.log.row z (by simpa using h); omega
        refine ⟨rfl, v', ⟨HL4.out.1, HL3.out.1.disk.fr HL4.out.2.1 (hns _ hap.lp (fun h => hap.qp h.symm)) (hns _ hap.ls (fun h => hap.qs h.symm)) (hns _ hap.lw (fun h => hap.qw h.symm)), hap, HL4.out.2.2, HL3.out.1.fits, HL3.out.1.size⟩, HL3.out.2.trans (HL4.out.2.1.mono (fun x hx => ?_))⟩
        rcases List.mem_cons.1 hx with h | h
        · simp [h]
        · exact List.mem_append_right _ h
      · have e : appR L M d = (30, (runOps (appOps L.first L.recs L.next d) M).2, L) := by unfold appR; rw [if_neg h1, if_neg h2, if_neg (by rw [hcode]; omega)]
        rw [e]
        unfold Ran at hwr
        rw [hcode] at hwr
        have HW := Lib.hid hwr
        clear hwr hlenR hlog hcode e f1 f2 hszR h1 h2 hpos
        go_enter Try.func11, Try.ntmps11
        go_wp2_with (first
          | (go_at_call 25; (with_reducible refine HRM.out.mono ?_); rintro e w2 ⟨rfl, hb2⟩)
          | (go_at_call 45; (with_reducible refine (HW.out w2 hb2).mono ?_); rintro e w3 ⟨rfl, hD3, hF3⟩; have HL3 := Lib.hid (HLG.out w2 w3 hb2 hF3 hD3); clear hD3 hF3)
          | go_in)
        go_ret
        exact ⟨rfl, v, HL3.out.1, HL3.out.2⟩
end Go.Proofs.Ytdjcpjfomgfjlaa
