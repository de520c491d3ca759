/- A disk's Crash. -/
import Derived.Test.YtnjljalihjkmcaaDskJ
namespace Go.Proofs.Ytnjljalihjkmcaa
open Go.RowKit Go.Maps Go.Sort Go.Shelf Go.Proofs

theorem clone_any (b n : Nat) (D : DataW Unit) (w : World) (h : w.ownsMap Try.prog 3 secR b n D) :
    Calls Try.prog 61 #[.map (some b)] w fun e w' => e = .returned (.map (some w.heap.size)) ∧ w'.ownsMap Try.prog 3 secR w.heap.size n D ∧ w'.ownsMap Try.prog 3 secR b n D ∧ Below w.heap.size w w' :=
  AnyW.maps_Clone_owns Try.cloneA 3 secR b n D w h

/-- A row of ints that a call made. -/
theorem row_form {w : World} {base : Nat} {e : TypeId} {v : Value} {F : List Int} (h : w.ownsRow base e 1 v F.length (F.map encZ)) :
    ∃ A c, v = .slice A F.length c ∧ (∀ k (hk : k < F.length), ∃ g o, A = some ⟨g, o, none⟩ ∧ base ≤ g ∧ g < w.heap.size ∧ w.cell? ⟨g, o + k, none⟩ = some (.int .i64 F[k])) := by
  rcases h.2 with ⟨rfl, h0⟩ | ⟨g, cap, cur, rfl, hb, hg, hle, hm, hsz, htk⟩
  · exact ⟨none, 0, by rw [h0], fun k hk => by omega⟩
  · refine ⟨some ⟨g, 0, none⟩, cap, rfl, fun k hk => ⟨g, 0, rfl, hb, (Array.getElem?_eq_some_iff.1 hg).1, ?_⟩⟩
    rw [cell_of_row _ _ _ _ _ _ hg]
    have h1 : (cur.toList.take (F.length * 1))[k]? = some (.int .i64 F[k]) := by rw [htk]; simp [hk]
    rw [List.getElem?_take] at h1
    simp only [Nat.mul_one, hk, if_true] at h1
    simpa using h1

/-- What a round of a crash meets. -/
theorem round_facts {p bs bw T : Nat} {D : DK} {wr : World} (h : DiskAt wr p bs bw D T) (i : Int) (h0 : -9223372036854775808 ≤ i) (h1 : i ≤ 9223372036854775807) :
    ∃ ls lw : List UInt8, ls.length = 64 ∧ lw.length = 64 ∧ D.sure.atKey (kz i) zlit = .lit (.string ls) ∧ D.wr.atKey (kz i) zlit = .lit (.string lw) ∧
      (Instr.lookup 88 (.map (some bs)) (.int .i64 i) false).run Try.prog wr = .ok (.agg (u8s ls).toArray) wr ∧
      (Instr.lookup 88 (.map (some bw)) (.int .i64 i) false).run Try.prog wr = .ok (.agg (u8s lw).toArray) wr ∧
      (Instr.lookup 88 (.map (some bs)) (.int .i64 i) false).run Try.prog wr.drew = .ok (.agg (u8s ls).toArray) wr.drew ∧
      (Instr.lookup 88 (.map (some bw)) (.int .i64 i) false).run Try.prog wr.drew = .ok (.agg (u8s lw).toArray) wr.drew ∧
      wr.cell? ⟨p, 1, none⟩ = some (.map (some bs)) ∧ wr.cell? ⟨p, 2, none⟩ = some (.map (some bw)) := by
  obtain ⟨hg, hne, ns, nw, h2, h3, h4⟩ := h
  obtain ⟨ls, l1, _, e1, d1⟩ := lookup_sec h2 i h0 h1
  obtain ⟨lw, l2, _, e2, d2⟩ := lookup_sec h3 i h0 h1
  obtain ⟨ls', l1', _, e1', d1'⟩ := lookup_sec (w := wr.drew) h2.drew i h0 h1
  obtain ⟨lw', l2', _, e2', d2'⟩ := lookup_sec (w := wr.drew) h3.drew i h0 h1
  obtain rfl : ls = ls' := Lit.string.inj (DataW.lit.inj (d1.symm.trans d1'))
  obtain rfl : lw = lw' := Lit.string.inj (DataW.lit.inj (d2.symm.trans d2'))
  unfold DK.cells at hg
  exact ⟨ls, lw, l1, l2, d1, d2, e1, e2, e1', e2', cell_of_row wr p 1 _ _ _ hg, cell_of_row wr p 2 _ _ _ hg⟩

/-- A round's end. -/
theorem crash_end {w2 w3 : World} {B ns k : Nat} {keep : List Bool} {torn cut : Int} {D : DK} {F : List Int} {S R : DataW Unit} (hk : k < F.length) (hS : w3.ownsMap Try.prog 3 secR B (ns + (k + 1)) S) (hc : crashL keep torn cut D (F.drop (k + 1)) (k + 1) S = R) (hf : Fr w2 w3 [B]) :
    (∃ k_1 : Nat, k_1 ≤ F.length ∧ Value.int IntKind.i64 ((k : Int) + 1) = Value.int IntKind.i64 (k_1 : Int) ∧ ∃ S, w3.ownsMap Try.prog 3 secR B (ns + k_1) S ∧ crashL keep torn cut D (F.drop k_1) k_1 S = R ∧ Fr w2 w3 [B]) ∧
      F.length - (intOf (Value.int IntKind.i64 ((k : Int) + 1))).toNat < F.length - (intOf (Value.int IntKind.i64 (k : Int))).toNat :=
  ⟨⟨k + 1, hk, by simp, S, hS, hc, hf⟩, by simp [intOf]; omega⟩

set_option maxRecDepth 100000 in
set_option maxHeartbeats 2000000 in
theorem crash_any (p bs bw T : Nat) (D : DK) (A : Option Addr) (c : Nat) (keep : List Bool) (torn cut : Int) (F : List Int) (w : World) (h : DiskAt w p bs bw D T) (hT : T ≤ 1000000000) (hF : KeysAre D.wr F) (hr : Rd w w.heap.size A (keep.map Value.bool)) :
    Calls Try.prog 24 #[.pointer (some ⟨p, 0, none⟩), .slice A keep.length c, .int .i64 torn, .int .i64 cut] w fun e w' => ∃ p' bs' bw', e = .returned (.pointer (some ⟨p', 0, none⟩)) ∧ w.heap.size ≤ p' ∧ w.heap.size ≤ bs' ∧ w.heap.size ≤ bw' ∧ DiskAt w' p' bs' bw' (D.crashed keep torn cut F) T ∧ Below w.heap.size w w' := by
  have hlt := h.lt
  have h' := h
  obtain ⟨hg, hne, ns, nw, h2, h3, h4⟩ := h'
  have hFn := hF.length h3
  have hFb := hF.bound h3
  have hcl := clone_any bs ns D.sure w h2
  unfold DK.cells at hg
  have a1 := cell_of_row w p 1 _ _ _ hg
  have HF := Lib.hid hF
  have HB := Lib.hid hFb
  have HD := Lib.hid h
  have HR := Lib.hid hr
  have HC := Lib.hid hcl
  have HN := Lib.hid (And.intro hlt (And.intro hT (And.intro h4 hFn)))
  clear hg h2 h3 hcl hF hFb h hr hlt hT h4 hFn hne
  go_enter Try.func24, Try.ntmps24
  go_wp2_with (first
    | (go_at_call 61; (with_reducible refine HC.out.mono ?_); rintro e w1 ⟨rfl, hS1, hs1, hb1⟩)
    | (go_at_call 62; (refine (unsure_list p bs bw T D F w1 (HD.out.below hb1 HN.out.1.1 HN.out.1.2.1 HN.out.1.2.2) HN.out.2.1 HF.out).mono ?_); rintro e w2 ⟨v, rfl, hrow, hb2⟩; obtain ⟨A', c', rfl, hcells⟩ := row_form hrow)
    | go_in)
  have hp1 := hb1.size
  have hp2 := hb2.size
  obtain ⟨hlt, hT, h4, hFn⟩ := HN.out
  have hD2 : DiskAt w2 p bs bw D T := (HD.out.below hb1 hlt.1 hlt.2.1 hlt.2.2).below hb2 (by omega) (by omega) (by omega)
  have hR2 : Rd w2 w.heap.size A (keep.map Value.bool) := (HR.out.below hb1 (Nat.le_refl _)).below hb2 (by omega)
  have hS2 := map_below hS1 hb2 hS1.lt
  have hb02 : Below w.heap.size w w2 := hb1.trans ⟨hb2.os, hb2.tape, hb2.output, hb2.size, fun k hk => hb2.block k (by omega)⟩
  have hbs1 := hS1.lt
  have HD2 := Lib.hid hD2
  have HR2 := Lib.hid hR2
  have HB2 := Lib.hid hb02
  have HRow := Lib.hid hcells
  have HS1 := Lib.hid (And.intro hbs1 hp2)
  clear hD2 hR2 hb02 hrow hcells hb1 hb2 hs1 hS1 hbs1 hp1 hp2 HR HD HC a1 hT hlt h4 hFn
  have hst : crashL keep torn cut D (F.drop 0) 0 D.sure = crashL keep torn cut D F 0 D.sure := by rw [List.drop_zero]
  go_loopw [20] (fun i wr => ∃ k : Nat, k ≤ F.length ∧ i = .int .i64 (k : Int) ∧ ∃ S, wr.ownsMap Try.prog 3 secR w.heap.size (ns + k) S ∧ crashL keep torn cut D (F.drop k) k S = crashL keep torn cut D F 0 D.sure ∧ Fr w2 wr [w.heap.size])
    (fun i _ => F.length - (intOf i).toNat)
  case atStart => exact ⟨0, Nat.zero_le _, rfl, D.sure, hS2, hst, Fr.refl _ _⟩
  case round =>
    obtain ⟨k, hk, rfl, S, hS, hc, hfr⟩ := hrel
    have HFR := Lib.hid hfr
    by_cases hkl : k < F.length
    · obtain ⟨g, o, rfl, hge, hglt, hc2⟩ := HRow.out k hkl
      obtain ⟨⟨n1, n2, n3⟩, hT, h4, hFn⟩ := HN.out
      have hcell : wr.cell? ⟨g, o + k, none⟩ = some (.int .i64 F[k]) := by
        rw [← hc2]; exact World.cell?_of_block (hfr.block g hglt (by have := HS1.out.1; simp; omega))
      have hDr := HD2.out.fr hfr (by simp; omega) (by simp; omega) (by simp; omega)
      have hib := HB.out F[k] (List.getElem_mem hkl)
      have hcs := crashL_step keep torn cut D F k S hkl
      obtain ⟨i, hi⟩ : ∃ i, i = F[k] := ⟨_, rfl⟩
      rw [← hi] at hcell hib hcs
      obtain ⟨ls, lw, l1, l2, d1, d2, eS, eW, eS', eW', a1, a2⟩ := round_facts hDr i hib.1 hib.2
      have hki := kz_of i hib.1 hib.2
      have hkb : (k : Int) + 1 ≤ 1000000000 := by omega
      have hkI : (k : Int) < (F.length : Int) := by omega
      have hml : ns + k < maxLen := by have : (1000000000 : Nat) < maxLen := by decide
                                       omega
      rw [hc] at hcs
      unfold crashStep at hcs
      rw [d1, d2] at hcs
      have HCS := Lib.hid hcs
      have HL := Lib.hid (And.intro l1 l2)
      have HK := Lib.hid (And.intro hki hml)
      have HS := Lib.hid hS
      have HX := Lib.hid (And.intro hk (And.intro hkl hfr))
      clear hc2 hDr hib hcs hi l1 l2 d1 d2 hki hml hc hfr hge hglt n1 n2 n3 hT h4 hFn hS hS2 hst HFR hkl hk
      by_cases hkk : k < keep.length
      · obtain ⟨kb, ko, rfl, hkbl, hck2⟩ := HR2.out.get (k := k) (by simpa using hkk)
        have hck : wr.cell? ⟨kb, ko + k, none⟩ = some (.bool keep[k]) := by
          have := hck2
          simp only [List.getElem_map] at this
          rw [← this]; exact World.cell?_of_block (HX.out.2.2.block kb (by have := HB2.out.size; omega) (by simp; omega))
        have hkK : (k : Int) < (keep.length : Int) := by omega
        have hke : keep[k]? = some keep[k] := List.getElem?_eq_getElem hkk
        obtain ⟨b, hb⟩ : ∃ b, b = keep[k] := ⟨_, rfl⟩
        rw [← hb] at hck hke
        have HKE := Lib.hid hke
        clear hb hke hck2 hkbl hkk
        cases b with
        | true =>
          go_wp2_with (first
            | (at_mapUpdate; refine wpList_mapUpdate_own _ rfl _ _ _ 88 rfl 3 109 keyZ Try.underlying88 secR w.heap.size _ _ rfl HS.out HK.out.2 _ _ _ rfl rfl HK.out.1 _ _ (secR_mk lw HL.out.2) ?_; intro w3 hS3 hg3)
            | go_in)
          have hcs := HCS.out
          rw [if_pos HKE.out] at hcs
          obtain ⟨hk, hkl, hfr⟩ := HX.out
          exact crash_end hkl (hS3.mono (by omega)) hcs.symm (hfr.trans (Fr.of_grown hg3))
        | false =>
          by_cases ht : (k : Int) = torn
          · subst ht
            have htw := tear_any ls lw cut wr.drew HL.out.1 HL.out.2
            have hS3 := map_below HS.out.drew (tearW_below wr.drew ls lw cut) HS.out.lt
            obtain ⟨w3, hrun, hS4, hg4⟩ := hS3.update keyZ Try.underlying88 HK.out.2 HK.out.1 (secR_mk _ (tearL_len ls lw cut HL.out.1 HL.out.2))
            have hcs := HCS.out
            rw [if_neg (by rw [HKE.out]; simp), if_pos rfl] at hcs
            have hf3 : Fr wr w3 [w.heap.size] := ((Fr.refl wr [w.heap.size]).drew).trans ((Fr.of_below (tearW_below wr.drew ls lw cut) _).trans (Fr.of_grown hg4))
            have HTW := Lib.hid htw
            have HS4 := Lib.hid (And.intro hS4 (And.intro hf3 hcs))
            clear htw hS3 hS4 hg4 hcs hf3
            go_wp2_with go_in
            go_region_with (go_at_call 63; (with_reducible refine HTW.out.mono ?_); rintro e w' ⟨rfl, rfl⟩)
            all_goals (clear eS eW eS' eW' hrun HTW; go_wp2_with go_in; exact crash_end HX.out.2.1 (HS4.out.1.mono (by omega)) HS4.out.2.2.symm (HX.out.2.2.trans HS4.out.2.1))
          · have hcs := HCS.out
            rw [if_neg (by rw [HKE.out]; simp), if_neg ht] at hcs
            have HCS2 := Lib.hid hcs
            have hbq : ((k : Int) == torn) = false := by simpa using ht
            clear hcs ht eS eW eS' eW'
            go_wp2_with go_in
            exact crash_end HX.out.2.1 (HS.out.mono (by omega)) HCS2.out.symm HX.out.2.2
      · have HKE := Lib.hid (show keep[k]? = none from List.getElem?_eq_none (by omega))
        have hkK : ¬ ((k : Int) < (keep.length : Int)) := by omega
        clear hkk
        by_cases ht : (k : Int) = torn
        · subst ht
          have htw := tear_any ls lw cut wr.drew HL.out.1 HL.out.2
          have hS3 := map_below HS.out.drew (tearW_below wr.drew ls lw cut) HS.out.lt
          obtain ⟨w3, hrun, hS4, hg4⟩ := hS3.update keyZ Try.underlying88 HK.out.2 HK.out.1 (secR_mk _ (tearL_len ls lw cut HL.out.1 HL.out.2))
          have hcs := HCS.out
          rw [if_neg (by rw [HKE.out]; simp), if_pos rfl] at hcs
          have hf3 : Fr wr w3 [w.heap.size] := ((Fr.refl wr [w.heap.size]).drew).trans ((Fr.of_below (tearW_below wr.drew ls lw cut) _).trans (Fr.of_grown hg4))
          have HTW := Lib.hid htw
          have HS4 := Lib.hid (And.intro hS4 (And.intro hf3 hcs))
          clear htw hS3 hS4 hg4 hcs hf3
          go_wp2_with go_in
          go_region_with (go_at_call 63; (with_reducible refine HTW.out.mono ?_); rintro e w' ⟨rfl, rfl⟩)
          all_goals (clear eS eW eS' eW' hrun HTW; go_wp2_with go_in; exact crash_end HX.out.2.1 (HS4.out.1.mono (by omega)) HS4.out.2.2.symm (HX.out.2.2.trans HS4.out.2.1))
        · have hcs := HCS.out
          rw [if_neg (by rw [HKE.out]; simp), if_neg ht] at hcs
          have HCS2 := Lib.hid hcs
          have hbq : ((k : Int) == torn) = false := by simpa using ht
          clear hcs ht eS eW eS' eW'
          go_wp2_with go_in
          exact crash_end HX.out.2.1 (HS.out.mono (by omega)) HCS2.out.symm HX.out.2.2
    · obtain ⟨⟨n1, n2, n3⟩, hT, h4, hFn⟩ := HN.out
      have hkl2 : k = F.length := by omega
      subst hkl2
      rw [List.drop_length] at hc
      have hc' : S = crashL keep torn cut D F 0 D.sure := hc
      have hDr := HD2.out.fr hfr (by simp; omega) (by simp; omega) (by simp; omega)
      have hg := hDr.1
      unfold DK.cells at hg
      have a0 := cell_of_row wr p 0 _ _ _ hg
      have hdo := diskOf_any D.size w.heap.size (ns + F.length) S wr hS
      have HDO := Lib.hid hdo
      have HX := Lib.hid (And.intro hc' hfr)
      clear hdo hc hc' hfr hDr hg hS hS2 hst HFR n1 n2 n3 hT h4 hFn
      go_wp2_with (go_at_call 42; (with_reducible refine HDO.out.mono ?_); rintro e w' ⟨rfl, hD, hF'⟩)
      go_ret
      obtain ⟨hc', hfr⟩ := HX.out
      obtain ⟨⟨n1, n2, n3⟩, hT, h4, hFn⟩ := HN.out
      subst hc'
      have hw2 := HB2.out.size
      have hwr := hfr.size
      refine ⟨_, _, _, rfl, by omega, Nat.le_refl _, by omega, hD.mono (by omega), HB2.out.trans ((hfr.below hw2 (by simp)).trans (hF'.below (by omega) (by simp)))⟩
end Go.Proofs.Ytnjljalihjkmcaa
