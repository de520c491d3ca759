/- The law SpanPairs, walked. -/
import Derived.Test.YtmldiojlglpoiaaSpGD
import Derived.Test.YtmldiojlglpoiaaSpV
import Derived.Test.YtmldiojlglpoiaaJnN
import Derived.Test.YtmldiojlglpoiaaJnD
namespace Go.Proofs.Ytmldiojlglpoiaa
open Go.RowKit Go.Maps Go.Sort

theorem LV.Ok.frS {w w' : World} {x : LV} {S : List Nat} (h : x.Ok w) (hf : Fr w w' S) (hP : BlkP (fun b => b ∉ S) x) : x.Ok w' := by
  refine ⟨fun hn => ?_, fun t ht => ?_, h.cap, h.sm⟩
  · obtain ⟨b, o, e, hb, hc⟩ := h.rd hn
    refine ⟨b, o, e, Nat.lt_of_lt_of_le hb hf.size, fun j u hu => ?_⟩
    rw [← hc j u hu]
    unfold World.cell?
    rw [hf.block b hb (hP.1 _ e)]
  · have h1 := h.ok t ht
    refine ⟨fun hn => ?_, h1.cap, h1.sm⟩
    obtain ⟨b, o, e, hb, hc⟩ := h1.rd hn
    refine ⟨b, o, e, Nat.lt_of_lt_of_le hb hf.size, fun j u hu => ?_⟩
    rw [← hc j u hu]
    unfold World.cell?
    rw [hf.block b hb (hP.2 t ht _ e)]
theorem copy_eds (W : World) {A : Option Addr} {c : Nat} {l : List Ed} (h : Eds W A c l) :
    ∃ A5 c5 w5, (Builtin.append_ #[22, 22] 22 #[.slice (some ⟨W.heap.size, 0, none⟩) 0 0, .slice A l.length c]).run Try.prog (W.alloc (.cells #[] 48)) = .ok (.slice A5 l.length c5) w5 ∧ Eds w5 A5 c5 l ∧ Below W.heap.size W w5 := by
  have hb1 : Below W.heap.size W (W.alloc nlE) := (Below.refl _ _).alloc (Nat.le_refl _) _
  obtain ⟨A5, c5, w5, hrun, hown, hg⟩ := app_eds (A := A) (c := c) hb1 (own_lit0 W (Nat.le_refl _)) h.rd (Nat.le_refl _) (by have := h.sm; omega)
  obtain ⟨A6, c6, e, h1, _, h3⟩ := own_shape hown
  injection e with e1 e2 e3
  subst e1 e3
  exact ⟨A5, c5, w5, hrun, ⟨h3, h1, h.ok, h.sm⟩, hb1.trans (grown_below' hg (fun k hk => by cases hk; exact Nat.le_refl _) hb1.size)⟩
theorem Eds.es {w : World} {A : Option Addr} {c : Nat} {l : List Ed} (h : Eds w A c l) : Es w A c l := ⟨h.rd, h.cap, by have := h.sm; omega⟩
theorem pairsR_two {lab : Nm} {E : List Pr} {t : Tu} (h : t ∈ pairsR lab E) : t.length = 2 := by
  unfold pairsR at h
  split at h
  · simp at h
  · split at h
    · simp at h
    · obtain ⟨a, b, rfl, _⟩ := mem_spanL.1 h
      rfl
set_option maxRecDepth 100000 in
set_option maxHeartbeats 8000000 in
theorem spanPairs_walk (lab : Nm) (A : Option Addr) (l : List Ed) (c : Nat) (W : World) (he : EdsRaw W A c l) (hlm : lab.length ≤ maxLen) : Calls Try.prog 3 #[.string ⟨lab.toArray⟩, .slice A l.length c] W fun e w' => e = .returned (.bool true) ∧ Below W.heap.size W w' := by
  have HAW := Lib.hid awake13_any
  by_cases h20 : l.length ≤ 20
  · have hlI : ¬ (20 : Int) < (l.length : Int) := by omega
    by_cases h300 : lab.length ≤ 300
    · have hnI : ¬ (300 : Int) < (lab.length : Int) := by omega
      have HE := Lib.hid (And.intro (he.ok (by omega)) (And.intro h20 hlm))
      clear he h20 h300
      go_enter Try.func3, Try.ntmps3
      go_upto_region 3 with (go_at_call 15; (with_reducible refine (HAW.out _).mono ?_); rintro e w1 ⟨rfl, hb1⟩; have B1 := Lib.hid hb1; clear hb1)
      clear HAW
      obtain ⟨eA, ec, w6, hrun, hE6, b6⟩ := copy_eds w1 (HE.out.1.below B1.out)
      go_upto_region 4 with (at_builtin; refine wpL_appK _ rfl (.tmp 26) (.tmp 27) 22 rfl rfl _ _ _ _ rfl rfl hrun ?_)
      have H6 := Lib.hid (And.intro (B1.out.trans (lower' b6 B1.out.size)) hE6)
      have hpa := fun w (h : Below w6.heap.size w6 w) => Pairs_any lab eA ec l w (hE6.below h).es
      have hrp := fun w (h : Below W.heap.size W w) => rpairs_any lab A c l w (HE.out.1.below h).es HE.out.2.1 HE.out.2.2
      have hr2 : ∀ t ∈ pairsR lab (prsL lab l), t.length = 2 := fun t ht => pairsR_two ht
      generalize pairsC lab (prsL lab l) = C at hpa hrp
      generalize pairsR lab (prsL lab l) = R at hpa hrp hr2
      have HPA := Lib.hid hpa
      have HRP := Lib.hid hrp
      have HR2 := Lib.hid hr2
      clear hrun b6 hE6 hpa hrp hr2
      have HP6 := Lib.hid (HPA.out w6 (Below.refl _ _))
      go_upto_region 5 with (go_at_call 16; (with_reducible refine HP6.out.mono ?_); rintro e w7 ⟨y, rfl, o7, k7, e7, b7, _⟩; have B7 := Lib.hid b7; have Y7 := Lib.hid (And.intro o7 (And.intro k7 e7)); clear o7 k7 e7 b7)
      clear HP6
      have HR7 := Lib.hid (HRP.out w7 (H6.out.1.trans (lower' B7.out H6.out.1.size)))
      go_upto_region 6 with (go_at_call 17; (with_reducible refine HR7.out.mono ?_); rintro e w9 ⟨s, rfl, k9, e9, b9, p9⟩; have B9 := Lib.hid b9; have S9 := Lib.hid (And.intro k9 (And.intro e9 p9)); clear k9 e9 b9 p9)
      clear HR7 HRP
      have hs9 := same10_any y s w9 (Y7.out.2.1.below B9.out) S9.out.1
      rw [decide_eq_true (Y7.out.2.2.trans S9.out.2.1.symm)] at hs9
      have HS9 := Lib.hid hs9
      clear hs9
      go_upto_region 8 with (go_at_call 18; (with_reducible refine HS9.out.mono ?_); rintro e w10 ⟨rfl, hd⟩; have B10 := Lib.hid (below_drawn hd); clear hd)
      clear HS9
      have hb710 := B9.out.trans (lower' B10.out B9.out.size)
      have ho10 := Y7.out.1.below hb710
      have hk10 := Y7.out.2.1.below hb710
      have hlt := OwnL.lt Y7.out.1
      have B610 := Lib.hid (B7.out.trans (lower' hb710 B7.out.size))
      have S10 := Lib.hid (And.intro (S9.out.1.below B10.out) S9.out.2)
      have hrng := blksL_rng Y7.out.1 hlt
      have hys := hk10.sm
      have h2 : ∀ t ∈ y.ts, t.l.length = 2 := fun t ht => HR2.out t.l (by rw [← Y7.out.2.2]; exact List.mem_map_of_mem ht)
      obtain ⟨rA, ts, rc⟩ := y
      have h0 : SpAt w10 w10 w6.heap.size (.slice rA ts.length rc) (blksL ⟨rA, ts, rc⟩) ts := SpAt.start ho10
      obtain ⟨S, hS⟩ : ∃ S, S = blksL ⟨rA, ts, rc⟩ := ⟨_, rfl⟩
      rw [← hS] at h0 hrng
      obtain ⟨n, hn⟩ : ∃ n, n = ts.length := ⟨_, rfl⟩
      dsimp only at hys h2 ⊢
      rw [← hn] at h0 hys ⊢
      have HA := Lib.hid (And.intro h0 (And.intro h2 (And.intro hn B610.out.size)))
      have HSR := Lib.hid hrng
      have hs := hys
      clear h0 h2 hn hrng hlt ho10 hk10 hb710 hS Y7 S9 B10 B9 HR2
      obtain ⟨lo, hlo⟩ : ∃ lo, lo = w6.heap.size := ⟨_, rfl⟩
      rw [← hlo] at HA
      go_wp2_with (fail)
      go_loopw [52] (fun i wr => ∃ (k : Nat) (us : List TV), k ≤ n ∧ i = .int .i64 (k : Int) ∧ Hid (us.length = n ∧ (∀ j, (hj : j < us.length) → k ≤ j → us[j].l.length = 2) ∧ SpAt w10 wr lo (.slice rA n rc) S us)) (fun i _ => n - (intOf i).toNat)
      case atStart => exact ⟨0, ts, by omega, rfl, Lib.hid ⟨HA.out.2.2.1.symm, fun j hj _ => HA.out.2.1 _ (List.getElem_mem hj), HA.out.1⟩⟩
      case round =>
        obtain ⟨k, us, hk, rfl, HU⟩ := hrel
        rename World => wr
        by_cases hlt : k < n
        · have hku : k < us.length := by rw [HU.out.1]; exact hlt
          have hform := own_form HU.out.2.2.row (by omega)
          obtain ⟨gr, cr, e, hg1, hg2, hg3, hg4⟩ := hform
          rw [HU.out.1] at e
          injection e with eA _ ec'
          subst eA ec'
          have hgk : ∀ (W : World) (vs : List TV), OwnT W lo (.slice (some ⟨gr, 0, none⟩) n rc) vs → ∀ (hv : vs.length = n) (hq : k < vs.length), W.cell? ⟨gr, k, none⟩ = some (.slice vs[k].A vs[k].l.length vs[k].c) ∧ W.frozen? ⟨gr, k, none⟩ = false := fun W vs ho hv hq => by
            unfold OwnT at ho
            rw [hv] at ho
            refine ⟨?_, World.ownsRow.frozenAt ho k⟩
            rw [World.ownsRow.cellAt ho k (by omega)]
            simp [vals, TV.val, hq]
          have hu2 : us[k].l.length = 2 := HU.out.2.1 k hku (Nat.le_refl _)
          have hcell' := (hgk wr us HU.out.2.2.row HU.out.1 hku).1
          have HGK := Lib.hid hgk
          have hti := HU.out.2.2.tup _ (List.getElem_mem hku)
          obtain ⟨gt, ct, et, -, -, -, -⟩ := own_form hti (by omega)
          unfold TV.val at et
          injection et with etA etB etc
          have hti' := hti
          unfold OwnI TV.val at hti'
          rw [etA] at hti'
          have k2 := World.ownsRow.cellAt hti' 0 (by omega)
          have f2 := World.ownsRow.frozenAt hti' 0
          have k2' : wr.cell? ⟨gt, 0, none⟩ = some (.int .i64 (us[k].l[0]'(by omega))) := by rw [k2]; simp [intsV, show 0 < us[k].l.length by omega]
          generalize (us[k].l[0]'(by omega)) = z at k2'
          have HT := Lib.hid (HU.out.2.2.tick hku etA 0 (wrap64 (z + 1)))
          obtain ⟨yc, hyc⟩ : ∃ a, a = us[k].c := ⟨_, rfl⟩
          rw [hu2, etA, ← hyc] at hcell'
          have HX := Lib.hid (And.intro etA (And.intro hyc hu2))
          have g0 : (k : Int) < (n : Int) := by omega
          have g1 : (0 : Int) ≤ (k : Int) := by omega
          clear hg1 hg2 hg3 hg4 hgk hti hti' k2 hyc hu2 etA etB etc
          go_upto_region 12 with (fail)
          obtain ⟨w1, hw1⟩ : ∃ w1, w1 = wr.setCell ⟨gt, 0, none⟩ (.int .i64 (wrap64 (z + 1))) := ⟨_, rfl⟩
          rw [← hw1]
          have h1 := HT.out
          rw [← hw1] at h1
          obtain ⟨vs, hvs⟩ : ∃ vs : List TV, vs.length = n ∧ (∀ hq : k < vs.length, vs[k].A = some ⟨gt, 0, none⟩ ∧ vs[k].c = yc ∧ vs[k].l.length = 2) ∧ (∀ j, (hj : j < vs.length) → k + 1 ≤ j → vs[j].l.length = 2) ∧ SpAt w10 w1 lo (.slice (some ⟨gr, 0, none⟩) n rc) S vs :=
            ⟨_, by rw [List.length_set]; exact HU.out.1, fun hq => by rw [List.getElem_set_self]; exact ⟨HX.out.1, HX.out.2.1.symm, by dsimp only; rw [List.length_set]; exact HX.out.2.2⟩, fun j hj hkj => by rw [List.getElem_set_ne (by omega)]; exact HU.out.2.1 j (by simpa using hj) (by omega), h1⟩
          have HV := Lib.hid hvs
          clear hvs h1 HT HX hw1 hcell' k2' f2 hku HU
          have hkv : k < vs.length := by rw [HV.out.1]; exact hlt
          obtain ⟨e1, e2, e3⟩ := HV.out.2.1 hkv
          obtain ⟨k1, f1⟩ := HGK.out _ vs HV.out.2.2.2.row HV.out.1 hkv
          rw [e1, e2, e3] at k1
          have hti := HV.out.2.2.2.tup _ (List.getElem_mem hkv)
          have hbig : vs[k].l.length ≤ 5000 := by omega
          obtain ⟨u, w5, hrun, hul, hou, hgr, hat⟩ := run_app99 w1 lo vs[k] hti hbig (Nat.le_trans HA.out.2.2.2 HV.out.2.2.2.fr.size) 4
          have hS5 := HV.out.2.2.2
          have happ : SpAt w10 (w5.setCell ⟨gr, k, none⟩ (.slice u.A u.l.length u.c)) lo (.slice (some ⟨gr, 0, none⟩) n rc) S (vs.set k u) := by
            have hh : SpAt w10 w1 lo (.slice (some ⟨gr, 0, none⟩) vs.length rc) S vs := by rw [HV.out.1]; exact hS5
            have := hh.app hkv hou hgr hat
            rw [HV.out.1] at this
            exact this
          rw [e1, e2, e3] at hrun
          have hrow5 : w5.cell? ⟨gr, k, none⟩ = some (.slice (some ⟨gt, 0, none⟩) 2 yc) ∧ w5.frozen? ⟨gr, k, none⟩ = false := by
            have hb1 : Below w1.heap.size w1 (w1.alloc (.cells #[.int .i64 4] 3)) := (Below.refl _ _).alloc (Nat.le_refl _) _
            have hf1 : Fr (w1.alloc (.cells #[.int .i64 4] 3)) w5 vs[k].val.ownBlock.toList := by
              rcases e : vs[k].val.ownBlock with _ | g
              · rw [e] at hgr; exact Fr.of_grown0 hgr _
              · rw [e] at hgr; exact Fr.of_grown hgr
            have hr1 := own_below hS5.row hb1 (Nat.le_refl _)
            have hr5 : OwnT w5 lo (.slice (some ⟨gr, 0, none⟩) n rc) vs := rowFrS hr1 hf1 fun s hs hms => own_apart (OwnI.below hti hb1) hr1 (by decide) s hms hs
            have := HGK.out w5 vs hr5 HV.out.1 hkv
            rw [e1, e2, e3] at this
            exact this
          have HP := Lib.hid happ
          obtain ⟨k5, f5⟩ := hrow5
          clear hti hul hou hgr hat hS5 happ e1 e2 e3 f1 hbig
          go_wp2_with (at_builtin; refine wpL_appK _ rfl (.tmp 68) (.tmp 69) 32 rfl rfl _ _ _ _ rfl rfl hrun ?_)
          go_roundw
          case rel =>
            refine ⟨k + 1, vs.set k u, by omega, by go_num, Lib.hid ⟨by rw [List.length_set]; exact HV.out.1, fun j hj hkj => ?_, HP.out⟩⟩
            rw [List.getElem_set_ne (by omega)]
            exact HV.out.2.2.1 j (by simpa using hj) hkj
          case measure => simp [intOf]; omega
        · have g0 : ¬ (k : Int) < (n : Int) := by omega
          have hfr := HU.out.2.2.fr
          have hbe := B610.out.trans (hfr.below B610.out.size (fun s hs => (HSR.out s hs).1))
          have hsr := LV.Ok.frS S10.out.1 hfr ⟨fun a ha hm => by have h1 := (HSR.out _ hm).2; have h2 := S10.out.2.2.1 a ha; omega, fun t ht a ha hm => by have h1 := (HSR.out _ hm).2; have h2 := S10.out.2.2.2 t ht a ha; omega⟩
          have HQ := Lib.hid (And.intro hbe hsr)
          have HPZ := Lib.hid (HPA.out wr hbe)
          clear hfr hbe hsr HU
          go_upto_region 15 with (go_at_call 16; (with_reducible refine HPZ.out.mono ?_); rintro e w12 ⟨t2, rfl, _, k12, e12, b12, _⟩; have B12 := Lib.hid (And.intro b12 (HQ.out.1.trans (lower' b12 HQ.out.1.size))); have T12 := Lib.hid (And.intro k12 e12); clear k12 e12 b12)
          have hss := same10_any t2 s w12 T12.out.1 (HQ.out.2.below B12.out.1)
          rw [decide_eq_true (T12.out.2.trans S10.out.2.1.symm)] at hss
          have hes := fun w (h : Below w12.heap.size w12 w) => edges_same eA A ec c l w ((H6.out.2.below B12.out.2).below h) ((HE.out.1.below (H6.out.1.trans (lower' B12.out.2 H6.out.1.size))).below h)
          have HSS := Lib.hid hss
          have HES := Lib.hid hes
          clear hss hes
          go_wp2_with (first
            | (go_at_call 18; (with_reducible refine HSS.out.mono ?_); rintro e w13 ⟨rfl, hd⟩; have B13 := Lib.hid (below_drawn hd); have HES3 := Lib.hid (HES.out w13 B13.out); clear hd)
            | (go_at_call 19; (with_reducible refine HES3.out.mono ?_); rintro e w15 ⟨rfl, b15⟩; have B15 := Lib.hid (B13.out.trans (lower' b15 B13.out.size)); clear b15))
          go_ret
          exact ⟨by simp, H6.out.1.trans (lower' (B12.out.2.trans (lower' B15.out B12.out.2.size)) H6.out.1.size)⟩
    · have hnI : (300 : Int) < (lab.length : Int) := by omega
      clear he h20 h300
      go_enter Try.func3, Try.ntmps3
      go_upto_region 2 with (go_at_call 15; (with_reducible refine (HAW.out _).mono ?_); rintro e w1 ⟨rfl, hb1⟩; have B1 := Lib.hid hb1; clear hb1)
      go_wp2_with (go_at_call 15; (with_reducible refine (HAW.out _).mono ?_); rintro e w2 ⟨rfl, hb2⟩; have B2 := Lib.hid (B1.out.trans (lower' hb2 B1.out.size)); clear hb2)
      go_ret
      exact ⟨rfl, B2.out⟩
  · have hlI : (20 : Int) < (l.length : Int) := by omega
    clear he h20
    go_enter Try.func3, Try.ntmps3
    go_upto_region 2 with (go_at_call 15; (with_reducible refine (HAW.out _).mono ?_); rintro e w1 ⟨rfl, hb1⟩; have B1 := Lib.hid hb1; clear hb1)
    go_wp2_with (go_at_call 15; (with_reducible refine (HAW.out _).mono ?_); rintro e w2 ⟨rfl, hb2⟩; have B2 := Lib.hid (B1.out.trans (lower' hb2 B1.out.size)); clear hb2)
    go_ret
    exact ⟨rfl, B2.out⟩
end Go.Proofs.Ytmldiojlglpoiaa
