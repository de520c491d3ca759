/- The law JoinRows, walked. -/
import Derived.Test.YtgldcahhliokeaaJoBV
import Derived.Test.YtgldcahhliokeaaJoBR
import Derived.Test.YtgldcahhliokeaaJoBF
import Derived.Test.YtgldcahhliokeaaJnD
namespace Go.Proofs.Ytgldcahhliokeaa
open Go.RowKit Go.Maps

theorem LV.Ok.frS {w w' : World} {x : LV} {S : List Nat} (h : x.Ok w) (hf : Fr w w' S) (hP : BlkP (fun b => b ∉ S) x) : x.Ok w' := by
  refine ⟨fun hn => ?_, fun t ht => ?_, h.cap, h.sm⟩
  · obtain ⟨b, o, e, hb, hc⟩ := h.rd hn
    refine ⟨b, o, e, Nat.lt_of_lt_of_le hb hf.size, fun j u hu => ?_⟩
    rw [← hc j u hu]
    unfold World.cell?
    rw [hf.block b hb (hP.1 _ e)]
  · have h1 := h.ok t ht
    refine ⟨fun hn => ?_, h1.cap, h1.sm⟩
    obtain ⟨b, o, e, hb, hc⟩ := h1.rd hn
    refine ⟨b, o, e, Nat.lt_of_lt_of_le hb hf.size, fun j u hu => ?_⟩
    rw [← hc j u hu]
    unfold World.cell?
    rw [hf.block b hb (hP.2 t ht _ e)]
theorem copy_eds (W : World) {A : Option Addr} {c : Nat} {l : List Ed} (h : Eds W A c l) :
    ∃ A5 c5 w5, (Builtin.append_ #[26, 26] 26 #[.slice (some ⟨W.heap.size, 0, none⟩) 0 0, .slice A l.length c]).run Try.prog (W.alloc (.cells #[] 61)) = .ok (.slice A5 l.length c5) w5 ∧ Eds w5 A5 c5 l ∧ Below W.heap.size W w5 := by
  have hb1 : Below W.heap.size W (W.alloc nlE) := (Below.refl _ _).alloc (Nat.le_refl _) _
  obtain ⟨A5, c5, w5, hrun, hown, hg⟩ := app_eds (A := A) (c := c) hb1 (own_lit0 W (Nat.le_refl _)) h.rd (Nat.le_refl _) (by have := h.sm; omega)
  obtain ⟨A6, c6, e, h1, _, h3⟩ := own_shape hown
  injection e with e1 e2 e3
  subst e1 e3
  exact ⟨A5, c5, w5, hrun, ⟨h3, h1, h.ok, h.sm⟩, hb1.trans (grown_below' hg (fun k hk => by cases hk; exact Nat.le_refl _) hb1.size)⟩
set_option maxRecDepth 100000 in
set_option maxHeartbeats 8000000 in
theorem joinRows_walk (x : VW) (A : Option Addr) (l : List Ed) (c : Nat) (W : World) (hx : x.Raw W) (hl : x.v.Lens) (he : EdsRaw W A c l) : Calls Try.prog 3 #[.agg (vwA x), .slice A l.length c] W fun e w' => e = .returned (.bool true) ∧ Below W.heap.size W w' := by
  have HAW := Lib.hid jawake_any
  have hfi := fits_any x A l.length c
  have hb1 : Below W.heap.size W (W.alloc (.cells (vwA x) 25)) := (Below.refl _ _).alloc (Nat.le_refl _) _
  have hg1 := heap_alloc_new W (.cells (vwA x) 25)
  cases hf : fitsB x l.length with
  | false =>
    rw [hf] at hfi
    unfold vwA at hb1 hg1 hfi ⊢
    have HFI := Lib.hid hfi
    have HBX := Lib.hid (And.intro hg1 hb1)
    clear hx hl he hf hfi hb1 hg1
    go_enter Try.func3, Try.ntmps3
    go_wp2_with (first
      | (go_at_call 11; (with_reducible refine (HAW.out _).mono ?_); rintro e w1 ⟨rfl, hb1⟩; have B1 := Lib.hid (HBX.out.2.trans (lower' hb1 HBX.out.2.size)); obtain ⟨q0, q1, q2, q3, q4⟩ := box5 ((hb1.block W.heap.size (by simp)).trans HBX.out.1); clear hb1)
      | (go_at_call 12; (with_reducible refine (HFI.out _).mono ?_); rintro e w2 ⟨rfl, hb2⟩; have B2 := Lib.hid (B1.out.trans (lower' hb2 B1.out.size)); clear hb2 HBX q0 q1 q2 q3 q4 HFI)
      | (go_at_call 11; (with_reducible refine (HAW.out _).mono ?_); rintro e w3 ⟨rfl, hb3⟩; have B3 := Lib.hid (B2.out.trans (lower' hb3 B2.out.size)); clear hb3))
    go_ret
    exact ⟨rfl, B3.out⟩
  | true =>
    rw [hf] at hfi
    obtain ⟨f1, f2, f3⟩ := fits_facts hf
    have hok : x.Ok W := hx.ok (by omega) (by omega)
    have hE := he.ok (by omega)
    have hown := fun w (h : Below W.heap.size W w) => own_any x w (hok.below h)
    have hrR := fun w (h : Below W.heap.size W w) => rrows_any x A c l w (hok.below h) hl f2 (hE.below h)
    have hrS := fun w (h : Below W.heap.size W w) => rresult_any x A c l w (hok.below h) hl f2 (hE.below h)
    unfold vwA at hb1 hg1 hfi hown hrR hrS ⊢
    have H0 := Lib.hid (And.intro hok hE)
    have HFI := Lib.hid hfi
    have HBX := Lib.hid (And.intro hg1 hb1)
    have HOWN := Lib.hid hown
    have HRR := Lib.hid hrR
    have HRS := Lib.hid hrS
    clear hx hl he hf hok hE f1 f2 f3 hfi hb1 hg1 hown hrR hrS
    go_enter Try.func3, Try.ntmps3
    go_upto_region 3 with (first
      | (go_at_call 11; (with_reducible refine (HAW.out _).mono ?_); rintro e w1 ⟨rfl, hb1⟩; have B1 := Lib.hid (And.intro hb1 (HBX.out.2.trans (lower' hb1 HBX.out.2.size))); obtain ⟨q0, q1, q2, q3, q4⟩ := box5 ((hb1.block W.heap.size (by simp)).trans HBX.out.1); clear hb1 HAW)
      | (go_at_call 12; (with_reducible refine (HFI.out _).mono ?_); rintro e w2 ⟨rfl, hb2⟩; have B2 := Lib.hid (And.intro (B1.out.1.trans (lower' hb2 B1.out.1.size)) (B1.out.2.trans (lower' hb2 B1.out.2.size))); clear hb2 B1 HFI q0 q1 q2 q3 q4))
    obtain ⟨q0, q1, q2, q3, q4⟩ := box5 ((B2.out.1.block W.heap.size (by simp)).trans HBX.out.1)
    have HO2 := Lib.hid (HOWN.out w2 B2.out.2)
    go_upto_region 4 with (first
      | (go_at_call 13; (with_reducible refine HO2.out.mono ?_); rintro e w4 ⟨⟨oA, oc, aA, ac, v⟩, hv, rfl, k4, _, _, b4⟩; dsimp only at hv; subst hv; (try unfold vwA); (try dsimp only); obtain ⟨eA, ec, w5, hrun, hE5, b5⟩ := copy_eds w4 ((H0.out.2.below B2.out.2).below b4); have b45 := b4.trans (lower' b5 b4.size); have B5 := Lib.hid (And.intro (B2.out.1.trans (lower' b45 B2.out.1.size)) (And.intro (B2.out.2.trans (lower' b45 B2.out.2.size)) (And.intro (k4.below b5) hE5))); clear b45 b4 b5 k4 hE5 q0 q1 q2 q3 q4)
      | (at_builtin; refine wpL_appK _ rfl (.tmp 33) (.tmp 34) 26 rfl rfl _ _ _ _ rfl rfl hrun ?_))
    clear hrun HO2 HOWN
    have hb6 := (Below.refl w5.heap.size w5).alloc (Nat.le_refl _) (.cells #[.string ⟨x.v.name.toArray⟩, .int .i64 x.v.kind, .slice oA x.v.out.length oc, .slice aA x.v.atoms.length ac, .string ⟨x.v.label.toArray⟩] 25)
    have hg6 := heap_alloc_new w5 (.cells #[.string ⟨x.v.name.toArray⟩, .int .i64 x.v.kind, .slice oA x.v.out.length oc, .slice aA x.v.atoms.length ac, .string ⟨x.v.label.toArray⟩] 25)
    have hv6 := (hb6.block W.heap.size (by have := B5.out.2.1.size; have := B5.out.1.size; simp at this; omega)).trans ((B5.out.1.block W.heap.size (by simp)).trans HBX.out.1)
    have K6 := Lib.hid (And.intro hv6 (And.intro hg6 (And.intro (B5.out.2.1.trans (lower' hb6 B5.out.2.1.size)) (And.intro (B5.out.2.2.1.below hb6) (B5.out.2.2.2.below hb6)))))
    clear hb6 hg6 hv6 B5 B2 HBX
    generalize (w5.alloc (.cells #[.string ⟨x.v.name.toArray⟩, .int .i64 x.v.kind, .slice oA x.v.out.length oc, .slice aA x.v.atoms.length ac, .string ⟨x.v.label.toArray⟩] 25)) = w6 at K6 ⊢
    generalize w5.heap.size = g at K6 ⊢
    have hro := rows_any ⟨oA, oc, aA, ac, x.v⟩ eA ec l w6 K6.out.2.2.2.1 K6.out.2.2.2.2
    have hre := fun w (h : Below w6.heap.size w6 w) => result_any ⟨oA, oc, aA, ac, x.v⟩ eA ec l w (K6.out.2.2.2.1.below h) (K6.out.2.2.2.2.below h)
    unfold vwA at hro hre
    dsimp only at hro hre
    have HRO := Lib.hid hro
    have HRE := Lib.hid hre
    clear hro hre
    -- what lasts: all that lies below w6
    have HVB := Lib.hid (fun w (h : Below w6.heap.size w6 w) => box5 ((h.block _ (heap_lt K6.out.1)).trans K6.out.1))
    have HIB := Lib.hid (fun w (h : Below w6.heap.size w6 w) => box5 ((h.block _ (heap_lt K6.out.2.1)).trans K6.out.2.1))
    generalize hC : rowsC x.v l = C at HRO HRE HRR HRS
    clear hC
    obtain ⟨p0, p1, p2, p3, p4⟩ := HIB.out w6 (Below.refl _ _)
    go_upto_region 5 with (go_at_call 14; (with_reducible refine HRO.out.mono ?_); rintro e w7 ⟨y, rfl, o7, k7, e7, b7⟩; have B7 := Lib.hid b7; have Y7 := Lib.hid (And.intro o7 (And.intro k7 e7)); clear o7 k7 e7 b7 p0 p1 p2 p3 p4)
    obtain ⟨p0, p1, p2, p3, p4⟩ := HIB.out w7 B7.out
    have HR7 := Lib.hid (HRE.out w7 B7.out)
    go_upto_region 6 with (go_at_call 15; (with_reducible refine HR7.out.mono ?_); rintro e w8 ⟨t, n, rfl, _, k8, e8, _, m8, f8, b8⟩; have B8 := Lib.hid (And.intro b8 (B7.out.trans (lower' b8 B7.out.size))); have T8 := Lib.hid (And.intro k8 (And.intro e8 (And.intro m8 f8))); clear k8 e8 m8 f8 b8 p0 p1 p2 p3 p4)
    obtain ⟨q0, q1, q2, q3, q4⟩ := HVB.out w8 B8.out.2
    have HR8 := Lib.hid (HRR.out w8 (K6.out.2.2.1.trans (lower' B8.out.2 K6.out.2.2.1.size)))
    go_upto_region 7 with (go_at_call 16; (with_reducible refine HR8.out.mono ?_); rintro e w9 ⟨z, rfl, k9, e9, b9⟩; have B9 := Lib.hid (And.intro (B8.out.1.trans (lower' b9 B8.out.1.size)) (And.intro b9 (B8.out.2.trans (lower' b9 B8.out.2.size)))); have Z9 := Lib.hid (And.intro k9 e9); clear k9 e9 b9 q0 q1 q2 q3 q4)
    clear HR7 HR8 HRO HRR
    have hs9 := same10_any y z w9 (Y7.out.2.1.below B9.out.1) Z9.out.1
    rw [decide_eq_true (Y7.out.2.2.trans Z9.out.2.symm)] at hs9
    have HS9 := Lib.hid hs9
    clear hs9
    go_upto_region 9 with (go_at_call 17; (with_reducible refine HS9.out.mono ?_); rintro e wa ⟨rfl, hd⟩; have BA := Lib.hid (below_drawn hd); clear hd)
    have BA7 := Lib.hid (B9.out.1.trans (lower' BA.out B9.out.1.size))
    have BA8 := Lib.hid (B9.out.2.1.trans (lower' BA.out B9.out.2.1.size))
    have BA6 := Lib.hid (B9.out.2.2.trans (lower' BA.out B9.out.2.2.size))
    clear BA HS9
    obtain ⟨q0, q1, q2, q3, q4⟩ := HVB.out wa BA6.out
    have HRA := Lib.hid (HRS.out wa (K6.out.2.2.1.trans (lower' BA6.out K6.out.2.2.1.size)))
    go_upto_region 10 with (go_at_call 18; (with_reducible refine HRA.out.mono ?_); rintro e wb ⟨s, m, rfl, kb, eb, mb, fb, bb, pb⟩; have BB := Lib.hid bb; have SB := Lib.hid (And.intro kb (And.intro eb (And.intro mb (And.intro fb pb)))); clear kb eb mb fb bb pb q0 q1 q2 q3 q4)
    clear HRA HRS
    have B8b := BA8.out.trans (lower' BB.out BA8.out.size)
    have hsb := same10_any t s wb (T8.out.1.below B8b) SB.out.1
    rw [decide_eq_true (T8.out.2.1.trans SB.out.2.1.symm)] at hsb
    have hib := fun w (h : Below wb.heap.size wb w) => ints_any n m w ((T8.out.2.2.1.below B8b).below h) (SB.out.2.2.1.below h)
    rw [show decide (n.l = m.l) = true from decide_eq_true (T8.out.2.2.2.trans SB.out.2.2.2.1.symm)] at hib
    have HSB := Lib.hid hsb
    have HIBB := Lib.hid hib
    clear hsb hib B8b
    go_upto_region 12 with (first
      | (go_at_call 17; (with_reducible refine HSB.out.mono ?_); rintro e wc ⟨rfl, hd⟩; have BC := Lib.hid (below_drawn hd); have HIC := Lib.hid (HIBB.out wc BC.out); clear hd)
      | (go_at_call 19; (with_reducible refine HIC.out.mono ?_); rintro e w10 ⟨rfl, hd⟩; have B10 := Lib.hid (BC.out.trans (lower' hd BC.out.size)); clear hd))
    clear HSB HIBB HIC BC
    have hb710 := (BA7.out.trans (lower' BB.out BA7.out.size)).trans (lower' B10.out (BA7.out.trans (lower' BB.out BA7.out.size)).size)
    have ho10 := Y7.out.1.below hb710
    have hk10 := Y7.out.2.1.below hb710
    have hlt := (OwnL.lt Y7.out.1)
    have B610 := Lib.hid ((BA6.out.trans (lower' BB.out BA6.out.size)).trans (lower' B10.out (BA6.out.trans (lower' BB.out BA6.out.size)).size))
    have S10 := Lib.hid (And.intro (SB.out.1.below B10.out) (And.intro SB.out.2.1 SB.out.2.2.2.2))
    have hz7a : w7.heap.size ≤ wa.heap.size := BA7.out.size
    have hrng := blksL_rng Y7.out.1 hlt
    have hys := hk10.sm
    have hsm : ∀ t ∈ y.ts, t.l.length ≤ 5000 := fun t ht => (hk10.ok t ht).sm
    obtain ⟨rA, ts, rc⟩ := y
    have h0 : SpAt w10 w10 w6.heap.size (.slice rA ts.length rc) (blksL ⟨rA, ts, rc⟩) ts := SpAt.start ho10
    obtain ⟨S, hS⟩ : ∃ S, S = blksL ⟨rA, ts, rc⟩ := ⟨_, rfl⟩
    rw [← hS] at h0 hrng
    obtain ⟨n, hn⟩ : ∃ n, n = ts.length := ⟨_, rfl⟩
    dsimp only at hys hsm ⊢
    rw [← hn] at h0 hys ⊢
    have hHs : ts.length ≤ 5000 := by omega
    have HA := Lib.hid (And.intro h0 (And.intro hsm (And.intro hn B610.out.size)))
    have HSR := Lib.hid hrng
    have hs := hys
    clear h0 hsm hn hrng hlt hHs ho10 hk10 hb710 hS Y7 Z9 T8 SB BA7 BA8 BB B10 B9 B8
    obtain ⟨lo, hlo⟩ : ∃ lo, lo = w6.heap.size := ⟨_, rfl⟩
    rw [← hlo] at HA
    go_wp2_with (fail)
    go_loopw [88] (fun i wr => ∃ (k : Nat) (us : List TV), k ≤ n ∧ i = .int .i64 k ∧ Hid (us.length = n ∧ (∀ j, (hj : j < us.length) → k ≤ j → us[j].l.length ≤ 5000) ∧ SpAt w10 wr lo (.slice rA n rc) S us)) (fun i _ => n - (intOf i).toNat)
    case atStart => exact ⟨0, ts, by omega, rfl, Lib.hid ⟨HA.out.2.2.1.symm, fun j hj _ => HA.out.2.1 _ (List.getElem_mem hj), HA.out.1⟩⟩
    case round =>
      obtain ⟨k, us, hk, rfl, HU⟩ := hrel
      by_cases hlt : k < n
      · have hku : k < us.length := by rw [HU.out.1]; exact hlt
        have hform := own_form HU.out.2.2.row (by omega)
        obtain ⟨gr, cr, e, hg1, hg2, hg3, hg4⟩ := hform
        rw [HU.out.1] at e
        injection e with eA _ ec
        subst eA ec
        have hcell := World.ownsRow.cellAt (by have := HU.out.2.2.row; unfold OwnT at this; rw [HU.out.1] at this; exact this) k (by omega)
        have hcell' : wr.cell? ⟨gr, k, none⟩ = some (.slice us[k].A us[k].l.length us[k].c) := by rw [hcell]; simp [vals, TV.val, hku]
        obtain ⟨m, hm⟩ : ∃ m, m = us[k].l.length := ⟨_, rfl⟩
        have hm1 : m ≤ 5000 := by rw [hm]; exact HU.out.2.1 k hku (Nat.le_refl _)
        rw [← hm] at hcell'
        have g0 : (k : Int) < (n : Int) := by omega
        have g1 : (0 : Int) ≤ (k : Int) := by omega
        obtain ⟨yA, hyA⟩ : ∃ a, a = us[k].A := ⟨_, rfl⟩
        obtain ⟨yc, hyc⟩ : ∃ a, a = us[k].c := ⟨_, rfl⟩
        rw [← hyA, ← hyc] at hcell'
        have h0 : Hid (us.length = n ∧ (∀ hq : k < us.length, us[k].A = yA ∧ us[k].c = yc ∧ us[k].l.length = m) ∧ (∀ j, (hj : j < us.length) → k + 1 ≤ j → us[j].l.length ≤ 5000) ∧ SpAt w10 wr lo (.slice (some ⟨gr, 0, none⟩) n rc) S us) := Lib.hid ⟨HU.out.1, fun _ => ⟨hyA.symm, hyc.symm, hm.symm⟩, fun j hj h => HU.out.2.1 j hj (by omega), HU.out.2.2⟩
        have hgk : ∀ (W : World) (vs : List TV), OwnT W lo (.slice (some ⟨gr, 0, none⟩) n rc) vs → ∀ (hv : vs.length = n) (hq : k < vs.length), W.cell? ⟨gr, k, none⟩ = some (.slice vs[k].A vs[k].l.length vs[k].c) ∧ W.frozen? ⟨gr, k, none⟩ = false := fun W vs ho hv hq => by
          unfold OwnT at ho
          rw [hv] at ho
          refine ⟨?_, World.ownsRow.frozenAt ho k⟩
          rw [World.ownsRow.cellAt ho k (by omega)]
          simp [vals, TV.val, hq]
        have HGK := Lib.hid hgk
        clear hcell hm hg1 hg2 hg3 hg4 hyA hyc HU hgk
        go_wp2_with (fail)
        go_loopw [96] (fun j wq => ∃ (q : Nat) (vs : List TV), q ≤ m ∧ j = .int .i64 q ∧ Hid (vs.length = n ∧ (∀ hq : k < vs.length, vs[k].A = yA ∧ vs[k].c = yc ∧ vs[k].l.length = m) ∧ (∀ j, (hj : j < vs.length) → k + 1 ≤ j → vs[j].l.length ≤ 5000) ∧ SpAt w10 wq lo (.slice (some ⟨gr, 0, none⟩) n rc) S vs)) (fun j _ => m - (intOf j).toNat)
        case atStart => exact ⟨0, us, by omega, rfl, h0⟩
        case round =>
          obtain ⟨q, vs, hq, rfl, HV⟩ := hrel
          have hkv : k < vs.length := by rw [HV.out.1]; exact hlt
          obtain ⟨e1, e2, e3⟩ := HV.out.2.1 hkv
          obtain ⟨k1, f1⟩ := HGK.out _ vs HV.out.2.2.2.row HV.out.1 hkv
          rw [e1, e2, e3] at k1
          have hti := HV.out.2.2.2.tup _ (List.getElem_mem hkv)
          by_cases hqm : q < m
          · obtain ⟨gt, ct, et, _, _, _, _⟩ := own_form hti (by omega)
            unfold TV.val at et
            injection et with etA _ etc
            rw [e1] at etA
            have hti' := hti
            unfold OwnI TV.val at hti'
            rw [e1, etA] at hti'
            have k2 := World.ownsRow.cellAt hti' q (by omega)
            have f2 := World.ownsRow.frozenAt hti' q
            have k2' : wr.cell? ⟨gt, q, none⟩ = some (.int .i64 (vs[k].l[q]'(by omega))) := by rw [k2]; simp [intsV, show q < vs[k].l.length by omega]
            generalize (vs[k].l[q]'(by omega)) = z at k2'
            have HT := Lib.hid fun z => HV.out.2.2.2.tick hkv (e1.trans etA) q z
            have g2 : (q : Int) < (m : Int) := by omega
            have g3 : (0 : Int) ≤ (q : Int) := by omega
            subst etA
            clear hti hti' k2 e1 e2 e3 f1
            go_wp2_with (fail)
            go_roundw
            case rel =>
              refine ⟨q + 1, _, by omega, by go_num, Lib.hid ⟨?_, fun hh => ?_, fun j hj hkj => ?_, HT.out _⟩⟩
              · rw [List.length_set]; exact HV.out.1
              · rw [List.getElem_set_self]
                obtain ⟨e1, e2, e3⟩ := HV.out.2.1 hkv
                exact ⟨e1, e2, by dsimp only; rw [List.length_set]; exact e3⟩
              · rw [List.getElem_set_ne (by omega)]
                exact HV.out.2.2.1 j (by simpa using hj) hkj
            case measure => simp [intOf]; omega
          · have g2 : ¬ (q : Int) < (m : Int) := by omega
            have hbig : vs[k].l.length ≤ 5000 := by omega
            obtain ⟨u, w5, hrun, hul, hou, hgr, hat⟩ := run_app99 wr lo vs[k] hti hbig (Nat.le_trans HA.out.2.2.2 HV.out.2.2.2.fr.size) 9
            have hS5 := HV.out.2.2.2
            have happ : SpAt w10 (w5.setCell ⟨gr, k, none⟩ (.slice u.A u.l.length u.c)) lo (.slice (some ⟨gr, 0, none⟩) n rc) S (vs.set k u) := by
              have hh : SpAt w10 wr lo (.slice (some ⟨gr, 0, none⟩) vs.length rc) S vs := by rw [HV.out.1]; exact hS5
              have := hh.app hkv hou hgr hat
              rw [HV.out.1] at this
              exact this
            rw [e1, e2, e3] at hrun
            have hrow5 : w5.cell? ⟨gr, k, none⟩ = some (.slice yA m yc) ∧ w5.frozen? ⟨gr, k, none⟩ = false := by
              have hb1 : Below wr.heap.size wr (wr.alloc (.cells #[.int .i64 9] 3)) := (Below.refl _ _).alloc (Nat.le_refl _) _
              have hf1 : Fr (wr.alloc (.cells #[.int .i64 9] 3)) w5 vs[k].val.ownBlock.toList := by
                rcases e : vs[k].val.ownBlock with _ | g
                · rw [e] at hgr; exact Fr.of_grown0 hgr _
                · rw [e] at hgr; exact Fr.of_grown hgr
              have hr1 := own_below hS5.row hb1 (Nat.le_refl _)
              have hr5 : OwnT w5 lo (.slice (some ⟨gr, 0, none⟩) n rc) vs := rowFrS hr1 hf1 fun s hs hms => own_apart (OwnI.below hti hb1) hr1 (by decide) s hms hs
              have := HGK.out w5 vs hr5 HV.out.1 hkv
              rw [e1, e2, e3] at this
              exact this
            have HP := Lib.hid happ
            obtain ⟨k5, f5⟩ := hrow5
            clear hti hul hou hgr hat hS5 happ e1 e2 e3 f1 hbig
            go_wp2_with (at_builtin; refine wpL_appK _ rfl (.tmp 114) (.tmp 115) 43 rfl rfl _ _ _ _ rfl rfl hrun ?_)
            go_roundw
            case rel =>
              refine ⟨k + 1, vs.set k u, by omega, by go_num, Lib.hid ⟨by rw [List.length_set]; exact HV.out.1, fun j hj hkj => ?_, HP.out⟩⟩
              rw [List.getElem_set_ne (by omega)]
              exact HV.out.2.2.1 j (by simpa using hj) hkj
            case measure => simp [intOf]; omega
      · have g0 : ¬ (k : Int) < (n : Int) := by omega
        have hfr := HU.out.2.2.fr
        have hbe := B610.out.trans (hfr.below B610.out.size (fun s hs => (HSR.out s hs).1))
        have hsr := LV.Ok.frS S10.out.1 hfr ⟨fun a ha hm => by have h1 := (HSR.out _ hm).2; have h2 := S10.out.2.2.1 a ha; omega, fun t ht a ha hm => by have h1 := (HSR.out _ hm).2; have h2 := S10.out.2.2.2 t ht a ha; omega⟩
        have HE := Lib.hid (And.intro hbe hsr)
        have HRZ := Lib.hid (HRE.out wr hbe)
        obtain ⟨p0, p1, p2, p3, p4⟩ := HIB.out wr hbe
        clear hfr hbe hsr HU
        go_upto_region 23 with (go_at_call 15; (with_reducible refine HRZ.out.mono ?_); rintro e w12 ⟨t2, n2, rfl, _, k12, e12, _, _, _, b12⟩; have B12 := Lib.hid (And.intro b12 (HE.out.1.trans (lower' b12 HE.out.1.size))); have T12 := Lib.hid (And.intro k12 e12); clear k12 e12 b12 p0 p1 p2 p3 p4)
        have hss := same10_any t2 s w12 T12.out.1 (HE.out.2.below B12.out.1)
        rw [decide_eq_true (T12.out.2.trans S10.out.2.1.symm)] at hss
        have hvs := fun w (h : Below w12.heap.size w12 w) => view_same x.v oA x.oA aA x.aA oc x.oc ac x.ac w ((K6.out.2.2.2.1.below B12.out.2).below h) ((H0.out.1.below (K6.out.2.2.1.trans (lower' B12.out.2 K6.out.2.2.1.size))).below h)
        have hes := fun w (h : Below w12.heap.size w12 w) => edges_same eA A ec c l w ((K6.out.2.2.2.2.below B12.out.2).below h) ((H0.out.2.below (K6.out.2.2.1.trans (lower' B12.out.2 K6.out.2.2.1.size))).below h)
        have HSS := Lib.hid hss
        have HVS := Lib.hid hvs
        have HES := Lib.hid hes
        clear hss hvs hes
        go_wp2_with (first
          | (go_at_call 17; (with_reducible refine HSS.out.mono ?_); rintro e w13 ⟨rfl, hd⟩; have B13 := Lib.hid (below_drawn hd); have HVS3 := Lib.hid (HVS.out w13 B13.out); obtain ⟨p0, p1, p2, p3, p4⟩ := HIB.out w13 (B12.out.2.trans (lower' B13.out B12.out.2.size)); obtain ⟨q0, q1, q2, q3, q4⟩ := HVB.out w13 (B12.out.2.trans (lower' B13.out B12.out.2.size)); clear hd)
          | (go_at_call 20; (with_reducible refine HVS3.out.mono ?_); rintro e w14 ⟨rfl, b14⟩; have B14 := Lib.hid (B13.out.trans (lower' b14 B13.out.size)); have HES4 := Lib.hid (HES.out w14 B14.out); clear b14 p0 p1 p2 p3 p4 q0 q1 q2 q3 q4)
          | (go_at_call 21; (with_reducible refine HES4.out.mono ?_); rintro e w15 ⟨rfl, b15⟩; have B15 := Lib.hid (B14.out.trans (lower' b15 B14.out.size)); clear b15))
        go_ret
        exact ⟨by simp, K6.out.2.2.1.trans (lower' (B12.out.2.trans (lower' B15.out B12.out.2.size)) K6.out.2.2.1.size)⟩
end Go.Proofs.Ytgldcahhliokeaa
