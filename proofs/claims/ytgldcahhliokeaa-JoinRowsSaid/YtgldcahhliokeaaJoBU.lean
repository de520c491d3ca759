/- The document's Rows. -/
import Derived.Test.YtgldcahhliokeaaJoBT
import Derived.Test.YtgldcahhliokeaaJoBQ
import Derived.Test.YtgldcahhliokeaaJoBJ
import Derived.Test.YtgldcahhliokeaaJoBU0
namespace Go.Proofs.Ytgldcahhliokeaa
open Go.RowKit Go.Maps

set_option maxRecDepth 100000 in
set_option maxHeartbeats 8000000 in
theorem rrows_ok (x : VW) (A : Option Addr) (c : Nat) (es : List Ed) (w : World) (hx : x.Ok w) (hl : x.v.Lens) (h12 : x.v.atoms.length ≤ 12) (he : Eds w A c es) (hg : goodP x.v = true) (hk1 : x.v.kind = 1) :
    Calls Try.prog 16 #[.agg (vwA x), .slice A es.length c] w (RdPost w (rowsC x.v es) (rowsR x.v es)) := by
  obtain ⟨_, g2, _, _, _⟩ := goodP_names hg
  have hb1 : Below w.heap.size w (w.alloc (.cells (vwA x) 25)) := (Below.refl _ _).alloc (Nat.le_refl _) _
  have hg1 := heap_alloc_new w (.cells (vwA x) 25)
  have hgd := good_any x _ (hx.below hb1) hl hk1
  have hv := fun W (hW : Below w.heap.size w W) => rvars_any x W (hx.below hW) h12
  have hon := fun W (hW : Below w.heap.size w W) => ronce_any A c es W (he.below hW)
  have hrC := rowsC_ref x.v es hg
  rw [hg] at hgd
  unfold vwA at hb1 hg1 hgd hv ⊢
  simp only [hk1] at hb1 hg1 hgd hv ⊢
  obtain ⟨q0, q1, q2, q3, q4⟩ := box5 hg1
  have hss : (stepsL x.v.atoms).length = x.v.atoms.length := by unfold stepsL; rw [stepsK_len]
  have HB := Lib.hid (And.intro hb1 hg1)
  have HGD := Lib.hid hgd
  have HV := Lib.hid hv
  have HO := Lib.hid hon
  have HX := Lib.hid (And.intro hx (And.intro g2 (And.intro hss hrC)))
  have hel := onceL_len es
  have hes := he.sm
  have hat8 : x.v.atoms.length ≤ 8 := g2
  clear hx hl h12 he hg hk1 g2 hb1 hg1 hgd hv hon hss hrC
  go_enter Try.func16, Try.ntmps16
  go_upto_region 5 with (first
    | (go_at_call 37; (with_reducible refine HGD.out.mono ?_); rintro e w2 ⟨rfl, b2⟩; have g2' := (b2.block w.heap.size (by simp)).trans HB.out.2; clear q0 q1 q2 q3 q4; obtain ⟨q0, q1, q2, q3, q4⟩ := box5 g2'; have B2 := Lib.hid (And.intro (HB.out.1.trans (lower' b2 HB.out.1.size)) g2'); have HV2 := Lib.hid (HV.out w2 B2.out.1); clear g2' b2)
    | (go_at_call 38; (with_reducible refine HV2.out.mono ?_); rintro e w3 ⟨vA, vc, rfl, _, s3, b3⟩; have B3 := Lib.hid (And.intro (B2.out.1.trans (lower' b3 B2.out.1.size)) (And.intro ((b3.block w.heap.size (heap_lt B2.out.2)).trans B2.out.2) s3)); have HO3 := Lib.hid (HO.out w3 B3.out.1); clear q0 q1 q2 q3 q4 b3 s3)
    | (go_at_call 39; (with_reducible refine HO3.out.mono ?_); rintro e w4 ⟨oA, oc, rfl, o4, b4⟩; have B4 := Lib.hid (And.intro (B3.out.1.trans (lower' b4 B3.out.1.size)) (And.intro ((b4.block w.heap.size (heap_lt B3.out.2.1)).trans B3.out.2.1) (And.intro (B3.out.2.2.below b4) o4))); clear b4 o4))
  clear HGD HV HV2 HO HO3 HB
  have hy0 := rows_start w4
  have HY0 := Lib.hid hy0
  clear hy0
  go_upto_region 6 with (fail)
  generalize hw5 : ((w4.alloc (.cells #[] 3)).alloc (.cells #[.slice (some ⟨w4.heap.size, 0, none⟩) 0 0] 43)) = w5 at HY0 ⊢
  clear hw5
  have B5 := Lib.hid (And.intro (B4.out.1.trans (lower' HY0.out.2 B4.out.1.size)) (And.intro ((HY0.out.2.block w.heap.size (heap_lt B4.out.2.1)).trans B4.out.2.1) (And.intro (B4.out.2.2.1.below HY0.out.2) (B4.out.2.2.2.below HY0.out.2))))
  obtain ⟨-, -, -, q3, -⟩ := box5 B5.out.2.1
  clear B4 B3 B2
  go_wp2_with (fail)
  go_loopw [7, 33] (fun rows i wr => ∃ (k : Nat) (y : LV), k ≤ x.v.atoms.length ∧ i = .int .i64 (k : Int) ∧ rows = .slice y.A y.ts.length y.c ∧ Hid (RdAt x.v.atoms es k y wr ∧ Below w5.heap.size w5 wr)) (fun _ i _ => x.v.atoms.length - (intOf i).toNat)
  case atStart => exact ⟨0, ⟨some ⟨w4.heap.size + 1, 0, none⟩, [⟨some ⟨w4.heap.size, 0, none⟩, [], 0⟩], 1⟩, by omega, rfl, rfl, Lib.hid ⟨RdAt.start HY0.out.1 HX.out.2.1, Below.refl _ _⟩⟩
  case round =>
    clear q3
    obtain ⟨k, y, hk, rfl, rfl, hrel⟩ := hrel
    have hbw := B5.out.1.trans (lower' hrel.out.2 B5.out.1.size)
    by_cases hlt : k < x.v.atoms.length
    · obtain ⟨ab, ao, hAA, _, a0, a1, a2⟩ := (HX.out.1.below hbw).ats.cell hlt
      obtain ⟨-, -, -, q3, -⟩ := box5 ((hrel.out.2.block _ (heap_lt B5.out.2.1)).trans B5.out.2.1)
      have hkI : (k : Int) < (x.v.atoms.length : Int) := by omega
      obtain ⟨s, kn, hs1, hs2, hs3, hs4⟩ := hrel.out.1.step hlt
      have hm1 : x.v.atoms[k].fr ∈ varsL x.v.atoms := varsL_mem.2 ⟨_, List.getElem_mem hlt, .inl rfl⟩
      have hm2 : x.v.atoms[k].to ∈ varsL x.v.atoms := varsL_mem.2 ⟨_, List.getElem_mem hlt, .inr rfl⟩
      have hq1 := fun W (hW : Below w5.heap.size w5 W) => at_any vA vc (varsL x.v.atoms) x.v.atoms[k].fr W (B5.out.2.2.1.below hW)
      have hq2 := fun W (hW : Below w5.heap.size w5 W) => at_any vA vc (varsL x.v.atoms) x.v.atoms[k].to W (B5.out.2.2.1.below hW)
      rw [index_at hm1] at hq1
      rw [index_at hm2] at hq2
      have hsf : (varsL x.v.atoms).idxOf x.v.atoms[k].fr = s.fr := by rw [hs1]; rfl
      have hst : (varsL x.v.atoms).idxOf x.v.atoms[k].to = s.to := by rw [hs1]; rfl
      have hsl : x.v.atoms[k].lab = s.lab := by rw [hs1]; rfl
      rw [hsf] at hq1
      rw [hst] at hq2
      rw [hAA] at q3
      rw [hAA]
      generalize x.v.atoms[k] = a at a0 a1 a2 hq1 hq2 hsl
      have hg7 := heap_alloc_new wr (.cells #[.string ⟨a.fr.toArray⟩, .string ⟨a.lab.toArray⟩, .string ⟨a.to.toArray⟩] 69)
      have hb7 := hrel.out.2.alloc hrel.out.2.size (.cells #[.string ⟨a.fr.toArray⟩, .string ⟨a.lab.toArray⟩, .string ⟨a.to.toArray⟩] 69)
      have hb7' := Below.alloc (Below.refl wr.heap.size wr) (Nat.le_refl _) (.cells #[.string ⟨a.fr.toArray⟩, .string ⟨a.lab.toArray⟩, .string ⟨a.to.toArray⟩] 69)
      have HS := Lib.hid (And.intro hs2 (And.intro hs3 (And.intro hs4 (And.intro hsl (And.intro hrel.out.1 hlt)))))
      have HQ1 := Lib.hid hq1
      have HQ2 := Lib.hid hq2
      have R7 := Lib.hid (And.intro hg7 (And.intro hb7 (hrel.out.1.ok.below hb7')))
      clear hbw hAA hs1 hs2 hs3 hs4 hm1 hm2 hq1 hq2 hsf hst hsl hg7 hb7 hb7' hrel
      go_upto_region 10 with (fail)
      clear a0 a1 a2 q3
      generalize (wr.alloc (.cells #[.string ⟨a.fr.toArray⟩, .string ⟨a.lab.toArray⟩, .string ⟨a.to.toArray⟩] 69)) = w7 at R7 ⊢
      generalize wr.heap.size = g7 at R7 ⊢
      obtain ⟨x0, -, x2⟩ := box3 R7.out.1
      have HQD1 : Hid (∀ n, Calls Try.prog 40 #[.slice vA (varsL x.v.atoms).length vc, .string ⟨a.fr.toArray⟩] (w7.drewN n) fun e w' => e = .returned (.int .i64 (s.fr : Int)) ∧ w' = w7.drewN n) := Lib.hid fun n => (HQ1.out (w7.drewN n) (Below.drewN' R7.out.2.1 n)).mono fun e w' h => ⟨h.1, h.2.symm⟩
      have HQD2 : Hid (∀ n, Calls Try.prog 40 #[.slice vA (varsL x.v.atoms).length vc, .string ⟨a.to.toArray⟩] (w7.drewN n) fun e w' => e = .returned (.int .i64 (s.to : Int)) ∧ w' = w7.drewN n) := Lib.hid fun n => (HQ2.out (w7.drewN n) (Below.drewN' R7.out.2.1 n)).mono fun e w' h => ⟨h.1, h.2.symm⟩
      go_quiet ((first | (go_at_call 40; with_reducible exact Calls.quiet_of_same (HQD1.out _)) | (go_at_call 40; with_reducible exact Calls.quiet_of_same (HQD2.out _))))
      have R8 := Lib.hid (And.intro (show (w7.drewN nq).heap[g7]? = _ from R7.out.1) (And.intro (Below.drewN' R7.out.2.1 nq) (show LV.Ok (w7.drewN nq) y from R7.out.2.2.below (Below.drewN' (Below.refl w7.heap.size w7) nq))))
      generalize w7.drewN nq = w8 at R8 ⊢
      clear HQ1 HQ2 HQD1 HQD2 R7 x0 x2
      have hys := R8.out.2.2.sm
      go_wp2_with (fail)
      go_loopw [12, 51] (fun nx i wl => ∃ (r : Nat) (ns : List TV), r ≤ y.ts.length ∧ i = .int .i64 (r : Int) ∧ Hid (RowsAt wl w8.heap.size nx ns ∧ tus ns = refWith s ((tus y.ts).take r) (onceL es) ∧ ns.length ≤ 3000 ∧ Below w8.heap.size w8 wl)) (fun _ i _ => y.ts.length - (intOf i).toNat)
      case atStart => exact ⟨0, [], by omega, rfl, Lib.hid ⟨RowsAt.nil _ _, rfl, by simp, Below.refl _ _⟩⟩
      case round =>
        obtain ⟨r, ns, hr, rfl, hrel⟩ := hrel
        rename World => wl
        by_cases hrt : r < y.ts.length
        · have hrI : (r : Int) < (y.ts.length : Int) := by omega
          have htl : r < (tus y.ts).length := by rw [tus_len]; exact hrt
          have hat : (tus y.ts)[r] = y.ts[r].l := tus_at y.ts r hrt
          have hrl := HS.out.2.2.1 _ (List.getElem_mem htl)
          have hw1 := refWith_take (s := s) (es := onceL es) htl
          have hw2 := refWith_ge (s := s) (es := onceL es) htl
          rw [hat] at hrl hw1 hw2
          have hcl : ∀ W, Below w8.heap.size w8 W → ∃ b o, y.A = some ⟨b, o, none⟩ ∧ b < W.heap.size ∧ W.cell? ⟨b, o + r, none⟩ = some (.slice y.ts[r].A y.ts[r].l.length y.ts[r].c) := fun W hW => LV.Ok.cell' (R8.out.2.2.below hW) hrt
          have hok := R8.out.2.2.at hrt
          generalize y.ts[r] = row at hrl hw1 hw2 hcl hok
          have HR := Lib.hid (And.intro hrel.out.2.1 (And.intro hrl (And.intro hw1 (And.intro hw2 (And.intro hcl hok)))))
          have HR0 := Lib.hid hrel.out
          obtain ⟨rb, ro, hRA, -, -⟩ := hcl _ hrel.out.2.2.2
          rw [hRA]
          have HRA := Lib.hid hRA
          clear hRA
          clear hat htl hrl hw1 hw2 hcl hok hrel
          go_wp2_with (fail)
          go_loopw [12, 56] (fun nx j wm => ∃ (m : Nat) (vs : List TV), m ≤ (onceL es).length ∧ j = .int .i64 (m : Int) ∧ Hid (RowsAt wm w8.heap.size nx vs ∧ tus vs = tus ns ++ refRow s ((onceL es).take m) row.l ∧ vs.length ≤ 3000 ∧ Below w8.heap.size w8 wm)) (fun _ j _ => (onceL es).length - (intOf j).toNat)
          case atStart => exact ⟨0, ns, by omega, rfl, Lib.hid ⟨HR0.out.1, by simp [refRow], HR0.out.2.2.1, HR0.out.2.2.2⟩⟩
          case round =>
            obtain ⟨m, vs, hm, rfl, hrel⟩ := hrel
            rename World => wm
            by_cases hmt : m < (onceL es).length
            · have hmI : (m : Int) < ((onceL es).length : Int) := by omega
              have hec : ∀ W, Below w8.heap.size w8 W → ∃ b o, oA = some ⟨b, o, none⟩ ∧ b < W.heap.size ∧ W.cell? ⟨b, o + m * 3, none⟩ = some (.int .i64 (onceL es)[m].f) ∧ W.cell? ⟨b, o + m * 3 + 1, none⟩ = some (.string ⟨(onceL es)[m].lab.toArray⟩) ∧ W.cell? ⟨b, o + m * 3 + 2, none⟩ = some (.int .i64 (onceL es)[m].t) := fun W hW => ((B5.out.2.2.2.below R8.out.2.1).below hW).cell hmt
              have hrt1 := refRow_take (s := s) (row := row.l) hmt
              have hrg := refRow_ge (s := s) (row := row.l) hmt
              generalize (onceL es)[m] = ed at hec hrt1 hrg
              obtain ⟨eb, eo, hEA, heb, e0, e1, e2⟩ := hec _ hrel.out.2.2.2
              obtain ⟨-, x1, -⟩ := box3 ((hrel.out.2.2.2.block _ (heap_lt R8.out.1)).trans R8.out.1)
              rw [hEA]
              have HE := Lib.hid (And.intro hec (And.intro hrt1 hrg))
              have HV := Lib.hid hrel.out
              have hvl := hrel.out.2.2.1
              clear hec hrt1 hrg hrel
              by_cases hlab : ed.lab = a.lab
              · have HLAB := Lib.hid hlab
                have hl : (ed.lab == a.lab) = true := beq_iff_eq.2 hlab
                clear hlab
                go_upto_region 18 with (fail)
                go_quiet (fail)
                clear hl x1 e0 e1 e2
                have BD := Lib.hid (Below.drewN' HV.out.2.2.2 nq)
                have RVD := Lib.hid (HV.out.1.kept (show Below wm.heap.size wm (wm.drewN nq) from Below.drewN' (Below.refl _ _) nq))
                generalize wm.drewN nq = wd at BD RVD ⊢
                obtain ⟨rb', ro', hRA, hrb, r0⟩ := HR.out.2.2.2.2.1 _ BD.out
                rw [HRA.out] at hRA
                injection hRA with hRA
                injection hRA with e8 e9
                subst e8 e9
                obtain ⟨u, w9, hrun, hul, hu, hb9⟩ := run_appI0 wd row (HR.out.2.2.2.2.2.below BD.out)
                have U9 := Lib.hid hu
                have B9 := Lib.hid hb9
                obtain ⟨-, hs3b, hs3c, hs3d, hs3e⟩ := HS.out.2.1
                have UL := Lib.hid hul
                have hul60 : u.l.length ≤ 50 := by rw [hul, HR.out.2.1]; omega
                clear hu hb9 hul
                go_upto_region 20 with (at_builtin; refine wpL_appK _ rfl (.tmp 67) (.tmp 71) 43 rfl rfl _ _ _ _ rfl rfl hrun ?_)
                clear hrun r0 hrb
                go_upto_if 76 with (fail)
                go_cut [15] from 73 to 84 (fun v w' => ∃ z : TV, v = .slice z.A z.l.length z.c ∧ z.l.length ≤ 60 ∧ Hid (z.l = push1 row.l s.fr ed.f ∧ OwnI w' wd.heap.size z ∧ Below wd.heap.size wd w'))
                case first =>
                  obtain ⟨eb3, eo3, hEA3, heb3, f0, f1, f2⟩ := HE.out.1 _ (BD.out.trans (lower' B9.out BD.out.size))
                  rw [hEA] at hEA3
                  injection hEA3 with hEA3
                  injection hEA3 with e8 e9
                  subst e8 e9
                  by_cases h1 : s.fr = u.l.length
                  · have EA := Lib.hid (push_yes (x := ed.f) h1)
                    have h1I : ((s.fr : Int) == (u.l.length : Int)) = true := by rw [h1]; simp
                    obtain ⟨z, w10, hrunz, hzl, hzo, hzb⟩ := run_app1I w9 wd.heap.size u ed.f U9.out B9.out.size (by omega)
                    have hzn : z.l.length ≤ u.l.length + 1 := by rw [hzl, List.length_append]; exact Nat.le_refl _
                    have HZ := Lib.hid (And.intro (hzl.trans EA.out.symm) (And.intro hzo (B9.out.trans hzb)))
                    clear h1 hzl hzo hzb heb3
                    go_wp2_with (at_builtin; refine wpL_appK _ rfl (.tmp 77) (.tmp 83) 43 rfl rfl _ _ _ _ rfl rfl hrunz ?_)
                    go_meet
                    case rel => exact ⟨z, rfl, by omega, Lib.hid ⟨by rw [HZ.out.1, UL.out], HZ.out.2⟩⟩
                  · have EA := Lib.hid (push_no (x := ed.f) h1)
                    have h1I : ((s.fr : Int) == (u.l.length : Int)) = false := by rw [beq_eq_false_iff_ne]; omega
                    clear h1 heb3
                    go_wp2_with (fail)
                    go_meet
                    case rel => exact ⟨u, rfl, by omega, Lib.hid ⟨by rw [← UL.out]; exact EA.out.symm, U9.out, B9.out⟩⟩
                case rest =>
                clear U9 UL B9 hul60
                obtain ⟨u, rfl, hul60, hcut⟩ := hcut
                rename World => w10
                have UL := Lib.hid hcut.out.1
                have U9 := Lib.hid hcut.out.2.1
                have B10 := Lib.hid hcut.out.2.2
                clear hcut
                go_upto_if 88 with (fail)
                go_cut [15] from 85 to 96 (fun v w' => ∃ z : TV, v = .slice z.A z.l.length z.c ∧ z.l.length ≤ 70 ∧ Hid (z.l = push1 (push1 row.l s.fr ed.f) s.to ed.t ∧ OwnI w' wd.heap.size z ∧ Below wd.heap.size wd w'))
                case first =>
                  obtain ⟨eb3, eo3, hEA3, heb3, f0, f1, f2⟩ := HE.out.1 _ (BD.out.trans (lower' B10.out BD.out.size))
                  rw [hEA] at hEA3
                  injection hEA3 with hEA3
                  injection hEA3 with e8 e9
                  subst e8 e9
                  by_cases h1 : s.to = u.l.length
                  · have EA := Lib.hid (push_yes (x := ed.t) h1)
                    have h1I : ((s.to : Int) == (u.l.length : Int)) = true := by rw [h1]; simp
                    obtain ⟨z, w10, hrunz, hzl, hzo, hzb⟩ := run_app1I w10 wd.heap.size u ed.t U9.out B10.out.size (by omega)
                    have hzn : z.l.length ≤ u.l.length + 1 := by rw [hzl, List.length_append]; exact Nat.le_refl _
                    have HZ := Lib.hid (And.intro (hzl.trans EA.out.symm) (And.intro hzo (B10.out.trans hzb)))
                    clear h1 hzl hzo hzb heb3
                    go_wp2_with (at_builtin; refine wpL_appK _ rfl (.tmp 89) (.tmp 95) 43 rfl rfl _ _ _ _ rfl rfl hrunz ?_)
                    go_meet
                    case rel => exact ⟨z, rfl, by omega, Lib.hid ⟨by rw [HZ.out.1, UL.out], HZ.out.2⟩⟩
                  · have EA := Lib.hid (push_no (x := ed.t) h1)
                    have h1I : ((s.to : Int) == (u.l.length : Int)) = false := by rw [beq_eq_false_iff_ne]; omega
                    clear h1 heb3
                    go_wp2_with (fail)
                    go_meet
                    case rel => exact ⟨u, rfl, by omega, Lib.hid ⟨by rw [← UL.out]; exact EA.out.symm, U9.out, B10.out⟩⟩
                case rest =>
                clear U9 UL B10 hul60
                obtain ⟨z, rfl, hul60, hcut⟩ := hcut
                rename World => w11
                have UL := Lib.hid hcut.out.1
                have U9 := Lib.hid hcut.out.2.1
                have B11 := Lib.hid hcut.out.2.2
                clear hcut
                have hwl := withS_len (s := s) (row := row.l) (ed.f, ed.t) HR.out.2.1 hs3b hs3c
                have hsn : s.next = max s.kn (max (s.fr + 1) (s.to + 1)) := rfl
                have hzE : z.l = withS s row.l (ed.f, ed.t) := UL.out
                have ZE := Lib.hid hzE
                have hz1 : z.l.length = s.next := by rw [hzE, hwl]
                have ZK := Lib.hid (OwnI.ok U9.out (by omega))
                have ZO := Lib.hid (own_mono U9.out BD.out.size)
                have BZ := Lib.hid (BD.out.trans (lower' B11.out BD.out.size))
                have RZ := Lib.hid (RVD.out.kept B11.out)
                have ZF := Lib.hid hz1
                clear hz1 hzE hwl U9 UL B11 RVD
                have hzp := ZF.out
                have hfn : s.fr < z.l.length := by omega
                have htn : s.to < z.l.length := by omega
                obtain ⟨eb3, eo3, hEA3, heb3, f0, f1, f2⟩ := HE.out.1 _ BZ.out
                rw [hEA] at hEA3
                injection hEA3 with hEA3
                injection hEA3 with e8 e9
                subst e8 e9
                obtain ⟨zb, zo, hZA, hzb, z0⟩ := ZK.out.cell hfn
                obtain ⟨zb', zo', hZA', _, z1⟩ := ZK.out.cell htn
                rw [hZA] at hZA'
                injection hZA' with hZA'
                injection hZA' with e8 e9
                subst e8 e9
                have hfI : (s.fr : Int) < (z.l.length : Int) := by omega
                have htI : (s.to : Int) < (z.l.length : Int) := by omega
                have hone := refOne_eq (s := s) (row := row.l) (ed := ed) (HLAB.out.trans HS.out.2.2.2.1)
                have hgf : z.l.getD s.fr 0 = z.l[s.fr] := by rw [List.getD_eq_getElem?_getD, List.getElem?_eq_getElem hfn]; rfl
                have hgt : z.l.getD s.to 0 = z.l[s.to] := by rw [List.getD_eq_getElem?_getD, List.getElem?_eq_getElem htn]; rfl
                rw [← ZE.out, hgf, hgt] at hone
                have hpush := fun n => push_drew RZ.out ZO.out (by omega) (by omega) BZ.out.size n
                have HP := Lib.hid hpush
                generalize z.l[s.fr] = zf at z0 hone
                generalize z.l[s.to] = zt at z1 hone
                have HO := Lib.hid hone
                rw [hZA]
                clear hgf hgt hpush heb3 hone hzb hzp hsn hfn htn
                by_cases t1 : zf = ed.f
                · by_cases t2 : zt = ed.t
                  · have hone := HO.out
                    rw [if_pos ⟨t1, t2⟩] at hone
                    have HN := Lib.hid hone
                    have u1 : (zf == ed.f) = true := beq_iff_eq.2 t1
                    have u2 : (zt == ed.t) = true := beq_iff_eq.2 t2
                    clear hone t1 t2
                    go_upto_region 24 with (fail)
                    go_quiet (fail)
                    clear u1 u2 z0 z1 f0 f1 f2 hfI htI
                    obtain ⟨A5, c5, w12, hrun5, h5, b5⟩ := HP.out nq
                    rw [hZA] at hrun5
                    have HT := Lib.hid (show tus (vs ++ [z]) = tus ns ++ refRow s ((onceL es).take (m + 1)) row.l from by
                      rw [tus_app, HV.out.2.1, HE.out.2.1, HN.out, List.append_assoc]
                      rfl)
                    have H5 := Lib.hid (And.intro h5 (BZ.out.trans b5))
                    go_upto_region 26 with (at_builtin; refine wpL_appK _ rfl (.tmp 119) (.tmp 121) 30 rfl rfl _ _ _ _ rfl rfl hrun5 ?_)
                    by_cases hbig : vs.length = 3000
                    · have hbI : (3000 : Int) < (vs.length : Int) + 1 := by omega
                      have hfin := HS.out.2.2.2.2.1.big HS.out.1 HX.out.2.2.2 (by
                        have k1 := congrArg List.length HT.out
                        rw [tus_len, List.length_append, List.length_append, HR.out.1] at k1
                        have k2 := HR.out.2.2.2.1
                        have k3 := HE.out.2.2
                        have k4 := congrArg List.length HE.out.2.1
                        rw [List.length_append] at k4
                        simp only [List.length_cons, List.length_nil] at k1
                        omega)
                      have HF := Lib.hid (And.intro hfin (B5.out.1.trans (lower' (R8.out.2.1.trans (lower' H5.out.2 R8.out.2.1.size)) B5.out.1.size)))
                      clear hfin hbig hrun5 h5 b5 hvl
                      go_wp2_with (fail)
                      go_ret2
                      exact ⟨⟨none, [], 0⟩, by rw [HF.out.1.1]; rfl, okL_nil _, HF.out.1.2.symm, HF.out.2⟩
                    · have hbI : ¬ (3000 : Int) < (vs.length : Int) + 1 := by omega
                      have HVL := Lib.hid (show (vs ++ [z]).length ≤ 3000 from by rw [List.length_append]; simp; omega)
                      have HF := Lib.hid H5.out.1
                      clear hbig hrun5 h5 b5 hvl
                      go_wp2_with (fail)
                      go_roundw
                      case rel => exact ⟨m + 1, vs ++ [z], by omega, by go_num, Lib.hid ⟨HF.out, HT.out, HVL.out, H5.out.2⟩⟩
                      case measure => simp [intOf]; omega
                  · have hone := HO.out
                    rw [if_neg (fun h => t2 h.2)] at hone
                    have HN := Lib.hid hone
                    have u1 : (zf == ed.f) = true := beq_iff_eq.2 t1
                    have u2 : (zt == ed.t) = false := beq_eq_false_iff_ne.2 t2
                    clear hone t1 t2
                    go_upto_region 24 with (fail)
                    go_quiet (fail)
                    go_wp2_with (fail)
                    go_roundw
                    case rel => exact ⟨m + 1, vs, by omega, by go_num, Lib.hid ⟨RZ.out.kept (Below.drewN' (Below.refl _ _) _), by rw [HE.out.2.1, HN.out, List.append_nil]; exact HV.out.2.1, HV.out.2.2.1, Below.drewN' BZ.out _⟩⟩
                    case measure => simp [intOf]; omega
                · have hone := HO.out
                  rw [if_neg (fun h => t1 h.1)] at hone
                  have HN := Lib.hid hone
                  have u1 : (zf == ed.f) = false := beq_eq_false_iff_ne.2 t1
                  have u3 : decide (zf = ed.f) = false := decide_eq_false t1
                  clear hone t1
                  go_upto_region 24 with (fail)
                  go_quiet (fail)
                  go_wp2_with (fail)
                  go_roundw
                  case rel => exact ⟨m + 1, vs, by omega, by go_num, Lib.hid ⟨RZ.out.kept (Below.drewN' (Below.refl _ _) _), by rw [HE.out.2.1, HN.out, List.append_nil]; exact HV.out.2.1, HV.out.2.2.1, Below.drewN' BZ.out _⟩⟩
                  case measure => simp [intOf]; omega
              · have hone : refOne s row.l ed = [] := if_neg (fun e => hlab (e.trans HS.out.2.2.2.1.symm))
                have HN := Lib.hid hone
                have hl : (ed.lab == a.lab) = false := beq_eq_false_iff_ne.2 hlab
                clear hone hEA hlab
                go_upto_region 18 with (fail)
                go_quiet (fail)
                go_wp2_with (fail)
                go_roundw
                case rel => exact ⟨m + 1, vs, by omega, by go_num, Lib.hid ⟨HV.out.1.kept (Below.drewN' (Below.refl _ _) _), by rw [HE.out.2.1, HN.out, List.append_nil]; exact HV.out.2.1, HV.out.2.2.1, Below.drewN' HV.out.2.2.2 _⟩⟩
                case measure => simp [intOf]; omega
            · have hmI : ¬ (m : Int) < ((onceL es).length : Int) := by omega
              have hv := hrel.out.2.1
              rw [List.take_of_length_le (by omega), HR.out.1, ← HR.out.2.2.1] at hv
              have HN := Lib.hid (And.intro hrel.out.1 (And.intro hv (And.intro hrel.out.2.2.1 hrel.out.2.2.2)))
              clear hv hrel
              go_wp2_with (fail)
              go_roundw
              case rel => exact ⟨r + 1, vs, by omega, by go_num, HN⟩
              case measure => simp [intOf]; omega
        · have hrI : ¬ (r : Int) < (y.ts.length : Int) := by omega
          have hv := hrel.out.2.1
          rw [List.take_of_length_le (by rw [tus_len]; omega)] at hv
          obtain ⟨A5, c5, e5, _, _, _⟩ := own_shape hrel.out.1.row
          have h5 := hrel.out.1
          rw [e5] at h5
          have hok5 := h5.ok (by have := hrel.out.2.2.1; omega)
          have HN := Lib.hid (And.intro (HS.out.2.2.2.2.1.next HS.out.1 HS.out.2.1 hok5.2 hv hrel.out.2.2.1) (R8.out.2.1.trans (lower' hrel.out.2.2.2 R8.out.2.1.size)))
          rw [e5]
          clear hv e5 h5 hok5 hrel
          go_wp2_with (fail)
          go_roundw
          case rel => exact ⟨k + 1, ⟨A5, ns, c5⟩, by have := HS.out.2.2.2.2.2; omega, by go_num, rfl, HN⟩
          case measure => have := HS.out.2.2.2.2.2; simp [intOf]; omega
    · have hkI : ¬ (k : Int) < (x.v.atoms.length : Int) := by omega
      obtain ⟨-, -, -, q3, -⟩ := box5 ((hrel.out.2.block _ (heap_lt B5.out.2.1)).trans B5.out.2.1)
      have hfin := hrel.out.1.done (by omega) HX.out.2.2.2
      have hsr := rsorted_any y wr hrel.out.1.ok
      have HF := Lib.hid (And.intro hfin hbw)
      have HSR := Lib.hid hsr
      clear hfin hbw hsr hrel
      go_wp2_with (go_at_call 41; (with_reducible refine HSR.out.mono ?_); rintro e w9 ⟨z, rfl, k9, e9, b9⟩; have B9 := Lib.hid (And.intro k9 (And.intro e9 (HF.out.2.trans (lower' b9 HF.out.2.size)))); clear k9 e9 b9)
      go_ret2
      exact ⟨z, by rw [HF.out.1.1]; rfl, B9.out.1, B9.out.2.1.trans HF.out.1.2.symm, B9.out.2.2⟩
end Go.Proofs.Ytgldcahhliokeaa
