/- Joined: LogO LogP LogAC. -/
import Derived.Test.YtajakmfloeefpaaJnH
import Derived.Test.YtajakmfloeefpaaJnI
/- readAll. -/
namespace Go.Proofs.Ytajakmfloeefpaa
open Go.RowKit Go.Maps

def sliceLen : Value → Nat | .slice _ n _ => n | _ => 0
theorem LogD.kept {w w' : World} {base q p bs bw T : Nat} {L : LG} {v : Value} {M : DM} (h : LogD w base q p bs bw T L v M) (hb : Below w.heap.size w w') : LogD w' base q p bs bw T L v M :=
  ⟨h.log.kept hb, h.disk.kept hb, h.ap, Nat.le_trans h.low hb.size, h.fits, h.size⟩
theorem of_endd (first behind : Nat) (rs : List Rec) : (LG.of first behind rs).endd = endR first rs := rfl
theorem isHd_some {b : List UInt8} {s n : Nat} (h : hdr b = some (s, n)) : isHd b = true ∧ seqX b = (s : Int) ∧ lenV b = n := by
  obtain ⟨h1, h2, h3, h4⟩ := hdr_some h
  have e1 := seqV_head s n (by omega)
  have e2 := lenV_head s n (by omega)
  rw [← h4] at e1 e2
  refine ⟨by unfold isHd; rw [h]; rfl, ?_, e2⟩
  unfold seqX wrap64
  rw [e1]
  omega
/-- What readAll leaves. -/
def ReadAll (w : World) (base q p bs bw T first behind : Nat) (M : DM) (rs : List Rec) (u : Value) (w' : World) : Prop :=
  ∃ v', RecsAt w' base u rs ∧ LogD w' base q p bs bw T (LG.of first behind rs) v' M ∧ Fr w w' [q]
theorem ReadAll.below {w w' w'' : World} {base q p bs bw T first behind : Nat} {M : DM} {rs : List Rec} {u : Value} (h : ReadAll w base q p bs bw T first behind M rs u w') (hb : Below w'.heap.size w' w'') : ReadAll w base q p bs bw T first behind M rs u w'' := by
  obtain ⟨v', h1, h2, h3⟩ := h
  exact ⟨v', h1.below hb, h2.kept hb, h3.trans (Fr.of_below hb _)⟩

theorem LogAt.frS {w w' : World} {base q p : Nat} {L : LG} {v : Value} {S : List Nat} (h : LogAt w base q p L v) (hf : Fr w w' S) (hq : q ∉ S) (hv : ∀ s ∈ v.ownBlock.toList, s ∉ S) : LogAt w' base q p L v :=
  ⟨(hf.block q h.size hq).trans h.blk, rowFrS h.row hf hv, h.lt, h.ok⟩
theorem LogD.frS {w w' : World} {base q p bs bw T : Nat} {L : LG} {v : Value} {M : DM} {S : List Nat} (h : LogD w base q p bs bw T L v M) (hf : Fr w w' S) (hS : ∀ s ∈ S, base ≤ s) (hv : ∀ s ∈ v.ownBlock.toList, s ∉ S) : LogD w' base q p bs bw T L v M := by
  have hn : ∀ z, z < base → z ∉ S := fun z hz hm => by have := hS z hm; omega
  exact ⟨h.log.frS hf (hn q h.log.lt) hv, h.disk.fr hf (hn p h.ap.lp) (hn bs h.ap.ls) (hn bw h.ap.lw), h.ap, Nat.le_trans h.low hf.size, h.fits, h.size⟩
theorem LogD.added {w w' : World} {base q p bs bw T : Nat} {L L' : LG} {v v' : Value} {M : DM} (h : LogD w base q p bs bw T L v M) (hl : LogAt w' base q p L' v') (hf : Fr w w' (q :: v.ownBlock.toList)) (hL : L'.behind = L.behind) : LogD w' base q p bs bw T L' v' M := by
  have hn : ∀ z, z < base → z ≠ q → z ∉ q :: v.ownBlock.toList := fun z hz hzq hm => by
    rcases List.mem_cons.1 hm with e | e
    · exact hzq e
    · have := own_ge h.log.row z e; omega
  exact ⟨hl, h.disk.fr hf (hn p h.ap.lp h.ap.qp.symm) (hn bs h.ap.ls h.ap.qs.symm) (hn bw h.ap.lw h.ap.qw.symm), h.ap, Nat.le_trans h.low hf.size, by rw [hL]; exact h.fits, h.size⟩
theorem recC_snoc (R : List RecR) (r : RecR) : recC R ++ r.cells = recC (R ++ [r]) := by simp [recC]
/-- A record more in memory. -/
theorem ReadAll.more {w w5 w6 w7 : World} {base q p bs bw T first behind s cu c5 cu6 : Nat} {M : DM} {rs : List Rec} {Au A5 Au6 : Option Addr} {d : List UInt8} {R : List RecR} {N : Nat} {v v7 : Value} {o : Obj}
    (hN : R.length = N) (hbw : base = w.heap.size) (hR1 : R.map (fun r => (r.s, r.d)) = rs) (hR3 : ∀ r ∈ R, DataAt w5 r.A r.d) (hl : LogD w5 base q p bs bw T (LG.of first behind rs) v M) (hfr : Fr w w5 [q])
    (hu : w5.ownsRow base 93 2 (.slice Au N cu) N (recC R)) (hd : DataAt w5 A5 d)
    (hown : w6.ownsRow base 93 2 (.slice Au6 (N + 1) cu6) (N + 1) (recC R ++ [.int .i64 (s : Int), .slice A5 d.length c5])) (hg : (w5.alloc o).grownBy w6 (Value.slice Au N cu).ownBlock)
    (hl7 : LogAt w6 base q p (LG.of first behind rs) v → LogAt w7 base q p ((LG.of first behind rs).add s d) v7) (hf7 : Fr w6 w7 (q :: v.ownBlock.toList)) :
    ReadAll w base q p bs bw T first behind M (rs ++ [(s, d)]) (.slice Au6 (N + 1) cu6) w7 := by
  subst hN
  have hf56 : Fr w5 w6 (Value.slice Au R.length cu).ownBlock.toList := ((Fr.refl _ _).alloc o).trans (fr_grown hg)
  have hnb := noBytes_own hu (by decide)
  have hap := own_apart hl.log.row hu (by decide)
  have hl6 := hl.frS hf56 (own_ge hu) hap
  have hnb6 : ∀ z ∈ q :: v.ownBlock.toList, NoBytes w6 z := fun z hz => by
    rcases List.mem_cons.1 hz with e | e
    · rw [e]; exact noBytes_log hl6.log
    · exact noBytes_own hl6.log.row (by decide) z e
  have hap6 : ∀ z ∈ (Value.slice Au6 (R.length + 1) cu6).ownBlock.toList, z ∉ q :: v.ownBlock.toList := fun z hz hm => by
    rcases List.mem_cons.1 hm with e | e
    · have h1 := own_ge hown z hz; have h2 := hl6.log.lt; omega
    · exact own_apart hown hl6.log.row (by decide) z hz e
  have hrec6 : RecsAt w6 base (.slice Au6 (R.length + 1) cu6) (rs ++ [(s, d)]) := by
    refine ⟨R ++ [⟨s, A5, d, c5⟩], by simp [hR1], ?_, fun r hr => ?_⟩
    · rw [← recC_snoc, List.length_append]
      exact hown
    · rcases List.mem_append.1 hr with h | h
      · exact (hR3 r h).fr hf56 hnb
      · simp at h
        rw [h]
        exact hd.fr hf56 hnb
  have hl7' := hl7 hl6.log
  refine ⟨v7, hrec6.fr hf7 hnb6 hap6, ?_, ?_⟩
  · rw [← of_add]
    exact hl6.added hl7' hf7 rfl
  · refine (hfr.more hf56 (fun z hz => .inr (by rw [← hbw]; exact own_ge hu z hz))).more hf7 (fun z hz => ?_)
    rcases List.mem_cons.1 hz with e | e
    · exact .inl (by simp [e])
    · exact .inr (by rw [← hbw]; exact own_ge hl6.log.row z e)

set_option maxRecDepth 100000 in
set_option maxHeartbeats 4000000 in
theorem readAll_any {w : World} {base q p bs bw T first behind : Nat} {M : DM} (h : LogD w base q p bs bw T (LG.of first behind []) (.slice none 0 0) M) (hb0 : base = w.heap.size) :
    Calls Try.prog 29 #[.pointer (some ⟨q, 0, none⟩)] w fun e w' => ∃ u, e = .returned u ∧ ReadAll w base q p bs bw T first behind M (scan M.get behind first none) u w' := by
  obtain ⟨i0, hi, hz0, hz1, hz2⟩ := info_parts infoRec
  obtain ⟨S, hS⟩ : ∃ S, S = scan M.get behind first none := ⟨_, rfl⟩
  rw [← hS]
  have hfb : first ≤ behind := Nat.le_of_lt h.log.ok.first
  have HH := Lib.hid (And.intro h (And.intro hb0 (And.intro hS hfb)))
  have h0 : ReadAll w base q p bs bw T first behind M [] (.slice none 0 0) w := ⟨_, ⟨[], rfl, World.ownsRow_nil w base 93 2, by simp⟩, h, Fr.refl _ _⟩
  have H0 := Lib.hid h0
  clear h hb0 hS hfb h0
  go_enter Try.func29, Try.ntmps29
  go_upto_region 2 with go_in
  go_loopw [3, 4, 5, 6] (fun u _ _ _ wr => ∃ rs : List Rec, rs ++ scan M.get behind (endR first rs) (nextR none rs) = S ∧ sliceLen u = rs.length ∧ ReadAll w base q p bs bw T first behind M rs u wr)
    (fun u _ _ _ _ => S.length + 1 - sliceLen u)
  case atStart => exact ⟨[], HH.out.2.2.1.symm, rfl, H0.out⟩
  case round =>
    obtain ⟨rs, hsc, hul, hra⟩ := hrel
    have hra2 := hra
    obtain ⟨v', hrec, hld, hfr⟩ := hra
    have hblk := hld.log.blk
    unfold LG.cells at hblk
    rw [of_endd] at hblk
    have c2 := cell_of_row wr q 2 _ _ _ hblk
    have c3 := cell_of_row wr q 3 _ _ _ hblk
    have c4 := cell_of_row wr q 4 _ _ _ hblk
    have hend : endR first rs ≤ behind := hld.log.ok.endd
    have hbe : behind ≤ 4096 := hld.log.ok.behind
    obtain ⟨E, hE⟩ : ∃ E, E = endR first rs := ⟨_, rfl⟩
    rw [← hE] at hsc c3 hend
    have hEq : (LG.of first behind rs).endd = E := hE.symm
    have HX := Lib.hid (And.intro hra2 (And.intro hrec (And.intro hld (And.intro hfr (And.intro hsc (And.intro hul hEq))))))
    obtain ⟨R, hR1, hR2, hR3⟩ := hrec.ex
    obtain ⟨Au, cu, rfl, _, _, _⟩ := own_shape hR2
    have hRl : R.length = rs.length := by rw [← hR1]; simp
    rw [hRl] at HX ⊢
    clear hra2 hrec hld hfr hsc hul hblk hEq hE hR1 hR2 hR3
    have hbI : (behind : Int) ≤ 4096 := by omega
    by_cases hlt : E < behind
    · have hltI : (E : Int) < (behind : Int) := by omega
      have hEs : E < M.size := by have := HX.out.2.2.1.fits; have h2 : behind ≤ M.size := this; omega
      go_upto_region 2 with go_in
      go_quiet (fail)
      have hb1 : Below wr.heap.size wr (wr.drewN nq) := Below.drewN' (Below.refl _ _) _
      have hld1 := HX.out.2.2.1.kept hb1
      have d3 : (wr.drewN nq).cell? ⟨q, 3, none⟩ = some (.int .i64 (E : Int)) := c3
      have hsec := sector_any hld1.log hld1.disk hld1.size hEs
      obtain ⟨b, hb⟩ : ∃ b, b = M.get E := ⟨_, rfl⟩
      rw [← hb] at hsec
      have HB := Lib.hid hb
      have HSEC := Lib.hid hsec
      have HB1 := Lib.hid hb1
      clear hsec hld1 hb hb1 hEs c2 c3 c4
      generalize wr.drewN nq = W1 at d3 HSEC HB1 ⊢
      have hYN : hdr b = none ∨ ∃ s n, hdr b = some (s, n) := by
        cases hdr b with
        | none => exact .inl rfl
        | some x => obtain ⟨s, n⟩ := x; exact .inr ⟨s, n, rfl⟩
      have HYN := Lib.hid hYN
      clear hYN
      go_upto_region 4 with (first
        | (go_at_call 53; (with_reducible refine HSEC.out.mono ?_); rintro e w2 ⟨g2, rfl, hg1, hg2, hr2, hl2, hb2⟩)
        | (go_at_call 52; (with_reducible refine (readHead_any g2 b _ w2 hr2 hl2 (Nat.le_refl _)).mono ?_); rintro e w3 ⟨rfl, hb3⟩)
        | go_in)
      have hC3 : Below wr.heap.size wr w3 := HB1.out.trans (lower' (hb2.trans (lower' hb3 hb2.size)) HB1.out.size)
      have hld3 := HX.out.2.2.1.kept hC3
      have hblk := hld3.log.blk
      unfold LG.cells at hblk
      rw [HX.out.2.2.2.2.2.2] at hblk
      have c2 : w3.cell? ⟨q, 2, none⟩ = some (.int .i64 (behind : Int)) := cell_of_row w3 q 2 _ _ _ hblk
      have c3 : w3.cell? ⟨q, 3, none⟩ = some (.int .i64 (E : Int)) := cell_of_row w3 q 3 _ _ _ hblk
      have c4 : w3.cell? ⟨q, 4, none⟩ = some (.int .i64 ((LG.of first behind rs).next : Int)) := cell_of_row w3 q 4 _ _ _ hblk
      have HC3 := Lib.hid (And.intro hC3 hld3)
      have hbreak : scan M.get behind E (nextR none rs) = [] → ∀ wf, Below w3.heap.size w3 wf → ∃ u', Ending.returned (.slice Au rs.length cu) = .returned u' ∧ ReadAll w base q p bs bw T first behind M S u' wf := fun hn wf hwf => by
        have hx := HX.out
        have hsc := hx.2.2.2.2.1
        rw [hn, List.append_nil] at hsc
        rw [← hsc]
        exact ⟨_, rfl, hx.1.below (hC3.trans (lower' hwf hC3.size))⟩
      have HBR := Lib.hid hbreak
      clear hb2 hb3 hr2 hg1 hg2 hl2 hC3 hld3 hblk hbreak d3
      rcases HYN.out with hn | ⟨s, n, hn⟩
      · have hno : isHd b = false := by unfold isHd; rw [hn]; rfl
        rw [hno]
        have hend0 := HBR.out (scan_none (fun _ => by rw [← HB.out]; exact hn))
        have HE := Lib.hid hend0
        clear hno hn hend0
        go_upto_region 4 with go_in
        go_quiet (fail)
        go_wp2_with go_in
        go_ret
        exact HE.out _ (Below.drewN' (Below.refl _ _) _)
      · obtain ⟨q1, q2, q3⟩ := isHd_some hn
        rw [q1, q2, q3]
        have HHD := Lib.hid (And.intro hn (hdr_some hn))
        have hsI : (s : Int) ≤ 4611686018427387904 := by have := (hdr_some hn).2.1; omega
        have hnI : (n : Int) ≤ 4000 := by have := (hdr_some hn).2.2.1; omega
        have hs1 : 1 ≤ (s : Int) := by have := (hdr_some hn).1; omega
        clear q1 q2 q3 hn
        have hsn : (secs n : Int) ≤ 63 := by unfold secs; omega
        have hEI : (E : Int) ≤ 4096 := by omega
        have sm : IntKind.i64.wrap ((E : Int) + (secs n : Int)) = (E : Int) + (secs n : Int) := IntWalk.i64_in _ (by omega)
        have HSC := Lib.hid (fun W => (secs_any n W (by omega)).mono (fun _ _ h => And.intro h.1 h.2.symm))
        by_cases hA : nextR none rs = none ∨ nextR none rs = some s
        · have hcase : decide (0 < rs.length) = false ∨ (decide (0 < rs.length) = true ∧ ((s : Int) == ((LG.of first behind rs).next : Int)) = true ∧ ((s : Int) != ((LG.of first behind rs).next : Int)) = false) := by
            by_cases hne : rs = []
            · left; rw [hne]; simp
            · right
              refine ⟨decide_eq_true (List.length_pos_iff.2 hne), ?_⟩
              have h1 := nextR_some hne
              rcases hA with h2 | h2
              · rw [h1] at h2; cases h2
              · rw [h1] at h2
                injection h2 with h2
                have h3 : ((s : Int) == ((LG.of first behind rs).next : Int)) = true := beq_iff_eq.2 (congrArg Nat.cast h2.symm)
                exact ⟨h3, by simp only [bne, h3]; rfl⟩
          have HA := Lib.hid hA
          clear hA
          by_cases hfit : E + secs n < behind
          · have hfI : ¬ (behind : Int) ≤ (E : Int) + (secs n : Int) := by omega
            have HFT := Lib.hid hfit
            clear hfit
            rcases hcase with hl0 | ⟨hl0, hns, hns2⟩
            all_goals
              go_upto_region 4 with go_in
              go_quiet ((go_at_call 54; exact Calls.quiet_of_same (HSC.out _)))
              clear sm
              have hb4 : Below w3.heap.size w3 (w3.drewN nq) := Below.drewN' (Below.refl _ _) _
              have hB4 : Below wr.heap.size wr (w3.drewN nq) := HC3.out.1.trans (lower' hb4 HC3.out.1.size)
              have hld4 := HC3.out.2.kept hb4
              have hEM : E + secs n < M.size := by have := hld4.fits; have h2 : behind ≤ M.size := this; have := HFT.out; omega
              have hdat := data_any hld4.log hld4.disk hld4.size n (by omega) (by rw [HX.out.2.2.2.2.2.2]; exact hEM)
              rw [HX.out.2.2.2.2.2.2] at hdat
              obtain ⟨d, hd⟩ : ∃ d, d = (cat M.get (E + 1) (secs n)).take n := ⟨_, rfl⟩
              have hdn : d.length = n := by rw [hd]; exact cat_take_len M (E + 1) n (fun i hi => (hld4.disk.full _ (by omega)).2)
              rw [← hd] at hdat
              have HDT := Lib.hid hdat
              have HD := Lib.hid (And.intro hd (And.intro hdn (And.intro hB4 hld4)))
              clear hdat hd hdn hB4 hld4 hb4 c2 c3 c4 hEM
              generalize w3.drewN nq = W4 at HDT HD ⊢
              obtain ⟨R, hR1, hR2, hR3⟩ := HX.out.2.1.ex
              have hRl : R.length = rs.length := by rw [← hR1]; simp
              have hrs4 : rs.length ≤ 4096 := by have := endR_le first rs; have h2 : (LG.of first behind rs).endd = E := HX.out.2.2.2.2.2.2; rw [of_endd] at h2; omega
              have HRR := Lib.hid (And.intro hR1 (And.intro hR2 (And.intro hR3 (And.intro hRl hrs4))))
              clear hR1 hR2 hR3 hRl hrs4
              have hfit2 : (LG.of first behind rs).endd + 1 + secs d.length ≤ behind := by rw [HX.out.2.2.2.2.2.2, HD.out.2.1]; have := HFT.out; omega
              have HF2 := Lib.hid hfit2
              have HDN := Lib.hid HD.out.2.1
              rw [← HDN.out] at hnI ⊢
              clear hfit2
              go_upto_region 6 with (first
                | (go_at_call 55; (refine (HDN.out ▸ HDT.out).mono ?_); rintro e w5 ⟨A5, c5, rfl, hb5a, hr5, hl5, hm5, hb5⟩; have hB5 : Below wr.heap.size wr w5 := HD.out.2.2.1.trans (lower' hb5 HD.out.2.2.1.size); have hu5 : w5.ownsRow base 93 2 (.slice Au rs.length cu) rs.length (recC R) := by { have h := own_below HRR.out.2.1 hB5 (Nat.le_refl _); rw [HRR.out.2.2.2.1] at h; exact h })
                | (at_builtin; refine wpList_appR _ rfl (.tmp 56) (.tmp 62) _ rfl base 93 i0 _ 2 32 Try.underlying37 hi hz0 hz1 hz2 rfl (by omega) (.slice Au rs.length cu) rs.length (recC R) rfl (World.ownsRow.alloc hu5 _) (w5.heap.size + 1) (some ⟨w5.heap.size, 0, none⟩) 1 1 [.int .i64 (s : Int), .slice A5 d.length c5] rfl rfl (Rd.new w5 #[.int .i64 (s : Int), .slice A5 d.length c5] 93 (0, 0)) (by simp [Value.oneCell']) (by have := HRR.out.2.2.2.2; omega) (by omega) (by have h1 := HX.out.2.2.1.low; have h2 := hB5.size; simp; omega) ?_; intro u6 w6 hown6 hg6 hat6)
                | go_in)
              obtain ⟨g6, c6, rfl, _, _, _, _⟩ := own_form hown6 (by omega)
              have hld5 := HD.out.2.2.2.kept hb5
              have hf56 : Fr w5 w6 (Value.slice Au rs.length cu).ownBlock.toList := ((Fr.refl _ _).alloc _).trans (fr_grown hg6)
              have hl6 := hld5.frS hf56 (own_ge hu5) (own_apart hld5.log.row hu5 (by decide))
              have hadd := add_any hl6.log hl6.low s d HHD.out.2.1 HHD.out.2.2.1 (by have := HHD.out.2.2.2.1; rw [HDN.out]; exact this) HF2.out
              have hdt : DataAt w5 A5 d := ⟨hr5, fun a ha => by obtain ⟨cs, hcs⟩ := (hb5a a ha).2; exact ⟨cs, _, hcs⟩⟩
              have hR5 : ∀ r ∈ R, DataAt w5 r.A r.d := fun r hr => (HRR.out.2.2.1 r hr).fr (Fr.of_below hB5 []) (by simp)
              have hfr5 : Fr w w5 [q] := HX.out.2.2.2.1.trans (Fr.of_below hB5 _)
              have HAD := Lib.hid hadd
              have HM := Lib.hid (And.intro hld5 (And.intro hdt (And.intro hR5 (And.intro hfr5 (And.intro hu5 (And.intro hown6 hg6))))))
              clear hld5 hf56 hl6 hadd hdt hR5 hfr5 hb5a hr5 hl5 hm5 hb5 hB5 hu5 hown6 hg6 hat6
              go_wp2_with (first
                | (go_at_call 36; (with_reducible refine HAD.out.mono ?_); rintro e w7 ⟨rfl, v7, hl7, hf7, hb7⟩; have H7 := Lib.hid (And.intro hl7 hf7); clear hl7 hf7 hb7)
                | go_in)
              have hm := HM.out
              have hx := HX.out
              refine ⟨⟨rs ++ [(s, d)], ?_, by simp [sliceLen], ?_⟩, ?_⟩
              · have hsc := hx.2.2.2.2.1
                rw [scan_some (by rw [← HB.out]; exact HHD.out.1) HA.out (by have := HFT.out; exact this), ← HD.out.1] at hsc
                rw [endR_append, nextR_append, List.append_assoc]
                have hE2 : endR first rs = E := hx.2.2.2.2.2.2
                show rs ++ ([(s, d)] ++ scan M.get behind (endR first rs + 1 + secs d.length) (some (s + 1))) = S
                rw [hE2, HDN.out]
                exact hsc
              · exact ReadAll.more (HRR.out.2.2.2.1) HH.out.2.1 HRR.out.1 hm.2.2.1 hm.1 hm.2.2.2.1 hm.2.2.2.2.1 hm.2.1 hm.2.2.2.2.2.1 hm.2.2.2.2.2.2 (fun _ => H7.out.1) H7.out.2
              · have hsc := hx.2.2.2.2.1
                have := congrArg List.length hsc
                rw [List.length_append] at this
                simp only [sliceLen]
                omega
          · have hfI : (behind : Int) ≤ (E : Int) + (secs n : Int) := by omega
            have hend0 := HBR.out (scan_bad (by rw [← HB.out]; exact HHD.out.1) (fun h => hfit h.2))
            have HE := Lib.hid hend0
            clear hend0 hfit
            rcases hcase with hl0 | ⟨hl0, hns, hns2⟩
            all_goals
              go_upto_region 4 with go_in
              go_quiet ((go_at_call 54; exact Calls.quiet_of_same (HSC.out _)))
              go_wp2_with go_in
              go_ret
              exact HE.out _ (Below.drewN' (Below.refl _ _) _)
        · have hne : rs ≠ [] := by rintro rfl; exact hA (.inl rfl)
          have hend0 := HBR.out (scan_bad (by rw [← HB.out]; exact HHD.out.1) (fun h => hA h.1))
          have HE := Lib.hid hend0
          have hlI : decide (0 < rs.length) = true := decide_eq_true (List.length_pos_iff.2 hne)
          have hns : ((s : Int) == ((LG.of first behind rs).next : Int)) = false := beq_eq_false_iff_ne.2 (fun e => hA (.inr (by have := nextR_some hne; rw [this]; congr 1; exact (Int.ofNat.inj e).symm)))
          have hns2 : ((s : Int) != ((LG.of first behind rs).next : Int)) = true := by simp only [bne, hns]; rfl
          clear hend0 hA hne
          go_upto_region 4 with go_in
          go_quiet (fail)
          go_wp2_with go_in
          go_ret
          exact HE.out _ (Below.drewN' (Below.refl _ _) _)
    · have hltI : ¬ (E : Int) < (behind : Int) := by omega
      have hnil : scan M.get behind E (nextR none rs) = [] := scan_none (fun h => absurd h hlt)
      have HE := Lib.hid hnil
      clear hnil
      go_upto_region 2 with go_in
      go_quiet (fail)
      go_wp2_with go_in
      go_ret
      have hx := HX.out
      have hsc := hx.2.2.2.2.1
      rw [HE.out, List.append_nil] at hsc
      rw [← hsc]
      exact ⟨_, rfl, hx.1.below (Below.drewN' (Below.refl _ _) _)⟩
end Go.Proofs.Ytajakmfloeefpaa
/- Open. -/
namespace Go.Proofs.Ytajakmfloeefpaa
open Go.RowKit Go.Maps

/-- Are there such sectors? -/
def openBad (size : Nat) (first count : Int) : Prop := count < 2 ∨ first < 0 ∨ (size : Int) - count < first
/-- What an Open does to the disk. -/
def openOps (M : DM) (first behind : Nat) : List DOp :=
  if (LG.of first behind (scan M.get behind first none)).dirty M = [] then [] else wipeOps ((LG.of first behind (scan M.get behind first none)).dirty M)
set_option maxRecDepth 100000 in
theorem open_bad {w : World} {p bs bw T : Nat} {M : DM} (hD : DiskM w p bs bw M T) (first count : Int) (hc : -9223372036854775808 ≤ count ∧ count ≤ 9223372036854775807) (hz : M.size ≤ 4096) (h : openBad M.size first count) :
    Calls Try.prog 7 #[.pointer (some ⟨p, 0, none⟩), .int .i64 first, .int .i64 count] w fun e w' => e = .returned (.tuple #[.pointer none, .slice none 0 0, .int .i64 1]) ∧ w = w' := by
  have hsz := sizeM hD
  have HS := Lib.hid hsz
  have HC := Lib.hid hc
  have hzI : (M.size : Int) ≤ 4096 := by omega
  clear hsz hD hc
  by_cases h1 : count < 2
  · clear h
    go_enter Try.func7, Try.ntmps7
    go_wp2_with go_in
    go_ret3
    exact ⟨rfl, rfl⟩
  · by_cases h2 : first < 0
    · clear h
      go_enter Try.func7, Try.ntmps7
      go_wp2_with go_in
      go_ret3
      exact ⟨rfl, rfl⟩
    · have h3 : (M.size : Int) - count < first := by unfold openBad at h; omega
      have h4 : count ≤ 9223372036854775807 := HC.out.2
      have h1' : 2 ≤ count := by omega
      clear h
      go_enter Try.func7, Try.ntmps7
      go_wp2_with (first
        | (go_at_call 28; (with_reducible refine HS.out.mono ?_); rintro e w2 ⟨rfl, rfl⟩)
        | go_in)
      go_ret3
      exact ⟨rfl, rfl⟩
theorem LogD.mono {w : World} {base q p bs bw T T' : Nat} {L : LG} {v : Value} {M : DM} (h : LogD w base q p bs bw T L v M) (hT : T ≤ T') : LogD w base q p bs bw T' L v M := ⟨h.log, h.disk.mono hT, h.ap, h.low, h.fits, h.size⟩
theorem noBytes_disk {w : World} {p bs bw T : Nat} {M : DM} (h : DiskM w p bs bw M T) : ∀ z ∈ [p, bs, bw], NoBytes w z := by
  obtain ⟨D, ⟨h1, _, ns, nw, ⟨es, cl, h2, _⟩, ⟨es2, cl2, h3, _⟩, _⟩, _⟩ := h
  intro z hz cs fr hg
  simp at hz
  rcases hz with rfl | rfl | rfl
  · rw [h1] at hg; cases hg
  · rw [h2] at hg; cases hg
  · rw [h3] at hg; cases hg
theorem RecsAt.disk {w w' : World} {lo p bs bw T : Nat} {u : Value} {rs : List Rec} {M : DM} (h : RecsAt w lo u rs) (hd : DiskM w p bs bw M T) (hf : Fr w w' [p, bs, bw]) (hl : p < lo ∧ bs < lo ∧ bw < lo) : RecsAt w' lo u rs := by
  refine h.fr hf (noBytes_disk hd) (fun z hz hm => ?_)
  obtain ⟨R, _, h2, _⟩ := h.ex
  have := own_ge h2 z hz
  simp at hm
  omega
/-- What an Open leaves: the log, and its records. -/
def Opened (w w' : World) (p bs bw T : Nat) (M' : DM) (first behind : Nat) (rs : List Rec) (e : Ending) : Prop :=
  ∃ q u v, e = .returned (.tuple #[.pointer (some ⟨q, 0, none⟩), u, .int .i64 0]) ∧ w.heap.size ≤ q ∧ RecsAt w' (q + 1) u rs ∧ LogD w' (q + 1) q p bs bw T (LG.of first behind rs) v M'
set_option maxRecDepth 100000 in
set_option maxHeartbeats 4000000 in
theorem open_any {w : World} {p bs bw T : Nat} {M : DM} (hD : DiskM w p bs bw M T) (first count : Nat) (hc : 2 ≤ count) (hfit : first + count ≤ M.size) (hft : Fit M T 4097) :
    Calls Try.prog 7 #[.pointer (some ⟨p, 0, none⟩), .int .i64 (first : Int), .int .i64 (count : Int)] w fun e w' =>
      ((runOps (openOps M first (first + count)) M).1 = 0 → Opened w w' p bs bw (T + 4097) (runOps (openOps M first (first + count)) M).2 first (first + count) (scan M.get (first + count) first none) e) ∧
      ((runOps (openOps M first (first + count)) M).1 = 30 → e = .returned (.tuple #[.pointer none, .slice none 0 0, .int .i64 30]) ∧ DiskM w' p bs bw (runOps (openOps M first (first + count)) M).2 (T + 4097)) ∧ Fr w w' [p, bs, bw] := by
  have hsz := sizeM hD
  have HS := Lib.hid hsz
  have hlt := hD.lt
  obtain ⟨rs, hrs⟩ : ∃ rs, rs = scan M.get (first + count) first none := ⟨_, rfl⟩
  have hnew : LogD (w.alloc (.cells #[.pointer (some ⟨p, 0, none⟩), .int .i64 (first : Int), .int .i64 ((first : Int) + (count : Int)), .int .i64 (first : Int), .int .i64 1, .slice none 0 0] 68)) (w.heap.size + 1) w.heap.size p bs bw T (LG.of first (first + count) []) (.slice none 0 0) M :=
    ⟨⟨by unfold LG.cells LG.of; show _ = some (Obj.cells #[.pointer (some ⟨p, 0, none⟩), .int .i64 (first : Int), .int .i64 (((first + count : Nat)) : Int), .int .i64 (first : Int), .int .i64 1, .slice none 0 0] 68 (0, 0)); rw [show (((first + count : Nat)) : Int) = (first : Int) + (count : Int) by omega]; exact heap_alloc_new w _, World.ownsRow_nil _ _ 106 2, Nat.lt_succ_self _, ⟨by show first < first + count; omega, by show first + count ≤ 4096; have := hft.size; omega, by show first ≤ first + count; omega, Nat.le_refl _, by show 1 ≤ _; omega⟩⟩, hD.alloc _, ⟨by omega, by omega, by omega, by omega, by omega, by omega⟩, by simp, hfit, hft.size⟩
  have hra := readAll_any hnew (alloc1_size _ _).symm
  rw [← hrs] at hra
  have HN := Lib.hid (And.intro hnew (And.intro hD (And.intro hlt (And.intro hc (And.intro hfit (And.intro hft hrs))))))
  have HRA := Lib.hid hra
  have hcI : 2 ≤ (count : Int) := by omega
  have hfI : (first : Int) ≤ (M.size : Int) - (count : Int) := by omega
  have hzI : (M.size : Int) ≤ 4096 := by have := hft.size; omega
  have hsum : (first : Int) + (count : Int) ≤ 4096 := by have := hft.size; omega
  clear hsz hlt hnew hra hD hc hfit hft hrs
  go_enter Try.func7, Try.ntmps7
  go_upto_region 4 with (first
    | (go_at_call 28; (with_reducible refine HS.out.mono ?_); rintro e w2 ⟨rfl, rfl⟩)
    | go_in)
  have hb1 : Below w.heap.size w (w.alloc (.cells #[.pointer (some ⟨p, 0, none⟩), .int .i64 (first : Int), .int .i64 ((first : Int) + (count : Int)), .int .i64 (first : Int), .int .i64 1, .slice none 0 0] 68)) := (Below.refl _ _).alloc (Nat.le_refl _) _
  obtain ⟨q, hq⟩ : ∃ q, q = w.heap.size := ⟨_, rfl⟩
  rw [← hq] at HN HRA ⊢
  generalize w.alloc (.cells #[.pointer (some ⟨p, 0, none⟩), .int .i64 (first : Int), .int .i64 ((first : Int) + (count : Int)), .int .i64 (first : Int), .int .i64 1, .slice none 0 0] 68) = W1 at HN HRA hb1 ⊢
  have HQ := Lib.hid (And.intro hq hb1)
  clear hq hb1
  go_upto_region 5 with (first
    | (go_at_call 29; (with_reducible refine HRA.out.mono ?_); rintro e w2 ⟨u, rfl, hra⟩)
    | go_in)
  obtain ⟨v', hrec, hld, hfr⟩ := hra
  have hdy := dirty_any hld.log hld.disk hld.size hld.fits
  obtain ⟨D, hD⟩ : ∃ D, D = (LG.of first (first + count) rs).dirty M := ⟨_, rfl⟩
  rw [← hD] at hdy
  have hDl : D.length ≤ 4096 := by
    rw [hD]
    unfold LG.dirty
    have h1 := dirtyL_len M.get (LG.of first (first + count) rs).endd ((LG.of first (first + count) rs).behind - (LG.of first (first + count) rs).endd)
    have h2 := hld.fits
    have h3 := hld.size
    omega
  have hDs : ∀ i ∈ D, i < M.size := fun i hi => by
    rw [hD] at hi
    have h1 := dirtyL_mem hi
    have h2 := hld.fits
    have h3 := hld.log.ok.endd
    omega
  have hfr1 : Fr w w2 [p, bs, bw] := (Fr.of_below HQ.out.2 _).more hfr (by intro z hz; simp at hz; right; have := HQ.out.1; omega)
  have HDY := Lib.hid hdy
  have H2 := Lib.hid (And.intro hrec (And.intro hld (And.intro hfr1 (And.intro hD (And.intro hDl hDs)))))
  have hfacts := runOps_facts (wipeOps D) M
  have HFA := Lib.hid hfacts
  clear hrec hld hfr hdy hDs hfr1 hfacts
  go_upto_region 6 with (first
    | (go_at_call 30; (with_reducible refine HDY.out.mono ?_); rintro e w3 ⟨dv, rfl, hrow3, hb3⟩)
    | go_in)
  by_cases h0 : D = []
  · have e0 : runOps (openOps M first (first + count)) M = (0, M) := by unfold openOps; rw [← HN.out.2.2.2.2.2.2, ← H2.out.2.2.2.1, if_pos h0]; rfl
    have HE := Lib.hid e0
    have hl0 : decide (0 < D.length) = false := by rw [h0]; rfl
    have hl1 : ¬ (0 : Int) < (D.length : Int) := by rw [h0]; simp
    have HB3 := Lib.hid hb3
    obtain ⟨A3, c3, rfl, _, _, _⟩ := own_shape hrow3
    clear e0 hrow3 hb3 h0 hDl hD
    go_wp2_with go_in
    go_ret3
    rw [HE.out, ← HN.out.2.2.2.2.2.2]
    have h2 := H2.out
    exact ⟨fun _ => ⟨q, u, v', rfl, by have := HQ.out.1; omega, h2.1.below HB3.out, (h2.2.1.kept HB3.out).mono (Nat.le_add_right _ _)⟩, fun h => (by cases h), h2.2.2.1.trans (Fr.of_below HB3.out _)⟩
  · have e0 : openOps M first (first + count) = wipeOps D := by unfold openOps; rw [← HN.out.2.2.2.2.2.2, ← H2.out.2.2.2.1, if_neg h0]
    have hlp : 0 < D.length := List.length_pos_iff.2 h0
    have hl0 : decide (0 < D.length) = true := decide_eq_true hlp
    have hl1 : (0 : Int) < (D.length : Int) := by omega
    obtain ⟨g3, c3, rfl, hg3, _, _, _⟩ := own_form hrow3 hlp
    have h2 := H2.out
    have hlog3 := h2.2.1.kept hb3
    have hlt3 := h2.2.1.disk.lt
    have hwp := wipe_any hlog3.log hlog3.disk (some ⟨g3, 0, none⟩) D c3 w3.heap.size (Rd.ofOwn hrow3) (fun a ha => by cases ha; show g3 ≠ p ∧ g3 ≠ bs ∧ g3 ≠ bw; omega) ⟨hlog3.ap.qp, hlog3.ap.qs, hlog3.ap.qw⟩ h2.2.2.2.2.2 hDl (HN.out.2.2.2.2.2.1.less (by omega))
    have HB3 := Lib.hid hb3
    have hopl : T + (wipeOps D).length ≤ T + 4097 := by simp [wipeOps, zeroOps]; omega
    have HE := Lib.hid (And.intro e0 hopl)
    have hlogF : ∀ w4 : World, Fr w3 w4 [p, bs, bw] → DiskM w4 p bs bw (runOps (wipeOps D) M).2 (T + (wipeOps D).length) → LogD w4 (q + 1) q p bs bw (T + 4097) (LG.of first (first + count) rs) v' (runOps (wipeOps D) M).2 := fun w4 hf hd =>
      ⟨hlog3.ap.fr hlog3.log hf, hd.mono hopl, hlog3.ap, Nat.le_trans hlog3.low hf.size, by rw [HFA.out.1]; exact hlog3.fits, by rw [HFA.out.1]; exact hlog3.size⟩
    have HD3 := Lib.hid (And.intro hlog3.disk hlog3.ap)
    have HLF := Lib.hid hlogF
    unfold Ran at hwp
    rcases HFA.out.2.2.2 with hcode | hcode
    · rw [hcode] at hwp
      have HW := Lib.hid hwp
      have HC := Lib.hid hcode
      clear e0 hlp h0 hDl hD hrow3 hb3 hg3 hwp hopl hlogF hcode hlog3 hlt3 h2
      go_wp2_with (first
        | (go_at_call 31; (with_reducible refine HW.out.mono ?_); rintro e w4 ⟨rfl, hD4, hF4⟩; have H4 := Lib.hid (And.intro hD4 hF4); clear hD4 hF4)
        | go_in)
      go_ret3
      rw [HE.out.1, HC.out, ← HN.out.2.2.2.2.2.2]
      have h2 := H2.out
      refine ⟨fun _ => ⟨q, u, v', rfl, by have := HQ.out.1; omega, ?_, HLF.out w4 H4.out.2 H4.out.1⟩, fun h => (by cases h), (h2.2.2.1.trans (Fr.of_below HB3.out _)).trans H4.out.2⟩
      exact (h2.1.below HB3.out).disk HD3.out.1 H4.out.2 ⟨HD3.out.2.lp, HD3.out.2.ls, HD3.out.2.lw⟩
    · rw [hcode] at hwp
      have HW := Lib.hid hwp
      have HC := Lib.hid hcode
      clear e0 hlp h0 hDl hD hrow3 hb3 hg3 hwp hlogF hcode hlog3 hlt3 h2
      go_wp2_with (first
        | (go_at_call 31; (with_reducible refine HW.out.mono ?_); rintro e w4 ⟨rfl, hD4, hF4⟩; have H4 := Lib.hid (And.intro hD4 hF4); clear hD4 hF4)
        | go_in)
      go_ret3
      rw [HE.out.1, HC.out]
      exact ⟨fun h => (by cases h), fun _ => ⟨rfl, H4.out.1.mono HE.out.2⟩, (H2.out.2.2.1.trans (Fr.of_below HB3.out _)).trans H4.out.2⟩
end Go.Proofs.Ytajakmfloeefpaa
/- The document's log: wipe. -/
namespace Go.Proofs.Ytajakmfloeefpaa
open Go.RowKit Go.Maps

theorem make_zero (w : World) : ∃ w5, (Instr.makeSlice 45 (.int .i64 64) (.int .i64 64)).run Try.prog w = .ok (.slice (some ⟨w.heap.size, 0, none⟩) 64 64) w5 ∧ Below w.heap.size w w5 ∧ (convert 45 9 (.slice (some ⟨w.heap.size, 0, none⟩) 64 64)).run Try.prog w5 = .ok (.string ⟨zero64.toArray⟩) w5 := by
  have h := make64 w
  refine ⟨_, h, (Below.refl _ _).alloc (Nat.le_refl _) _, ?_⟩
  exact strAt (n := 64) (c := 64) (Rd.new w (u8s zero64).toArray 5 (0, 0)) rfl
theorem resWipe {w : World} {b : Nat} {v0 v1 v2 v3 v4 : Value} (h : w.heap[b]? = some (.cells #[v0, v1, v2, v3, v4] 33 (0, 0))) (tmps : Array Value) (h2 : tmps.getD 4 undef = .pointer (some ⟨b, 0, none⟩)) :
    (results Try.f34 tmps).run Try.prog w = .ok (.tuple #[.agg #[v0, v1, v2, v3, v4], tmps.getD 5 undef]) w := by
  have e0 : w.cell? ⟨b, 0, none⟩ = some v0 := cell_of_row w b 0 _ _ _ h
  have e1 : w.cell? ⟨b, 1, none⟩ = some v1 := cell_of_row w b 1 _ _ _ h
  have e2 : w.cell? ⟨b, 2, none⟩ = some v2 := cell_of_row w b 2 _ _ _ h
  have e3 : w.cell? ⟨b, 3, none⟩ = some v3 := cell_of_row w b 3 _ _ _ h
  have e4 : w.cell? ⟨b, 4, none⟩ = some v4 := cell_of_row w b 4 _ _ _ h
  have h2' := h2
  simp only [Array.getD_eq_getD_getElem?] at h2'
  simp [results, Try.results34, go_sem, h2', e0, e1, e2, e3, e4]
theorem zeroOps_len (L : List Nat) : (zeroOps L).length = L.length := List.length_map _
set_option maxRecDepth 100000 in
set_option maxHeartbeats 4000000 in
theorem rwipe_any (w : World) (X : List Nat) (M : DM) (T : Nat) (v : Value) (hv : RefV w X (refOf M) v) (hk : M.Ok T) (hp : 0 < M.size) (hX : ∀ x ∈ X, x < w.heap.size) (A : Option Addr) (c B : Nat) (L : List Nat) (hst : M.steps + L.length ≤ 1000000000) (hr : Rd w B A (ints L)) (hB : B ≤ w.heap.size) (hat : ∀ i ∈ L, i < M.size) (hL : L.length ≤ 4096) :
    Calls Try.prog 34 #[v, .slice A L.length c] w fun e w' => ∃ v', e = .returned (.tuple #[v', .int .i64 (runOps (wipeOps L) M).1]) ∧ RefV w' X (refOf (runOps (wipeOps L) M).2) v' ∧ Below w.heap.size w w' := by
  have hv' := hv
  obtain ⟨A1, A2, A3, c1, c2, c3, rfl, _, _, _⟩ := hv'
  obtain ⟨n1, hn1⟩ : ∃ n, n = (refOf M).sure.length := ⟨_, rfl⟩
  obtain ⟨n2, hn2⟩ : ∃ n, n = (refOf M).now.length := ⟨_, rfl⟩
  obtain ⟨n3, hn3⟩ : ∃ n, n = (refOf M).fresh.length := ⟨_, rfl⟩
  obtain ⟨sx, hsx⟩ : ∃ n, n = (refOf M).steps := ⟨_, rfl⟩
  obtain ⟨lx, hlx⟩ : ∃ n, n = (refOf M).left := ⟨_, rfl⟩
  rw [← hn1, ← hn2, ← hn3, ← hsx, ← hlx] at hv ⊢
  have h2 := RBox.new hv hp
  have hLI : (L.length : Int) ≤ 4096 := by omega
  have HR := Lib.hid (And.intro hr (And.intro hB (And.intro hat (And.intro hk (And.intro hst hX)))))
  clear hn1 hn2 hn3 hsx hlx hv hr hB hat hk hp hst hX hL
  obtain ⟨Rz, hRz⟩ : ∃ Rz, Rz = runOps (wipeOps L) M := ⟨_, rfl⟩
  rw [← hRz]
  have HRZ := Lib.hid hRz
  clear hRz
  go_enter Try.func34, Try.ntmps34
  go_upto_region 2 with (fail)
  generalize ((w.alloc (.cells #[.slice A1 n1 c1, .slice A2 n2 c2, .slice A3 n3 c3, .int .i64 sx, .int .i64 lx] 33)).alloc (.cells #[.slice none 0 0, .slice none 0 0, .slice none 0 0, .int .i64 0, .int .i64 0] 33)) = W2 at h2 ⊢
  have H2 := Lib.hid h2
  clear h2
  go_wp2_with (fail)
  go_loopw [6, 7, 10] (fun cd _ a wr => ∃ (k : Nat) (Mk : DM), k ≤ L.length ∧ a = .int .i64 (k : Int) ∧ cd = .int .i64 0 ∧ runOps (zeroOps (L.take k)) M = (0, Mk) ∧ RBox w wr X Mk)
    (fun _ _ a _ => L.length - (intOf a).toNat)
  case atStart => exact ⟨0, M, by omega, rfl, rfl, rfl, H2.out⟩
  case round =>
    obtain ⟨k, Mk, hkl, rfl, rfl, hrun, hbx⟩ := hrel
    have hfa := runOps_facts (zeroOps (L.take k)) M
    rw [hrun, zeroOps_len, List.length_take] at hfa
    dsimp only at hfa
    have hok : Mk.Ok T := ⟨by rw [hfa.1]; exact HR.out.2.2.2.1.size, by have := HR.out.2.2.2.2.1; omega, Nat.le_trans hfa.2.2.1 HR.out.2.2.2.1.left, HR.out.2.2.2.1.T⟩
    obtain ⟨P1, P2, P3, p1, p2, p3, e1, e2, e3, sk, lk, hg, hvk⟩ := hbx.box
    have hXk : ∀ x ∈ w.heap.size :: (w.heap.size + 1) :: X, x < wr.heap.size := by
      intro x hx
      rcases List.mem_cons.1 hx with rfl | hx
      · exact heap_lt hg
      · rcases List.mem_cons.1 hx with rfl | hx
        · exact heap_lt hbx.res
        · exact Nat.lt_of_lt_of_le (HR.out.2.2.2.2.2 x hx) hbx.below.size
    by_cases hkn : k < L.length
    · have hkI : (k : Int) < (L.length : Int) := by omega
      obtain ⟨b, hbe⟩ : ∃ b, b = L[k] := ⟨_, rfl⟩
      have htk : L.take (k + 1) = L.take k ++ [b] := by rw [hbe]; exact List.take_succ_eq_append_getElem hkn
      have hki : b < Mk.size := by rw [hfa.1, hbe]; exact HR.out.2.2.1 _ (List.getElem_mem hkn)
      have hsn : zeroOps (L.take (k + 1)) = zeroOps (L.take k) ++ [some (b, zero64)] := by rw [htk]; simp [zeroOps]
      obtain ⟨ab, ao, rfl, hab, hcell⟩ := HR.out.1.get (k := k) (by rw [ints_len]; exact hkn)
      have hrow : ∀ w' : World, Below wr.heap.size wr w' → w'.cell? ⟨ab, ao + k, none⟩ = some (.int .i64 (b : Int)) := fun w' hb => by
        have h := hcell
        simp only [ints, List.getElem_map, ← hbe] at h
        rw [← h]
        exact (hbx.below.trans (lower' hb hbx.below.size)).cell (p := ⟨ab, ao + k, none⟩) (Nat.lt_of_lt_of_le hab HR.out.2.1)
      have hcells : ∀ w' : World, Below wr.heap.size wr w' → w'.cell? ⟨ab, ao + k, none⟩ = some (.int .i64 (b : Int)) ∧ w'.cell? ⟨w.heap.size, 0, none⟩ = some (.slice P1 p1 e1) ∧ w'.cell? ⟨w.heap.size, 1, none⟩ = some (.slice P2 p2 e2) ∧ w'.cell? ⟨w.heap.size, 2, none⟩ = some (.slice P3 p3 e3) ∧ w'.cell? ⟨w.heap.size, 3, none⟩ = some (.int .i64 sk) ∧ w'.cell? ⟨w.heap.size, 4, none⟩ = some (.int .i64 lk) := fun w' hb => by
        have g2 := (hb.block _ (heap_lt hg)).trans hg
        exact ⟨hrow w' hb, cell_of_row w' _ 0 _ _ _ g2, cell_of_row w' _ 1 _ _ _ g2, cell_of_row w' _ 2 _ _ _ g2, cell_of_row w' _ 3 _ _ _ g2, cell_of_row w' _ 4 _ _ _ g2⟩
      obtain ⟨cd, hcd⟩ : ∃ cd : Int, cd = if Mk.dead then 30 else 0 := ⟨_, rfl⟩
      obtain ⟨Mn, hMn⟩ : ∃ Mn, Mn = if Mk.dead then Mk else Mk.written b zero64 := ⟨_, rfl⟩
      have hwr : ∀ w5 : World, Below wr.heap.size wr w5 → Calls Try.prog 17 #[.agg #[.slice P1 p1 e1, .slice P2 p2 e2, .slice P3 p3 e3, .int .i64 sk, .int .i64 lk], .int .i64 (b : Int), .string ⟨zero64.toArray⟩] w5 fun e w' => ∃ B1 B2 B3 m1 m2 m3 d1 d2 d3 s l, e = .returned (.tuple #[.agg #[.slice B1 m1 d1, .slice B2 m2 d2, .slice B3 m3 d3, .int .i64 s, .int .i64 l], .int .i64 cd]) ∧ RefV w' (w.heap.size :: (w.heap.size + 1) :: X) (refOf Mn) (.agg #[.slice B1 m1 d1, .slice B2 m2 d2, .slice B3 m3 d3, .int .i64 s, .int .i64 l]) ∧ Below w5.heap.size w5 w' := fun w5 hb => by
        have h := (hvk.below hb).rwrite (wr := w5) hok (fun x hx => Nat.lt_of_lt_of_le (hXk x hx) hb.size) (b : Int) zero64
        rw [(write_eq hki rfl).1, (write_eq hki rfl).2, ← hcd, ← hMn] at h
        exact h
      have HW := Lib.hid hwr
      have KS := Lib.hid hcells
      have HX := Lib.hid (And.intro hbx (And.intro hkn hg))
      have HC := Lib.hid (And.intro hcd (And.intro hMn (And.intro hrun hsn)))
      obtain ⟨w5, hmk, hb5, hcv⟩ := make_zero wr.drew
      replace hcv : (convert 45 9 (.slice (some ⟨wr.heap.size, 0, none⟩) 64 64)).run Try.prog w5 = .ok (.string ⟨zero64.toArray⟩) w5 := hcv
      have hb5' : Below wr.heap.size wr w5 := ⟨hb5.os, hb5.tape, hb5.output, hb5.size, hb5.block⟩
      have HB5 := Lib.hid hb5'
      clear hwr hcells hrow hcell hbx hkn hg hcd hMn hrun hsn hfa hok hvk hXk hbe htk hki hb5 hb5'
      go_upto_region 5 with (fail)
      go_cut [6] from 13 to 23 (fun u w' => u = .int .i64 cd ∧ Hid (RBox w w' X Mn))
      case first =>
        have hS0 := KS.out wr.drew (Below.refl _ _).drew
        refine wp_region_M (fun j => decide (j < 8)) (fun w' => w'.cell? ⟨ab, ao + k, none⟩ = some (.int .i64 (b : Int)) ∧ w'.cell? ⟨w.heap.size, 0, none⟩ = some (.slice P1 p1 e1) ∧ w'.cell? ⟨w.heap.size, 1, none⟩ = some (.slice P2 p2 e2) ∧ w'.cell? ⟨w.heap.size, 2, none⟩ = some (.slice P3 p3 e3) ∧ w'.cell? ⟨w.heap.size, 3, none⟩ = some (.int .i64 sk) ∧ w'.cell? ⟨w.heap.size, 4, none⟩ = some (.int .i64 lk)) (by kernel_rfl) ?_
        refine wpAnyM_take (i := 0) (v := ?_) rfl (by kernel_rfl) (by kernel_rfl) (by kernel_rfl) (by kernel_rfl) (fun _ _ _ h => h) (Or.inl ⟨by rfl, ?_⟩) hS0 ?_
        rotate_left
        · intro w hSw; (try dsimp only at hSw); go_simp; (try with_reducible rfl)
        simp only [Act.put, List.getElem_toArray, List.getElem_cons_zero, List.getElem_cons_succ, List.setIfInBounds_toArray, List.set_cons_zero, List.set_cons_succ]
        refine wpAnyM_take (i := 1) (v := ?_) rfl (by kernel_rfl) (by kernel_rfl) (by kernel_rfl) (by kernel_rfl) (fun _ _ _ h => h) (Or.inl ⟨by rfl, ?_⟩) hS0 ?_
        rotate_left
        · intro w hSw; (try dsimp only at hSw); go_simp; (try with_reducible rfl)
        simp only [Act.put, List.getElem_toArray, List.getElem_cons_zero, List.getElem_cons_succ, List.setIfInBounds_toArray, List.set_cons_zero, List.set_cons_succ]
        refine wpAnyM_take (i := 2) (v := ?_) rfl (by kernel_rfl) (by kernel_rfl) (by kernel_rfl) (by kernel_rfl) (fun _ _ _ h => h) (Or.inl ⟨by rfl, ?_⟩) hS0 ?_
        rotate_left
        · intro w hSw; (try dsimp only at hSw); go_simp; (try with_reducible rfl)
        simp only [Act.put, List.getElem_toArray, List.getElem_cons_zero, List.getElem_cons_succ, List.setIfInBounds_toArray, List.set_cons_zero, List.set_cons_succ]
        refine wpAnyM_take (i := 3) (v := ?_) rfl (by kernel_rfl) (by kernel_rfl) (by kernel_rfl) (by kernel_rfl) (fun _ _ _ h => h) (Or.inl ⟨by rfl, ?_⟩) hS0 ?_
        rotate_left
        · intro w hSw; (try dsimp only at hSw); go_simp; (try with_reducible rfl)
        simp only [Act.put, List.getElem_toArray, List.getElem_cons_zero, List.getElem_cons_succ, List.setIfInBounds_toArray, List.set_cons_zero, List.set_cons_succ]
        refine wpAnyM_take (i := 4) (v := ?_) rfl (by kernel_rfl) (by kernel_rfl) (by kernel_rfl) (by kernel_rfl) (fun _ _ _ h => h) (Or.inl ⟨by rfl, ?_⟩) hS0 ?_
        rotate_left
        · intro w hSw; (try dsimp only at hSw); go_simp; (try with_reducible rfl)
        simp only [Act.put, List.getElem_toArray, List.getElem_cons_zero, List.getElem_cons_succ, List.setIfInBounds_toArray, List.set_cons_zero, List.set_cons_succ]
        refine wpAnyM_one (i := 5) (by kernel_rfl) rfl (fun K hK => ?_)
        go_simp
        refine hK.out _ _ (fun _ => KS.out _ HB5.out) ?_
        clear hK K
        refine wpAnyM_one (i := 6) (by kernel_rfl) rfl (fun K hK => ?_)
        go_simp
        refine hK.out _ _ (fun _ => KS.out _ HB5.out) ?_
        clear hK K
        refine wpAnyM_one (i := 7) (by kernel_rfl) rfl (fun K hK => ?_)
        go_simp
        go_wp2_with (go_at_call 17; (with_reducible refine (HW.out _ HB5.out).mono ?_); rintro e w9 ⟨B1, B2, B3, r1, r2, r3, f1, f2, f3, s9, l9, rfl, hR9, hb9⟩)
        have hb9' := HB5.out.trans (lower' hb9 HB5.out.size)
        refine hK.out _ _ (fun _ => KS.out _ hb9') ?_
        clear hK K
        refine wpAnyM_value (i := 8) (v := ?_) rfl (by kernel_rfl) (by kernel_rfl) (by kernel_rfl) (by kernel_rfl) (fun _ _ _ h => h) (Or.inl ⟨by rfl, ?_⟩) ?_
        rotate_left
        · intro w hSw; go_simp; (try with_reducible rfl)
        simp only [Act.put, List.getElem_toArray, List.getElem_cons_zero, List.getElem_cons_succ, List.setIfInBounds_toArray, List.set_cons_zero, List.set_cons_succ]
        refine wpAnyM_value (i := 9) (v := ?_) rfl (by kernel_rfl) (by kernel_rfl) (by kernel_rfl) (by kernel_rfl) (fun _ _ _ h => h) (Or.inl ⟨by rfl, ?_⟩) ?_
        rotate_left
        · intro w hSw; go_simp; (try with_reducible rfl)
        simp only [Act.put, List.getElem_toArray, List.getElem_cons_zero, List.getElem_cons_succ, List.setIfInBounds_toArray, List.set_cons_zero, List.set_cons_succ]
        refine wpAnyM_value (i := 10) (v := ?_) rfl (by kernel_rfl) (by kernel_rfl) (by kernel_rfl) (by kernel_rfl) (fun _ _ _ h => h) (Or.inl ⟨by rfl, ?_⟩) ?_
        rotate_left
        · intro w hSw; go_simp; (try with_reducible rfl)
        simp only [Act.put, List.getElem_toArray, List.getElem_cons_zero, List.getElem_cons_succ, List.setIfInBounds_toArray, List.set_cons_zero, List.set_cons_succ]
        have hg9 := (hb9'.block _ (heap_lt HX.out.2.2)).trans HX.out.2.2
        have u0 := cell_of_row w9 (w.heap.size) 0 _ _ _ hg9; have u1 := cell_of_row w9 (w.heap.size) 1 _ _ _ hg9; have u2 := cell_of_row w9 (w.heap.size) 2 _ _ _ hg9; have u3 := cell_of_row w9 (w.heap.size) 3 _ _ _ hg9; have u4 := cell_of_row w9 (w.heap.size) 4 _ _ _ hg9; have t0 := frozen_of_row w9 (w.heap.size) 0 _ _ hg9; have t1 := frozen_of_row w9 (w.heap.size) 1 _ _ hg9; have t2 := frozen_of_row w9 (w.heap.size) 2 _ _ hg9; have t3 := frozen_of_row w9 (w.heap.size) 3 _ _ hg9; have t4 := frozen_of_row w9 (w.heap.size) 4 _ _ hg9
        refine wpAnyM_one (i := 11) (by kernel_rfl) rfl (fun K hK => ?_)
        go_simp
        refine hK.out _ _ (fun h => absurd h (by decide)) ?_
        clear hK K
        refine wpAnyM_value (i := 12) (v := ?_) rfl (by kernel_rfl) (by kernel_rfl) (by kernel_rfl) (by kernel_rfl) (fun _ _ _ h => h) (Or.inl ⟨by rfl, ?_⟩) ?_
        rotate_left
        · intro w hSw; go_simp; (try with_reducible rfl)
        simp only [Act.put, List.getElem_toArray, List.getElem_cons_zero, List.getElem_cons_succ, List.setIfInBounds_toArray, List.set_cons_zero, List.set_cons_succ]
        refine wpAnyM_done (by kernel_rfl) ?_ _
        have hput := HX.out.1.put hb9' hR9
        go_wp2_with (fail)
        go_meet
        case rel => exact ⟨rfl, Lib.hid hput⟩
      case rest =>
        obtain ⟨rfl, HX9⟩ := hcut
        cases hd : Mk.dead with
        | true =>
          have hcd : cd = 30 := by rw [HC.out.1, hd]; rfl
          have hMn : Mn = Mk := by rw [HC.out.2.1, hd]; rfl
          have hz : Rz = (30, Mk) := by
            rw [HRZ.out]
            unfold wipeOps
            rw [← List.take_append_drop k (zeroOps L), zeroOps_take, List.append_assoc, runOps_append, HC.out.2.2.1, if_pos rfl]
            exact runOps_dead hd (by simp)
          have hX9 := HX9.out
          rw [hMn] at hX9
          have HZ := Lib.hid hz
          subst hcd
          obtain ⟨Q1, Q2, Q3, q1, q2, q3, g1, g2, g3, sq, lq, hgq, hvq⟩ := hX9.box
          have hrs := hX9.res
          have z0 := cell_of_row wc (w.heap.size) 0 _ _ _ hgq; have z1 := cell_of_row wc (w.heap.size) 1 _ _ _ hgq; have z2 := cell_of_row wc (w.heap.size) 2 _ _ _ hgq; have z3 := cell_of_row wc (w.heap.size) 3 _ _ _ hgq; have z4 := cell_of_row wc (w.heap.size) 4 _ _ _ hgq
          have m0 := cell_of_row wc (w.heap.size + 1) 0 _ _ _ hrs; have m1 := cell_of_row wc (w.heap.size + 1) 1 _ _ _ hrs; have m2 := cell_of_row wc (w.heap.size + 1) 2 _ _ _ hrs; have m3 := cell_of_row wc (w.heap.size + 1) 3 _ _ _ hrs; have m4 := cell_of_row wc (w.heap.size + 1) 4 _ _ _ hrs
          have mf0 := frozen_of_row wc (w.heap.size + 1) 0 _ _ hrs; have mf1 := frozen_of_row wc (w.heap.size + 1) 1 _ _ hrs; have mf2 := frozen_of_row wc (w.heap.size + 1) 2 _ _ hrs; have mf3 := frozen_of_row wc (w.heap.size + 1) 3 _ _ hrs; have mf4 := frozen_of_row wc (w.heap.size + 1) 4 _ _ hrs
          have hdn := hX9.done (Below.refl _ _) hvq
          have HDN := Lib.hid hdn
          clear hdn hX9 hgq hvq hrs hz hd hMn hmk hcv
          go_wp2_with (fail)
          exact bodyPost_ret (resWipe HDN.out.1 _ rfl) rfl ⟨_, by rw [HZ.out]; rfl, by rw [HZ.out]; exact HDN.out.2.1, HDN.out.2.2⟩
        | false =>
          have hcd : cd = 0 := by rw [HC.out.1, hd]; rfl
          have hMn : Mn = Mk.written b zero64 := by rw [HC.out.2.1, hd]; rfl
          have hrn : runOps (zeroOps (L.take (k + 1))) M = (0, Mn) := by
            rw [HC.out.2.2.2, runOps_append, HC.out.2.2.1, if_pos rfl, hMn]
            simp only [runOps]
            rw [if_neg (by simp [hd])]
            rfl
          have HRN := Lib.hid hrn
          subst hcd
          clear hrn hMn hd hmk hcv
          go_wp2_with (fail)
          exact ⟨⟨k + 1, Mn, HX.out.2.1, by simp, rfl, HRN.out, HX9.out⟩, by simp [intOf]; have := HX.out.2.1; omega⟩
    · obtain rfl : k = L.length := by omega
      have hkI : ¬ (L.length : Int) < (L.length : Int) := by omega
      rw [List.take_length] at hrun
      have hz : Rz = (Mk.flushE, Mk.flushM) := by
        rw [HRZ.out]
        unfold wipeOps
        rw [runOps_append, hrun, if_pos rfl]
        unfold runOps DM.flushE DM.flushM
        cases hd : Mk.dead with
        | true => rfl
        | false => rfl
      have hw := hvk.rflush hok hXk
      have y0 := cell_of_row wr (w.heap.size) 0 _ _ _ hg; have y1 := cell_of_row wr (w.heap.size) 1 _ _ _ hg; have y2 := cell_of_row wr (w.heap.size) 2 _ _ _ hg; have y3 := cell_of_row wr (w.heap.size) 3 _ _ _ hg; have y4 := cell_of_row wr (w.heap.size) 4 _ _ _ hg
      have HZ := Lib.hid hz
      have HW := Lib.hid hw
      have HX := Lib.hid (And.intro hbx hbx.res)
      clear hw hz hrun hfa hok hvk hXk hg hbx
      go_wp2_with (first
        | (go_at_call 38; (with_reducible refine HW.out.mono ?_); rintro e w9 ⟨B1, B2, B3, r1, r2, r3, f1, f2, f3, s9, l9, rfl, hR9, hb9⟩; have hdn := HX.out.1.done hb9 hR9; have HDN := Lib.hid hdn; have hrs := (hb9.block _ (heap_lt HX.out.2)).trans HX.out.2; have z0 := cell_of_row w9 (w.heap.size + 1) 0 _ _ _ hrs; have z1 := cell_of_row w9 (w.heap.size + 1) 1 _ _ _ hrs; have z2 := cell_of_row w9 (w.heap.size + 1) 2 _ _ _ hrs; have z3 := cell_of_row w9 (w.heap.size + 1) 3 _ _ _ hrs; have z4 := cell_of_row w9 (w.heap.size + 1) 4 _ _ _ hrs; have zf0 := frozen_of_row w9 (w.heap.size + 1) 0 _ _ hrs; have zf1 := frozen_of_row w9 (w.heap.size + 1) 1 _ _ hrs; have zf2 := frozen_of_row w9 (w.heap.size + 1) 2 _ _ hrs; have zf3 := frozen_of_row w9 (w.heap.size + 1) 3 _ _ hrs; have zf4 := frozen_of_row w9 (w.heap.size + 1) 4 _ _ hrs; clear hdn)
        | fail)
      exact bodyPost_ret (resWipe HDN.out.1 _ rfl) rfl ⟨_, by rw [HZ.out]; rfl, by rw [HZ.out]; exact HDN.out.2.1, HDN.out.2.2⟩
end Go.Proofs.Ytajakmfloeefpaa
