/- readAll. -/
import Derived.Test.YtdjcpjfomgfjlaaLogN
namespace Go.Proofs.Ytdjcpjfomgfjlaa
open Go.RowKit Go.Maps

def sliceLen : Value → Nat | .slice _ n _ => n | _ => 0
theorem LogD.kept {w w' : World} {base q p bs bw T : Nat} {L : LG} {v : Value} {M : DM} (h : LogD w base q p bs bw T L v M) (hb : Below w.heap.size w w') : LogD w' base q p bs bw T L v M :=
  ⟨h.log.kept hb, h.disk.kept hb, h.ap, Nat.le_trans h.low hb.size, h.fits, h.size⟩
theorem of_endd (first behind : Nat) (rs : List Rec) : (LG.of first behind rs).endd = endR first rs := rfl
theorem isHd_some {b : List UInt8} {s n : Nat} (h : hdr b = some (s, n)) : isHd b = true ∧ seqX b = (s : Int) ∧ lenV b = n := by
  obtain ⟨h1, h2, h3, h4⟩ := hdr_some h
  have e1 := seqV_head s n (by omega)
  have e2 := lenV_head s n (by omega)
  rw [← h4] at e1 e2
  refine ⟨by unfold isHd; rw [h]; rfl, ?_, e2⟩
  unfold seqX wrap64
  rw [e1]
  omega
/-- What readAll leaves. -/
def ReadAll (w : World) (base q p bs bw T first behind : Nat) (M : DM) (rs : List Rec) (u : Value) (w' : World) : Prop :=
  ∃ v', RecsAt w' base u rs ∧ LogD w' base q p bs bw T (LG.of first behind rs) v' M ∧ Fr w w' [q]
theorem ReadAll.below {w w' w'' : World} {base q p bs bw T first behind : Nat} {M : DM} {rs : List Rec} {u : Value} (h : ReadAll w base q p bs bw T first behind M rs u w') (hb : Below w'.heap.size w' w'') : ReadAll w base q p bs bw T first behind M rs u w'' := by
  obtain ⟨v', h1, h2, h3⟩ := h
  exact ⟨v', h1.below hb, h2.kept hb, h3.trans (Fr.of_below hb _)⟩

theorem LogAt.frS {w w' : World} {base q p : Nat} {L : LG} {v : Value} {S : List Nat} (h : LogAt w base q p L v) (hf : Fr w w' S) (hq : q ∉ S) (hv : ∀ s ∈ v.ownBlock.toList, s ∉ S) : LogAt w' base q p L v :=
  ⟨(hf.block q h.size hq).trans h.blk, rowFrS h.row hf hv, h.lt, h.ok⟩
theorem LogD.frS {w w' : World} {base q p bs bw T : Nat} {L : LG} {v : Value} {M : DM} {S : List Nat} (h : LogD w base q p bs bw T L v M) (hf : Fr w w' S) (hS : ∀ s ∈ S, base ≤ s) (hv : ∀ s ∈ v.ownBlock.toList, s ∉ S) : LogD w' base q p bs bw T L v M := by
  have hn : ∀ z, z < base → z ∉ S := fun z hz hm => by have := hS z hm; omega
  exact ⟨h.log.frS hf (hn q h.log.lt) hv, h.disk.fr hf (hn p h.ap.lp) (hn bs h.ap.ls) (hn bw h.ap.lw), h.ap, Nat.le_trans h.low hf.size, h.fits, h.size⟩
theorem LogD.added {w w' : World} {base q p bs bw T : Nat} {L L' : LG} {v v' : Value} {M : DM} (h : LogD w base q p bs bw T L v M) (hl : LogAt w' base q p L' v') (hf : Fr w w' (q :: v.ownBlock.toList)) (hL : L'.behind = L.behind) : LogD w' base q p bs bw T L' v' M := by
  have hn : ∀ z, z < base → z ≠ q → z ∉ q :: v.ownBlock.toList := fun z hz hzq hm => by
    rcases List.mem_cons.1 hm with e | e
    · exact hzq e
    · have := own_ge h.log.row z e; omega
  exact ⟨hl, h.disk.fr hf (hn p h.ap.lp h.ap.qp.symm) (hn bs h.ap.ls h.ap.qs.symm) (hn bw h.ap.lw h.ap.qw.symm), h.ap, Nat.le_trans h.low hf.size, by rw [hL]; exact h.fits, h.size⟩
theorem recC_snoc (R : List RecR) (r : RecR) : recC R ++ r.cells = recC (R ++ [r]) := by simp [recC]
/-- A record more in memory. -/
theorem ReadAll.more {w w5 w6 w7 : World} {base q p bs bw T first behind s cu c5 cu6 : Nat} {M : DM} {rs : List Rec} {Au A5 Au6 : Option Addr} {d : List UInt8} {R : List RecR} {N : Nat} {v v7 : Value} {o : Obj}
    (hN : R.length = N) (hbw : base = w.heap.size) (hR1 : R.map (fun r => (r.s, r.d)) = rs) (hR3 : ∀ r ∈ R, DataAt w5 r.A r.d) (hl : LogD w5 base q p bs bw T (LG.of first behind rs) v M) (hfr : Fr w w5 [q])
    (hu : w5.ownsRow base 110 2 (.slice Au N cu) N (recC R)) (hd : DataAt w5 A5 d)
    (hown : w6.ownsRow base 110 2 (.slice Au6 (N + 1) cu6) (N + 1) (recC R ++ [.int .i64 (s : Int), .slice A5 d.length c5])) (hg : (w5.alloc o).grownBy w6 (Value.slice Au N cu).ownBlock)
    (hl7 : LogAt w6 base q p (LG.of first behind rs) v → LogAt w7 base q p ((LG.of first behind rs).add s d) v7) (hf7 : Fr w6 w7 (q :: v.ownBlock.toList)) :
    ReadAll w base q p bs bw T first behind M (rs ++ [(s, d)]) (.slice Au6 (N + 1) cu6) w7 := by
  subst hN
  have hf56 : Fr w5 w6 (Value.slice Au R.length cu).ownBlock.toList := ((Fr.refl _ _).alloc o).trans (fr_grown hg)
  have hnb := noBytes_own hu (by decide)
  have hap := own_apart hl.log.row hu (by decide)
  have hl6 := hl.frS hf56 (own_ge hu) hap
  have hnb6 : ∀ z ∈ q :: v.ownBlock.toList, NoBytes w6 z := fun z hz => by
    rcases List.mem_cons.1 hz with e | e
    · rw [e]; exact noBytes_log hl6.log
    · exact noBytes_own hl6.log.row (by decide) z e
  have hap6 : ∀ z ∈ (Value.slice Au6 (R.length + 1) cu6).ownBlock.toList, z ∉ q :: v.ownBlock.toList := fun z hz hm => by
    rcases List.mem_cons.1 hm with e | e
    · have h1 := own_ge hown z hz; have h2 := hl6.log.lt; omega
    · exact own_apart hown hl6.log.row (by decide) z hz e
  have hrec6 : RecsAt w6 base (.slice Au6 (R.length + 1) cu6) (rs ++ [(s, d)]) := by
    refine ⟨R ++ [⟨s, A5, d, c5⟩], by simp [hR1], ?_, fun r hr => ?_⟩
    · rw [← recC_snoc, List.length_append]
      exact hown
    · rcases List.mem_append.1 hr with h | h
      · exact (hR3 r h).fr hf56 hnb
      · simp at h
        rw [h]
        exact hd.fr hf56 hnb
  have hl7' := hl7 hl6.log
  refine ⟨v7, hrec6.fr hf7 hnb6 hap6, ?_, ?_⟩
  · rw [← of_add]
    exact hl6.added hl7' hf7 rfl
  · refine (hfr.more hf56 (fun z hz => .inr (by rw [← hbw]; exact own_ge hu z hz))).more hf7 (fun z hz => ?_)
    rcases List.mem_cons.1 hz with e | e
    · exact .inl (by simp [e])
    · exact .inr (by rw [← hbw]; exact own_ge hl6.log.row z e)

set_option maxRecDepth 100000 in
set_option maxHeartbeats 4000000 in
theorem readAll_any {w : World} {base q p bs bw T first behind : Nat} {M : DM} (h : LogD w base q p bs bw T (LG.of first behind []) (.slice none 0 0) M) (hb0 : base = w.heap.size) :
    Calls Try.prog 39 #[.pointer (some ⟨q, 0, none⟩)] w fun e w' => ∃ u, e = .returned u ∧ ReadAll w base q p bs bw T first behind M (scan M.get behind first none) u w' := by
  obtain ⟨i0, hi, hz0, hz1, hz2⟩ := info_parts infoRec
  obtain ⟨S, hS⟩ : ∃ S, S = scan M.get behind first none := ⟨_, rfl⟩
  rw [← hS]
  have hfb : first ≤ behind := Nat.le_of_lt h.log.ok.first
  have HH := Lib.hid (And.intro h (And.intro hb0 (And.intro hS hfb)))
  have h0 : ReadAll w base q p bs bw T first behind M [] (.slice none 0 0) w := ⟨_, ⟨[], rfl, World.ownsRow_nil w base 110 2, by simp⟩, h, Fr.refl _ _⟩
  have H0 := Lib.hid h0
  clear h hb0 hS hfb h0
  go_enter Try.func39, Try.ntmps39
  go_upto_region 2 with go_in
  go_loopw [3, 4, 5, 6] (fun u _ _ _ wr => ∃ rs : List Rec, rs ++ scan M.get behind (endR first rs) (nextR none rs) = S ∧ sliceLen u = rs.length ∧ ReadAll w base q p bs bw T first behind M rs u wr)
    (fun u _ _ _ _ => S.length + 1 - sliceLen u)
  case atStart => exact ⟨[], HH.out.2.2.1.symm, rfl, H0.out⟩
  case round =>
    obtain ⟨rs, hsc, hul, hra⟩ := hrel
    have hra2 := hra
    obtain ⟨v', hrec, hld, hfr⟩ := hra
    have hblk := hld.log.blk
    unfold LG.cells at hblk
    rw [of_endd] at hblk
    have c2 := cell_of_row wr q 2 _ _ _ hblk
    have c3 := cell_of_row wr q 3 _ _ _ hblk
    have c4 := cell_of_row wr q 4 _ _ _ hblk
    have hend : endR first rs ≤ behind := hld.log.ok.endd
    have hbe : behind ≤ 4096 := hld.log.ok.behind
    obtain ⟨E, hE⟩ : ∃ E, E = endR first rs := ⟨_, rfl⟩
    rw [← hE] at hsc c3 hend
    have hEq : (LG.of first behind rs).endd = E := hE.symm
    have HX := Lib.hid (And.intro hra2 (And.intro hrec (And.intro hld (And.intro hfr (And.intro hsc (And.intro hul hEq))))))
    obtain ⟨R, hR1, hR2, hR3⟩ := hrec.ex
    obtain ⟨Au, cu, rfl, _, _, _⟩ := own_shape hR2
    have hRl : R.length = rs.length := by rw [← hR1]; simp
    rw [hRl] at HX ⊢
    clear hra2 hrec hld hfr hsc hul hblk hEq hE hR1 hR2 hR3
    have hbI : (behind : Int) ≤ 4096 := by omega
    by_cases hlt : E < behind
    · have hltI : (E : Int) < (behind : Int) := by omega
      have hEs : E < M.size := by have := HX.out.2.2.1.fits; have h2 : behind ≤ M.size := this; omega
      go_upto_region 2 with go_in
      go_quiet (fail)
      have hb1 : Below wr.heap.size wr (wr.drewN nq) := Below.drewN' (Below.refl _ _) _
      have hld1 := HX.out.2.2.1.kept hb1
      have d3 : (wr.drewN nq).cell? ⟨q, 3, none⟩ = some (.int .i64 (E : Int)) := c3
      have hsec := sector_any hld1.log hld1.disk hld1.size hEs
      obtain ⟨b, hb⟩ : ∃ b, b = M.get E := ⟨_, rfl⟩
      rw [← hb] at hsec
      have HB := Lib.hid hb
      have HSEC := Lib.hid hsec
      have HB1 := Lib.hid hb1
      clear hsec hld1 hb hb1 hEs c2 c3 c4
      generalize wr.drewN nq = W1 at d3 HSEC HB1 ⊢
      have hYN : hdr b = none ∨ ∃ s n, hdr b = some (s, n) := by
        cases hdr b with
        | none => exact .inl rfl
        | some x => obtain ⟨s, n⟩ := x; exact .inr ⟨s, n, rfl⟩
      have HYN := Lib.hid hYN
      clear hYN
      go_upto_region 4 with (first
        | (go_at_call 69; (with_reducible refine HSEC.out.mono ?_); rintro e w2 ⟨g2, rfl, hg1, hg2, hr2, hl2, hb2⟩)
        | (go_at_call 68; (with_reducible refine (readHead_any g2 b _ w2 hr2 hl2 (Nat.le_refl _)).mono ?_); rintro e w3 ⟨rfl, hb3⟩)
        | go_in)
      have hC3 : Below wr.heap.size wr w3 := HB1.out.trans (lower' (hb2.trans (lower' hb3 hb2.size)) HB1.out.size)
      have hld3 := HX.out.2.2.1.kept hC3
      have hblk := hld3.log.blk
      unfold LG.cells at hblk
      rw [HX.out.2.2.2.2.2.2] at hblk
      have c2 : w3.cell? ⟨q, 2, none⟩ = some (.int .i64 (behind : Int)) := cell_of_row w3 q 2 _ _ _ hblk
      have c3 : w3.cell? ⟨q, 3, none⟩ = some (.int .i64 (E : Int)) := cell_of_row w3 q 3 _ _ _ hblk
      have c4 : w3.cell? ⟨q, 4, none⟩ = some (.int .i64 ((LG.of first behind rs).next : Int)) := cell_of_row w3 q 4 _ _ _ hblk
      have HC3 := Lib.hid (And.intro hC3 hld3)
      have hbreak : scan M.get behind E (nextR none rs) = [] → ∀ wf, Below w3.heap.size w3 wf → ∃ u', Ending.returned (.slice Au rs.length cu) = .returned u' ∧ ReadAll w base q p bs bw T first behind M S u' wf := fun hn wf hwf => by
        have hx := HX.out
        have hsc := hx.2.2.2.2.1
        rw [hn, List.append_nil] at hsc
        rw [← hsc]
        exact ⟨_, rfl, hx.1.below (hC3.trans (lower' hwf hC3.size))⟩
      have HBR := Lib.hid hbreak
      clear hb2 hb3 hr2 hg1 hg2 hl2 hC3 hld3 hblk hbreak d3
      rcases HYN.out with hn | ⟨s, n, hn⟩
      · have hno : isHd b = false := by unfold isHd; rw [hn]; rfl
        rw [hno]
        have hend0 := HBR.out (scan_none (fun _ => by rw [← HB.out]; exact hn))
        have HE := Lib.hid hend0
        clear hno hn hend0
        go_upto_region 4 with go_in
        go_quiet (fail)
        go_wp2_with go_in
        go_ret
        exact HE.out _ (Below.drewN' (Below.refl _ _) _)
      · obtain ⟨q1, q2, q3⟩ := isHd_some hn
        rw [q1, q2, q3]
        have HHD := Lib.hid (And.intro hn (hdr_some hn))
        have hsI : (s : Int) ≤ 4611686018427387904 := by have := (hdr_some hn).2.1; omega
        have hnI : (n : Int) ≤ 4000 := by have := (hdr_some hn).2.2.1; omega
        have hs1 : 1 ≤ (s : Int) := by have := (hdr_some hn).1; omega
        clear q1 q2 q3 hn
        have hsn : (secs n : Int) ≤ 63 := by unfold secs; omega
        have hEI : (E : Int) ≤ 4096 := by omega
        have sm : IntKind.i64.wrap ((E : Int) + (secs n : Int)) = (E : Int) + (secs n : Int) := IntWalk.i64_in _ (by omega)
        have HSC := Lib.hid (fun W => (secs_any n W (by omega)).mono (fun _ _ h => And.intro h.1 h.2.symm))
        by_cases hA : nextR none rs = none ∨ nextR none rs = some s
        · have hcase : decide (0 < rs.length) = false ∨ (decide (0 < rs.length) = true ∧ ((s : Int) == ((LG.of first behind rs).next : Int)) = true ∧ ((s : Int) != ((LG.of first behind rs).next : Int)) = false) := by
            by_cases hne : rs = []
            · left; rw [hne]; simp
            · right
              refine ⟨decide_eq_true (List.length_pos_iff.2 hne), ?_⟩
              have h1 := nextR_some hne
              rcases hA with h2 | h2
              · rw [h1] at h2; cases h2
              · rw [h1] at h2
                injection h2 with h2
                have h3 : ((s : Int) == ((LG.of first behind rs).next : Int)) = true := beq_iff_eq.2 (congrArg Nat.cast h2.symm)
                exact ⟨h3, by simp only [bne, h3]; rfl⟩
          have HA := Lib.hid hA
          clear hA
          by_cases hfit : E + secs n < behind
          · have hfI : ¬ (behind : Int) ≤ (E : Int) + (secs n : Int) := by omega
            have HFT := Lib.hid hfit
            clear hfit
            rcases hcase with hl0 | ⟨hl0, hns, hns2⟩
            all_goals
              go_upto_region 4 with go_in
              go_quiet ((go_at_call 70; exact Calls.quiet_of_same (HSC.out _)))
              clear sm
              have hb4 : Below w3.heap.size w3 (w3.drewN nq) := Below.drewN' (Below.refl _ _) _
              have hB4 : Below wr.heap.size wr (w3.drewN nq) := HC3.out.1.trans (lower' hb4 HC3.out.1.size)
              have hld4 := HC3.out.2.kept hb4
              have hEM : E + secs n < M.size := by have := hld4.fits; have h2 : behind ≤ M.size := this; have := HFT.out; omega
              have hdat := data_any hld4.log hld4.disk hld4.size n (by omega) (by rw [HX.out.2.2.2.2.2.2]; exact hEM)
              rw [HX.out.2.2.2.2.2.2] at hdat
              obtain ⟨d, hd⟩ : ∃ d, d = (cat M.get (E + 1) (secs n)).take n := ⟨_, rfl⟩
              have hdn : d.length = n := by rw [hd]; exact cat_take_len M (E + 1) n (fun i hi => (hld4.disk.full _ (by omega)).2)
              rw [← hd] at hdat
              have HDT := Lib.hid hdat
              have HD := Lib.hid (And.intro hd (And.intro hdn (And.intro hB4 hld4)))
              clear hdat hd hdn hB4 hld4 hb4 c2 c3 c4 hEM
              generalize w3.drewN nq = W4 at HDT HD ⊢
              obtain ⟨R, hR1, hR2, hR3⟩ := HX.out.2.1.ex
              have hRl : R.length = rs.length := by rw [← hR1]; simp
              have hrs4 : rs.length ≤ 4096 := by have := endR_le first rs; have h2 : (LG.of first behind rs).endd = E := HX.out.2.2.2.2.2.2; rw [of_endd] at h2; omega
              have HRR := Lib.hid (And.intro hR1 (And.intro hR2 (And.intro hR3 (And.intro hRl hrs4))))
              clear hR1 hR2 hR3 hRl hrs4
              have hfit2 : (LG.of first behind rs).endd + 1 + secs d.length ≤ behind := by rw [HX.out.2.2.2.2.2.2, HD.out.2.1]; have := HFT.out; omega
              have HF2 := Lib.hid hfit2
              have HDN := Lib.hid HD.out.2.1
              rw [← HDN.out] at hnI ⊢
              clear hfit2
              go_upto_region 6 with (first
                | (go_at_call 71; (refine (HDN.out ▸ HDT.out).mono ?_); rintro e w5 ⟨A5, c5, rfl, hb5a, hr5, hl5, hm5, hb5⟩; have hB5 : Below wr.heap.size wr w5 := HD.out.2.2.1.trans (lower' hb5 HD.out.2.2.1.size); have hu5 : w5.ownsRow base 110 2 (.slice Au rs.length cu) rs.length (recC R) := by { have h := own_below HRR.out.2.1 hB5 (Nat.le_refl _); rw [HRR.out.2.2.2.1] at h; exact h })
                | (at_builtin; refine wpList_appR _ rfl (.tmp 56) (.tmp 62) _ rfl base 110 i0 _ 2 32 Try.underlying37 hi hz0 hz1 hz2 rfl (by omega) (.slice Au rs.length cu) rs.length (recC R) rfl (World.ownsRow.alloc hu5 _) (w5.heap.size + 1) (some ⟨w5.heap.size, 0, none⟩) 1 1 [.int .i64 (s : Int), .slice A5 d.length c5] rfl rfl (Rd.new w5 #[.int .i64 (s : Int), .slice A5 d.length c5] 110 (0, 0)) (by simp [Value.oneCell']) (by have := HRR.out.2.2.2.2; omega) (by omega) (by have h1 := HX.out.2.2.1.low; have h2 := hB5.size; simp; omega) ?_; intro u6 w6 hown6 hg6 hat6)
                | go_in)
              obtain ⟨g6, c6, rfl, _, _, _, _⟩ := own_form hown6 (by omega)
              have hld5 := HD.out.2.2.2.kept hb5
              have hf56 : Fr w5 w6 (Value.slice Au rs.length cu).ownBlock.toList := ((Fr.refl _ _).alloc _).trans (fr_grown hg6)
              have hl6 := hld5.frS hf56 (own_ge hu5) (own_apart hld5.log.row hu5 (by decide))
              have hadd := add_any hl6.log hl6.low s d HHD.out.2.1 HHD.out.2.2.1 (by have := HHD.out.2.2.2.1; rw [HDN.out]; exact this) HF2.out
              have hdt : DataAt w5 A5 d := ⟨hr5, fun a ha => by obtain ⟨cs, hcs⟩ := (hb5a a ha).2; exact ⟨cs, _, hcs⟩⟩
              have hR5 : ∀ r ∈ R, DataAt w5 r.A r.d := fun r hr => (HRR.out.2.2.1 r hr).fr (Fr.of_below hB5 []) (by simp)
              have hfr5 : Fr w w5 [q] := HX.out.2.2.2.1.trans (Fr.of_below hB5 _)
              have HAD := Lib.hid hadd
              have HM := Lib.hid (And.intro hld5 (And.intro hdt (And.intro hR5 (And.intro hfr5 (And.intro hu5 (And.intro hown6 hg6))))))
              clear hld5 hf56 hl6 hadd hdt hR5 hfr5 hb5a hr5 hl5 hm5 hb5 hB5 hu5 hown6 hg6 hat6
              go_wp2_with (first
                | (go_at_call 46; (with_reducible refine HAD.out.mono ?_); rintro e w7 ⟨rfl, v7, hl7, hf7, hb7⟩; have H7 := Lib.hid (And.intro hl7 hf7); clear hl7 hf7 hb7)
                | go_in)
              have hm := HM.out
              have hx := HX.out
              refine ⟨⟨rs ++ [(s, d)], ?_, by simp [sliceLen], ?_⟩, ?_⟩
              · have hsc := hx.2.2.2.2.1
                rw [scan_some (by rw [← HB.out]; exact HHD.out.1) HA.out (by have := HFT.out; exact this), ← HD.out.1] at hsc
                rw [endR_append, nextR_append, List.append_assoc]
                have hE2 : endR first rs = E := hx.2.2.2.2.2.2
                show rs ++ ([(s, d)] ++ scan M.get behind (endR first rs + 1 + secs d.length) (some (s + 1))) = S
                rw [hE2, HDN.out]
                exact hsc
              · exact ReadAll.more (HRR.out.2.2.2.1) HH.out.2.1 HRR.out.1 hm.2.2.1 hm.1 hm.2.2.2.1 hm.2.2.2.2.1 hm.2.1 hm.2.2.2.2.2.1 hm.2.2.2.2.2.2 (fun _ => H7.out.1) H7.out.2
              · have hsc := hx.2.2.2.2.1
                have := congrArg List.length hsc
                rw [List.length_append] at this
                simp only [sliceLen]
                omega
          · have hfI : (behind : Int) ≤ (E : Int) + (secs n : Int) := by omega
            have hend0 := HBR.out (scan_bad (by rw [← HB.out]; exact HHD.out.1) (fun h => hfit h.2))
            have HE := Lib.hid hend0
            clear hend0 hfit
            rcases hcase with hl0 | ⟨hl0, hns, hns2⟩
            all_goals
              go_upto_region 4 with go_in
              go_quiet ((go_at_call 70; exact Calls.quiet_of_same (HSC.out _)))
              go_wp2_with go_in
              go_ret
              exact HE.out _ (Below.drewN' (Below.refl _ _) _)
        · have hne : rs ≠ [] := by rintro rfl; exact hA (.inl rfl)
          have hend0 := HBR.out (scan_bad (by rw [← HB.out]; exact HHD.out.1) (fun h => hA h.1))
          have HE := Lib.hid hend0
          have hlI : decide (0 < rs.length) = true := decide_eq_true (List.length_pos_iff.2 hne)
          have hns : ((s : Int) == ((LG.of first behind rs).next : Int)) = false := beq_eq_false_iff_ne.2 (fun e => hA (.inr (by have := nextR_some hne; rw [this]; congr 1; exact (Int.ofNat.inj e).symm)))
          have hns2 : ((s : Int) != ((LG.of first behind rs).next : Int)) = true := by simp only [bne, hns]; rfl
          clear hend0 hA hne
          go_upto_region 4 with go_in
          go_quiet (fail)
          go_wp2_with go_in
          go_ret
          exact HE.out _ (Below.drewN' (Below.refl _ _) _)
    · have hltI : ¬ (E : Int) < (behind : Int) := by omega
      have hnil : scan M.get behind E (nextR none rs) = [] := scan_none (fun h => absurd h hlt)
      have HE := Lib.hid hnil
      clear hnil
      go_upto_region 2 with go_in
      go_quiet (fail)
      go_wp2_with go_in
      go_ret
      have hx := HX.out
      have hsc := hx.2.2.2.2.1
      rw [HE.out, List.append_nil] at hsc
      rw [← hsc]
      exact ⟨_, rfl, hx.1.below (Below.drewN' (Below.refl _ _) _)⟩
end Go.Proofs.Ytdjcpjfomgfjlaa
