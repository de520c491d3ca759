/- Open. -/
import Derived.Test.YtdjcpjfomgfjlaaLogO
namespace Go.Proofs.Ytdjcpjfomgfjlaa
open Go.RowKit Go.Maps

/-- Are there such sectors? -/
def openBad (size : Nat) (first count : Int) : Prop := count < 2 ∨ first < 0 ∨ (size : Int) - count < first
/-- What an Open does to the disk. -/
def openOps (M : DM) (first behind : Nat) : List DOp :=
  if (LG.of first behind (scan M.get behind first none)).dirty M = [] then [] else wipeOps ((LG.of first behind (scan M.get behind first none)).dirty M)
set_option maxRecDepth 100000 in
theorem open_bad {w : World} {p bs bw T : Nat} {M : DM} (hD : DiskM w p bs bw M T) (first count : Int) (hc : -9223372036854775808 ≤ count ∧ count ≤ 9223372036854775807) (hz : M.size ≤ 4096) (h : openBad M.size first count) :
    Calls Try.prog 9 #[.pointer (some ⟨p, 0, none⟩), .int .i64 first, .int .i64 count] w fun e w' => e = .returned (.tuple #[.pointer none, .slice none 0 0, .int .i64 1]) ∧ w = w' := by
  have hsz := sizeM hD
  have HS := Lib.hid hsz
  have HC := Lib.hid hc
  have hzI : (M.size : Int) ≤ 4096 := by omega
  clear hsz hD hc
  by_cases h1 : count < 2
  · clear h
    go_enter Try.func9, Try.ntmps9
    go_wp2_with go_in
    go_ret3
    exact ⟨rfl, rfl⟩
  · by_cases h2 : first < 0
    · clear h
      go_enter Try.func9, Try.ntmps9
      go_wp2_with go_in
      go_ret3
      exact ⟨rfl, rfl⟩
    · have h3 : (M.size : Int) - count < first := by unfold openBad at h; omega
      have h4 : count ≤ 9223372036854775807 := HC.out.2
      have h1' : 2 ≤ count := by omega
      clear h
      go_enter Try.func9, Try.ntmps9
      go_wp2_with (first
        | (go_at_call 38; (with_reducible refine HS.out.mono ?_); rintro e w2 ⟨rfl, rfl⟩)
        | go_in)
      go_ret3
      exact ⟨rfl, rfl⟩
theorem LogD.mono {w : World} {base q p bs bw T T' : Nat} {L : LG} {v : Value} {M : DM} (h : LogD w base q p bs bw T L v M) (hT : T ≤ T') : LogD w base q p bs bw T' L v M := ⟨h.log, h.disk.mono hT, h.ap, h.low, h.fits, h.size⟩
theorem noBytes_disk {w : World} {p bs bw T : Nat} {M : DM} (h : DiskM w p bs bw M T) : ∀ z ∈ [p, bs, bw], NoBytes w z := by
  obtain ⟨D, ⟨h1, _, ns, nw, ⟨es, cl, h2, _⟩, ⟨es2, cl2, h3, _⟩, _⟩, _⟩ := h
  intro z hz cs fr hg
  simp at hz
  rcases hz with rfl | rfl | rfl
  · rw [h1] at hg; cases hg
  · rw [h2] at hg; cases hg
  · rw [h3] at hg; cases hg
theorem RecsAt.disk {w w' : World} {lo p bs bw T : Nat} {u : Value} {rs : List Rec} {M : DM} (h : RecsAt w lo u rs) (hd : DiskM w p bs bw M T) (hf : Fr w w' [p, bs, bw]) (hl : p < lo ∧ bs < lo ∧ bw < lo) : RecsAt w' lo u rs := by
  refine h.fr hf (noBytes_disk hd) (fun z hz hm => ?_)
  obtain ⟨R, _, h2, _⟩ := h.ex
  have := own_ge h2 z hz
  simp at hm
  omega
/-- What an Open leaves: the log, and its records. -/
def Opened (w w' : World) (p bs bw T : Nat) (M' : DM) (first behind : Nat) (rs : List Rec) (e : Ending) : Prop :=
  ∃ q u v, e = .returned (.tuple #[.pointer (some ⟨q, 0, none⟩), u, .int .i64 0]) ∧ w.heap.size ≤ q ∧ RecsAt w' (q + 1) u rs ∧ LogD w' (q + 1) q p bs bw T (LG.of first behind rs) v M'
set_option maxRecDepth 100000 in
set_option maxHeartbeats 4000000 in
theorem open_any {w : World} {p bs bw T : Nat} {M : DM} (hD : DiskM w p bs bw M T) (first count : Nat) (hc : 2 ≤ count) (hfit : first + count ≤ M.size) (hft : Fit M T 4097) :
    Calls Try.prog 9 #[.pointer (some ⟨p, 0, none⟩), .int .i64 (first : Int), .int .i64 (count : Int)] w fun e w' =>
      ((runOps (openOps M first (first + count)) M).1 = 0 → Opened w w' p bs bw (T + 4097) (runOps (openOps M first (first + count)) M).2 first (first + count) (scan M.get (first + count) first none) e) ∧
      ((runOps (openOps M first (first + count)) M).1 = 30 → e = .returned (.tuple #[.pointer none, .slice none 0 0, .int .i64 30]) ∧ DiskM w' p bs bw (runOps (openOps M first (first + count)) M).2 (T + 4097)) ∧ Fr w w' [p, bs, bw] := by
  have hsz := sizeM hD
  have HS := Lib.hid hsz
  have hlt := hD.lt
  obtain ⟨rs, hrs⟩ : ∃ rs, rs = scan M.get (first + count) first none := ⟨_, rfl⟩
  have hnew : LogD (w.alloc (.cells #[.pointer (some ⟨p, 0, none⟩), .int .i64 (first : Int), .int .i64 ((first : Int) + (count : Int)), .int .i64 (first : Int), .int .i64 1, .slice none 0 0] 86)) (w.heap.size + 1) w.heap.size p bs bw T (LG.of first (first + count) []) (.slice none 0 0) M :=
    ⟨⟨by unfold LG.cells LG.of; show _ = some (Obj.cells #[.pointer (some ⟨p, 0, none⟩), .int .i64 (first : Int), .int .i64 (((first + count : Nat)) : Int), .int .i64 (first : Int), .int .i64 1, .slice none 0 0] 86 (0, 0)); rw [show (((first + count : Nat)) : Int) = (first : Int) + (count : Int) by omega]; exact heap_alloc_new w _, World.ownsRow_nil _ _ 134 2, Nat.lt_succ_self _, ⟨by show first < first + count; omega, by show first + count ≤ 4096; have := hft.size; omega, by show first ≤ first + count; omega, Nat.le_refl _, by show 1 ≤ _; omega⟩⟩, hD.alloc _, ⟨by omega, by omega, by omega, by omega, by omega, by omega⟩, by simp, hfit, hft.size⟩
  have hra := readAll_any hnew (alloc1_size _ _).symm
  rw [← hrs] at hra
  have HN := Lib.hid (And.intro hnew (And.intro hD (And.intro hlt (And.intro hc (And.intro hfit (And.intro hft hrs))))))
  have HRA := Lib.hid hra
  have hcI : 2 ≤ (count : Int) := by omega
  have hfI : (first : Int) ≤ (M.size : Int) - (count : Int) := by omega
  have hzI : (M.size : Int) ≤ 4096 := by have := hft.size; omega
  have hsum : (first : Int) + (count : Int) ≤ 4096 := by have := hft.size; omega
  clear hsz hlt hnew hra hD hc hfit hft hrs
  go_enter Try.func9, Try.ntmps9
  go_upto_region 4 with (first
    | (go_at_call 38; (with_reducible refine HS.out.mono ?_); rintro e w2 ⟨rfl, rfl⟩)
    | go_in)
  have hb1 : Below w.heap.size w (w.alloc (.cells #[.pointer (some ⟨p, 0, none⟩), .int .i64 (first : Int), .int .i64 ((first : Int) + (count : Int)), .int .i64 (first : Int), .int .i64 1, .slice none 0 0] 86)) := (Below.refl _ _).alloc (Nat.le_refl _) _
  obtain ⟨q, hq⟩ : ∃ q, q = w.heap.size := ⟨_, rfl⟩
  rw [← hq] at HN HRA ⊢
  generalize w.alloc (.cells #[.pointer (some ⟨p, 0, none⟩), .int .i64 (first : Int), .int .i64 ((first : Int) + (count : Int)), .int .i64 (first : Int), .int .i64 1, .slice none 0 0] 86) = W1 at HN HRA hb1 ⊢
  have HQ := Lib.hid (And.intro hq hb1)
  clear hq hb1
  go_upto_region 5 with (first
    | (go_at_call 39; (with_reducible refine HRA.out.mono ?_); rintro e w2 ⟨u, rfl, hra⟩)
    | go_in)
  obtain ⟨v', hrec, hld, hfr⟩ := hra
  have hdy := dirty_any hld.log hld.disk hld.size hld.fits
  obtain ⟨D, hD⟩ : ∃ D, D = (LG.of first (first + count) rs).dirty M := ⟨_, rfl⟩
  rw [← hD] at hdy
  have hDl : D.length ≤ 4096 := by
    rw [hD]
    unfold LG.dirty
    have h1 := dirtyL_len M.get (LG.of first (first + count) rs).endd ((LG.of first (first + count) rs).behind - (LG.of first (first + count) rs).endd)
    have h2 := hld.fits
    have h3 := hld.size
    omega
  have hDs : ∀ i ∈ D, i < M.size := fun i hi => by
    rw [hD] at hi
    have h1 := dirtyL_mem hi
    have h2 := hld.fits
    have h3 := hld.log.ok.endd
    omega
  have hfr1 : Fr w w2 [p, bs, bw] := (Fr.of_below HQ.out.2 _).more hfr (by intro z hz; simp at hz; right; have := HQ.out.1; omega)
  have HDY := Lib.hid hdy
  have H2 := Lib.hid (And.intro hrec (And.intro hld (And.intro hfr1 (And.intro hD (And.intro hDl hDs)))))
  have hfacts := runOps_facts (wipeOps D) M
  have HFA := Lib.hid hfacts
  clear hrec hld hfr hdy hDs hfr1 hfacts
  go_upto_region 6 with (first
    | (go_at_call 40; (with_reducible refine HDY.out.mono ?_); rintro e w3 ⟨dv, rfl, hrow3, hb3⟩)
    | go_in)
  by_cases h0 : D = []
  · have e0 : runOps (openOps M first (first + count)) M = (0, M) := by unfold openOps; rw [← HN.out.2.2.2.2.2.2, ← H2.out.2.2.2.1, if_pos h0]; rfl
    have HE := Lib.hid e0
    have hl0 : decide (0 < D.length) = false := by rw [h0]; rfl
    have hl1 : ¬ (0 : Int) < (D.length : Int) := by rw [h0]; simp
    have HB3 := Lib.hid hb3
    obtain ⟨A3, c3, rfl, _, _, _⟩ := own_shape hrow3
    clear e0 hrow3 hb3 h0 hDl hD
    go_wp2_with go_in
    go_ret3
    rw [HE.out, ← HN.out.2.2.2.2.2.2]
    have h2 := H2.out
    exact ⟨fun _ => ⟨q, u, v', rfl, by have := HQ.out.1; omega, h2.1.below HB3.out, (h2.2.1.kept HB3.out).mono (Nat.le_add_right _ _)⟩, fun h => (by cases h), h2.2.2.1.trans (Fr.of_below HB3.out _)⟩
  · have e0 : openOps M first (first + count) = wipeOps D := by unfold openOps; rw [← HN.out.2.2.2.2.2.2, ← H2.out.2.2.2.1, if_neg h0]
    have hlp : 0 < D.length := List.length_pos_iff.2 h0
    have hl0 : decide (0 < D.length) = true := decide_eq_true hlp
    have hl1 : (0 : Int) < (D.length : Int) := by omega
    obtain ⟨g3, c3, rfl, hg3, _, _, _⟩ := own_form hrow3 hlp
    have h2 := H2.out
    have hlog3 := h2.2.1.kept hb3
    have hlt3 := h2.2.1.disk.lt
    have hwp := wipe_any hlog3.log hlog3.disk (some ⟨g3, 0, none⟩) D c3 w3.heap.size (Rd.ofOwn hrow3) (fun a ha => by cases ha; show g3 ≠ p ∧ g3 ≠ bs ∧ g3 ≠ bw; omega) ⟨hlog3.ap.qp, hlog3.ap.qs, hlog3.ap.qw⟩ h2.2.2.2.2.2 hDl (HN.out.2.2.2.2.2.1.less (by omega))
    have HB3 := Lib.hid hb3
    have hopl : T + (wipeOps D).length ≤ T + 4097 := by simp [wipeOps, zeroOps]; omega
    have HE := Lib.hid (And.intro e0 hopl)
    have hlogF : ∀ w4 : World, Fr w3 w4 [p, bs, bw] → DiskM w4 p bs bw (runOps (wipeOps D) M).2 (T + (wipeOps D).length) → LogD w4 (q + 1) q p bs bw (T + 4097) (LG.of first (first + count) rs) v' (runOps (wipeOps D) M).2 := fun w4 hf hd =>
      ⟨hlog3.ap.fr hlog3.log hf, hd.mono hopl, hlog3.ap, Nat.le_trans hlog3.low hf.size, by rw [HFA.out.1]; exact hlog3.fits, by rw [HFA.out.1]; exact hlog3.size⟩
    have HD3 := Lib.hid (And.intro hlog3.disk hlog3.ap)
    have HLF := Lib.hid hlogF
    unfold Ran at hwp
    rcases HFA.out.2.2.2 with hcode | hcode
    · rw [hcode] at hwp
      have HW := Lib.hid hwp
      have HC := Lib.hid hcode
      clear e0 hlp h0 hDl hD hrow3 hb3 hg3 hwp hopl hlogF hcode hlog3 hlt3 h2
      go_wp2_with (first
        | (go_at_call 41; (with_reducible refine HW.out.mono ?_); rintro e w4 ⟨rfl, hD4, hF4⟩; have H4 := Lib.hid (And.intro hD4 hF4); clear hD4 hF4)
        | go_in)
      go_ret3
      rw [HE.out.1, HC.out, ← HN.out.2.2.2.2.2.2]
      have h2 := H2.out
      refine ⟨fun _ => ⟨q, u, v', rfl, by have := HQ.out.1; omega, ?_, HLF.out w4 H4.out.2 H4.out.1⟩, fun h => (by cases h), (h2.2.2.1.trans (Fr.of_below HB3.out _)).trans H4.out.2⟩
      exact (h2.1.below HB3.out).disk HD3.out.1 H4.out.2 ⟨HD3.out.2.lp, HD3.out.2.ls, HD3.out.2.lw⟩
    · rw [hcode] at hwp
      have HW := Lib.hid hwp
      have HC := Lib.hid hcode
      clear e0 hlp h0 hDl hD hrow3 hb3 hg3 hwp hlogF hcode hlog3 hlt3 h2
      go_wp2_with (first
        | (go_at_call 41; (with_reducible refine HW.out.mono ?_); rintro e w4 ⟨rfl, hD4, hF4⟩; have H4 := Lib.hid (And.intro hD4 hF4); clear hD4 hF4)
        | go_in)
      go_ret3
      rw [HE.out.1, HC.out]
      exact ⟨fun h => (by cases h), fun _ => ⟨rfl, H4.out.1.mono HE.out.2⟩, (H2.out.2.2.1.trans (Fr.of_below HB3.out _)).trans H4.out.2⟩
end Go.Proofs.Ytdjcpjfomgfjlaa
