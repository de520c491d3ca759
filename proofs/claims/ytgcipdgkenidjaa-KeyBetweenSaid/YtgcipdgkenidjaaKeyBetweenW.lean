/- KeyBetween: the walk. -/
import Derived.Test.YtgcipdgkenidjaaProg
import Derived.Test.YtgcipdgkenidjaaKeyD
import Derived.Test.YtgcipdgkenidjaaKeyG
import Derived.Test.YtgcipdgkenidjaaKeyM
import Derived.WalkKit
import Derived.WalkSpells
import Derived.WalkLawsBesides
import Derived.Deep.QuietTactic
import Derived.Deep.RegionHeld3
import Derived.Deep.DeepCutAuto
import Derived.Deep.CutRange
import Derived.BigQuiet
import Derived.KernelRfl
import Derived.Lib.Hide
namespace Go.Proofs.Ytgcipdgkenidjaa
open Go.RowKit

theorem strOf {w : World} {A : Option Addr} {n c B : Nat} {l : List UInt8} (hr : Rd w B A (u8s l)) (hn : n = l.length) :
    (convert 26 9 (.slice A n c)).run Try.prog w = .ok (.string ⟨l.toArray⟩) w :=
  run_strB (P := Try.prog) w 26 9 5 A n c B l Try.underlying26 Try.underlying5 Try.underlying9 hn hr

def numP (n : Int) : KPart := ⟨false, ⟨#[]⟩, n⟩
def strP (s : ByteArray) : KPart := ⟨true, s, 0⟩
theorem numP_fits {n : Int} (h : -9223372036854775808 ≤ n ∧ n ≤ 9223372036854775807) : (numP n).fits := ⟨by show 0 ≤ _; omega, h.1, h.2⟩
theorem strP_fits {s : ByteArray} (h : s.size ≤ 140737488351232) : (strP s).fits := ⟨by show s.size ≤ _; omega, by show _ ≤ (0 : Int); omega, by show (0 : Int) ≤ _; omega⟩
theorem numP_less (m n : Int) : decide (partC (numP m) (numP n) < 0) = decide (m < n) := by
  refine decide_eq_decide.2 ?_
  show intC m n < 0 ↔ m < n
  unfold intC
  rcases Int.lt_trichotomy m n with h | h | h
  · simp [h]
  · simp [h]
  · have h1 : ¬ m < n := by omega
    simp [h, h1]
theorem numP_strP (m : Int) (s : ByteArray) : decide (partC (numP m) (strP s) < 0) = true := rfl
theorem keyB_snoc (ks : List KPart) (q : KPart) : keyB (ks ++ [q]) = keyB ks ++ (partB q ++ []) := by rw [keyB_append]; simp [keyB]
theorem encB_less (ks : List KPart) (p q : KPart) (hp : p.fits) (hq : q.fits) (h1 : 0 < (encB (ks ++ [p])).length) (h2 : 0 < (encB (ks ++ [q])).length) :
    Op.bytesLess (encB (ks ++ [p])) (encB (ks ++ [q])) = decide (partC p q < 0) := by
  unfold encB at h1 h2 ⊢
  split at h1
  · split at h2
    · rename_i g1 g2
      rw [if_pos g1, if_pos g2, keyB_snoc, keyB_snoc, bl_pre, partB_less p q hp hq]
      simp [Op.bytesLess]
    · simp at h2
  · simp at h1
theorem cb_less : ∀ a b : List UInt8, decide (Lib.compareBytes a b < 0) = Op.bytesLess a b
  | [], [] => by simp [Lib.compareBytes, Op.bytesLess]
  | [], _ :: _ => by simp [Lib.compareBytes, Op.bytesLess]
  | _ :: _, [] => by simp [Lib.compareBytes, Op.bytesLess]
  | a :: x, b :: y => by
    have ih := cb_less x y
    unfold Lib.compareBytes Op.bytesLess
    rcases Nat.lt_trichotomy a.toNat b.toNat with h | h | h
    · have h1 : a < b := by rw [u8lt]; exact h
      simp [h1]
    · obtain rfl : a = b := UInt8.toNat_inj.1 h
      have h1 : ¬ a < a := UInt8.lt_irrefl a
      simp [ih]
    · have h1 : ¬ a < b := by rw [u8lt]; omega
      have h2 : b < a := by rw [u8lt]; exact h
      have h3 : ¬ a = b := by rintro rfl; omega
      simp [h1, h2, h3]

theorem three_new (w : World) (a b c : Obj) : (((w.alloc a).alloc b).alloc c).heap[w.heap.size]? = some a ∧ (((w.alloc a).alloc b).alloc c).heap[w.heap.size + 1]? = some b ∧ (((w.alloc a).alloc b).alloc c).heap[w.heap.size + 2]? = some c := by
  have e1 : (w.alloc a).heap.size = w.heap.size + 1 := by simp
  have e2 : ((w.alloc a).alloc b).heap.size = w.heap.size + 2 := by simp
  refine ⟨?_, ?_, ?_⟩
  · rw [Below.heap_alloc _ _ _ (by omega), Below.heap_alloc _ _ _ (by omega)]; exact heap_alloc_new w _
  · rw [Below.heap_alloc _ _ _ (by omega), ← e1]; exact heap_alloc_new (w.alloc a) _
  · rw [← e2]; exact heap_alloc_new ((w.alloc a).alloc b) _

set_option maxRecDepth 100000 in
set_option maxHeartbeats 2000000 in
theorem keyBetween_walk (A1 : Option Addr) (k1 : List KPart) (c1 : Nat) (n0 n1 : Int) (s0 s1 : ByteArray) (w : World)
    (hr1 : Rd w w.heap.size A1 (pcs k1)) (hf1 : ∀ q ∈ k1, q.fits) (hc1 : k1.length ≤ c1) (hm1 : c1 ≤ 4398046511104)
    (hn0 : -9223372036854775808 ≤ n0 ∧ n0 ≤ 9223372036854775807) (hn1 : -9223372036854775808 ≤ n1 ∧ n1 ≤ 9223372036854775807) (hs0 : s0.size ≤ 140737488351232) (hs1 : s1.size ≤ 140737488351232) :
    Calls Try.prog 9 #[.slice A1 k1.length c1, .agg #[.int .i64 n0, .int .i64 n1], .agg #[.string s0, .string s1]] w fun e w' => e = .returned (.bool true) ∧ Below w.heap.size w w' := by
  have hfew : ∀ W, Below w.heap.size w W → Calls Try.prog 11 #[.slice A1 k1.length c1] W fun e w' => e = .returned (.bool (fewB k1)) ∧ W = w' := fun W h => few_any A1 k1 _ c1 w.heap.size W rfl (hr1.below h (Nat.le_refl _)) h.size (by omega) hf1
  have hwith : ∀ W (bf : Nat) (q : KPart) (l : List UInt8), l = encB (k1 ++ [q]) → q.fits → k1.length ≤ 60 → Below w.heap.size w W → W.cell? ⟨bf, 0, none⟩ = some (.slice A1 k1.length c1) →
      Calls Try.prog 25 #[.agg q.cells, .pointer (some ⟨bf, 0, none⟩)] W fun e w' => ∃ v, e = .returned v ∧ OwnB w' W.heap.size 5 v l ∧ Below W.heap.size W w' := fun W bf q l hl hq h60 h hc => by
    subst hl
    exact with_any A1 k1 c1 w.heap.size bf q W hc (hr1.below h (Nat.le_refl _)) h.size (by omega) hf1 hq
  obtain ⟨bb, hbb⟩ : ∃ b, b = fewB k1 := ⟨_, rfl⟩
  rw [← hbb] at hfew
  have HBB := Lib.hid hbb
  have HFW := Lib.hid hfew
  have HW := Lib.hid hwith
  clear hbb hfew hwith
  have HF1 := Lib.hid hf1
  clear hf1
  have hbx : Below w.heap.size w (((w.alloc (.cells #[.slice A1 k1.length c1] 22)).alloc (.cells #[.int .i64 n0, .int .i64 n1] 50)).alloc (.cells #[.string s0, .string s1] 51)) :=
    (((Below.refl _ _).alloc (Nat.le_refl _) _).alloc (by simp) _).alloc (by simp; omega) _
  obtain ⟨bf, hbf⟩ : ∃ b, b = w.heap.size := ⟨_, rfl⟩
  obtain ⟨bn, hbn⟩ : ∃ b, b = w.heap.size + 1 := ⟨_, rfl⟩
  obtain ⟨bs, hbs⟩ : ∃ b, b = w.heap.size + 1 + 1 := ⟨_, rfl⟩
  have x0 : (((w.alloc (.cells #[.slice A1 k1.length c1] 22)).alloc (.cells #[.int .i64 n0, .int .i64 n1] 50)).alloc (.cells #[.string s0, .string s1] 51)).cell? ⟨bf, 0, none⟩ = some (.slice A1 k1.length c1) := by rw [hbf]; exact cell_of_row _ _ 0 _ _ (0, 0) (three_new w _ _ _).1
  have x1 : (((w.alloc (.cells #[.slice A1 k1.length c1] 22)).alloc (.cells #[.int .i64 n0, .int .i64 n1] 50)).alloc (.cells #[.string s0, .string s1] 51)).cell? ⟨bn, 0, none⟩ = some (.int .i64 n0) := by rw [hbn]; exact cell_of_row _ _ 0 _ _ (0, 0) (three_new w _ _ _).2.1
  have x2 : (((w.alloc (.cells #[.slice A1 k1.length c1] 22)).alloc (.cells #[.int .i64 n0, .int .i64 n1] 50)).alloc (.cells #[.string s0, .string s1] 51)).cell? ⟨bn, 1, none⟩ = some (.int .i64 n1) := by rw [hbn]; exact cell_of_row _ _ 1 _ _ (0, 0) (three_new w _ _ _).2.1
  have x3 : (((w.alloc (.cells #[.slice A1 k1.length c1] 22)).alloc (.cells #[.int .i64 n0, .int .i64 n1] 50)).alloc (.cells #[.string s0, .string s1] 51)).cell? ⟨bs, 0, none⟩ = some (.string s0) := by rw [hbs]; exact cell_of_row _ _ 0 _ _ (0, 0) (three_new w _ _ _).2.2
  have x4 : (((w.alloc (.cells #[.slice A1 k1.length c1] 22)).alloc (.cells #[.int .i64 n0, .int .i64 n1] 50)).alloc (.cells #[.string s0, .string s1] 51)).cell? ⟨bs, 1, none⟩ = some (.string s1) := by rw [hbs]; exact cell_of_row _ _ 1 _ _ (0, 0) (three_new w _ _ _).2.2
  have hfz : bf < (((w.alloc (.cells #[.slice A1 k1.length c1] 22)).alloc (.cells #[.int .i64 n0, .int .i64 n1] 50)).alloc (.cells #[.string s0, .string s1] 51)).heap.size := by rw [hbf]; simp; omega
  have hnz : bn < (((w.alloc (.cells #[.slice A1 k1.length c1] 22)).alloc (.cells #[.int .i64 n0, .int .i64 n1] 50)).alloc (.cells #[.string s0, .string s1] 51)).heap.size := by rw [hbn]; simp
  have hsz : bs < (((w.alloc (.cells #[.slice A1 k1.length c1] 22)).alloc (.cells #[.int .i64 n0, .int .i64 n1] 50)).alloc (.cells #[.string s0, .string s1] 51)).heap.size := by rw [hbs]; simp
  go_enter Try.func9, Try.ntmps9
  go_wp2_with fail
  rw [← hbs, ← hbn, ← hbf]
  generalize (((w.alloc (.cells #[.slice A1 k1.length c1] 22)).alloc (.cells #[.int .i64 n0, .int .i64 n1] 50)).alloc (.cells #[.string s0, .string s1] 51)) = W0 at *
  clear hbf hbn hbs
  refine (awake_any _).mono ?_
  rintro e w1 ⟨rfl, hb1⟩
  have y0 := (hb1.cell (p := ⟨bf, 0, none⟩) hfz).trans x0
  have y1 := (hb1.cell (p := ⟨bn, 0, none⟩) hnz).trans x1
  have y2 := (hb1.cell (p := ⟨bn, 1, none⟩) hnz).trans x2
  have y3 := (hb1.cell (p := ⟨bs, 0, none⟩) hsz).trans x3
  have y4 := (hb1.cell (p := ⟨bs, 1, none⟩) hsz).trans x4
  have hs1' := hb1.size
  have hB1 := hbx.trans (hb1.mono hbx.size)
  have hfz1 : bf < w1.heap.size := by omega
  have hnz1 : bn < w1.heap.size := by omega
  have hsz1 : bs < w1.heap.size := by omega
  clear x0 x1 x2 x3 x4 hb1 hbx hfz hnz hsz hs1'
  rcases bb with _ | _
  · go_wp2_with (go_at_call 11; (with_reducible refine (HFW.out _ hB1).mono ?_); rintro e w' ⟨rfl, rfl⟩)
    refine (awake_any _).mono ?_
    rintro e w2 ⟨rfl, hb2⟩
    go_wp2
    go_ret
    exact ⟨rfl, hB1.trans (hb2.mono hB1.size)⟩
  · have hfw : fewB k1 = true := HBB.out.symm
    have h60 : k1.length ≤ 60 := by
      simp only [fewB, Bool.and_eq_true, decide_eq_true_eq] at hfw
      exact hfw.1
    clear hfw
    by_cases hbig : 300 < (s0.size : Int) + (s1.size : Int)
    · go_wp2_with (go_at_call 11; (with_reducible refine (HFW.out _ hB1).mono ?_); rintro e w' ⟨rfl, rfl⟩)
      refine (awake_any _).mono ?_
      rintro e w2 ⟨rfl, hb2⟩
      go_wp2
      go_ret
      exact ⟨rfl, hB1.trans (hb2.mono hB1.size)⟩
    · go_upto_region 4 with (go_at_call 11; (with_reducible refine (HFW.out _ hB1).mono ?_); rintro e w' ⟨rfl, rfl⟩)
      have hlA := fun W h hc => HW.out W bf (numP n0) (encB (k1 ++ [numP n0])) rfl (numP_fits hn0) h60 h hc
      have hlB := fun W h hc => HW.out W bf (numP n1) (encB (k1 ++ [numP n1])) rfl (numP_fits hn1) h60 h hc
      have hlC := fun W h hc => HW.out W bf (strP s0) (encB (k1 ++ [strP s0])) rfl (strP_fits hs0) h60 h hc
      have hlD := fun W h hc => HW.out W bf (strP s1) (encB (k1 ++ [strP s1])) rfl (strP_fits hs1) h60 h hc
      have hAB := encB_less k1 (numP n0) (numP n1) (numP_fits hn0) (numP_fits hn1)
      have hCD := encB_less k1 (strP s0) (strP s1) (strP_fits hs0) (strP_fits hs1)
      have hAC := encB_less k1 (numP n0) (strP s0) (numP_fits hn0) (strP_fits hs0)
      have hpAB := numP_less n0 n1
      have hpCD : decide (partC (strP s0) (strP s1) < 0) = Op.bytesLess s0.data.toList s1.data.toList := cb_less _ _
      have hpAC := numP_strP n0 s0
      rw [hpAB] at hAB
      rw [hpCD] at hCD
      rw [hpAC] at hAC
      clear hpAB hpCD hpAC
      obtain ⟨la, hla⟩ : ∃ l, l = encB (k1 ++ [numP n0]) := ⟨_, rfl⟩
      obtain ⟨lb, hlb⟩ : ∃ l, l = encB (k1 ++ [numP n1]) := ⟨_, rfl⟩
      obtain ⟨lc, hlc⟩ : ∃ l, l = encB (k1 ++ [strP s0]) := ⟨_, rfl⟩
      obtain ⟨ld, hld⟩ : ∃ l, l = encB (k1 ++ [strP s1]) := ⟨_, rfl⟩
      rw [← hla] at hlA hAB hAC
      rw [← hlb] at hlB hAB
      rw [← hlc] at hlC hCD hAC
      rw [← hld] at hlD hCD
      simp only [numP, strP, KPart.cells] at hlA hlB hlC hlD
      have HA := Lib.hid hlA
      have HB := Lib.hid hlB
      have HC := Lib.hid hlC
      have HD := Lib.hid hlD
      have HAB := Lib.hid hAB
      have HCD := Lib.hid hCD
      have HAC := Lib.hid hAC
      clear hlA hlB hlC hlD hAB hCD hAC hla hlb hlc hld
      go_cut [8, 9] (fun s8 s9 wx => ∃ A8 c8 A9 c9, s8 = .slice A8 la.length c8 ∧ s9 = .slice A9 lb.length c9 ∧ Rd wx wx.heap.size A8 (u8s la) ∧ Rd wx wx.heap.size A9 (u8s lb) ∧ Below w1.heap.size w1 wx)
      case first =>
        have KS : ∀ w', Below w1.heap.size w1 w' → (Below w1.heap.size w1 w' ∧ w'.cell? ⟨bn, 0, none⟩ = some (.int .i64 n0) ∧ w'.cell? ⟨bn, 1, none⟩ = some (.int .i64 n1) ∧ w'.cell? ⟨bf, 0, none⟩ = some (.slice A1 k1.length c1)) :=
          fun w' h => ⟨h, (h.cell (p := ⟨bn, 0, none⟩) hnz1).trans y1, (h.cell (p := ⟨bn, 1, none⟩) hnz1).trans y2, (h.cell (p := ⟨bf, 0, none⟩) hfz1).trans y0⟩
        have HK := Lib.hid KS
        clear KS
        go_region_held3 (fun w' => Below w1.heap.size w1 w' ∧ w'.cell? ⟨bn, 0, none⟩ = some (.int .i64 n0) ∧ w'.cell? ⟨bn, 1, none⟩ = some (.int .i64 n1) ∧ w'.cell? ⟨bf, 0, none⟩ = some (.slice A1 k1.length c1))
          (first
            | exact HK.out _ (Below.refl _ _).drew
            | exact HK.out _ hBx)
          (first
          | (go_at_call 24; obtain ⟨hBo, -, -, hcf⟩ : Below w1.heap.size w1 _ ∧ _ ∧ _ ∧ _ := (by assumption); (with_reducible refine (num_any _ _).mono ?_); rintro e wk ⟨rfl, hbk⟩; have hBx := hBo.trans (hbk.mono hBo.size); (try (have hownva := hownva.below hbk (Nat.le_refl _))); (try (have hownvb := hownvb.below hbk (Nat.le_refl _))))
          | (go_at_call 25; obtain ⟨hBo, -, -, hcf⟩ : Below w1.heap.size w1 _ ∧ _ ∧ _ ∧ _ := (by assumption); (with_reducible refine (HA.out _ (hB1.trans (hBo.mono hB1.size)) hcf).mono ?_); rintro e wk ⟨va, rfl, hownva, hbk⟩; have hBx := hBo.trans (hbk.mono hBo.size); (try (have hownvb := hownvb.below hbk (Nat.le_refl _))))
          | (go_at_call 25; obtain ⟨hBo, -, -, hcf⟩ : Below w1.heap.size w1 _ ∧ _ ∧ _ ∧ _ := (by assumption); (with_reducible refine (HB.out _ (hB1.trans (hBo.mono hB1.size)) hcf).mono ?_); rintro e wk ⟨vb, rfl, hownvb, hbk⟩; have hBx := hBo.trans (hbk.mono hBo.size); (try (have hownva := hownva.below hbk (Nat.le_refl _)))))
        obtain ⟨A8, c8, rfl, -, -, hr8, -⟩ := hownva.shape
        obtain ⟨A9, c9, rfl, -, -, hr9, -⟩ := hownvb.shape
        go_wp2_with fail
        go_meet
        exact ⟨A8, c8, A9, c9, rfl, rfl, hr8, hr9, hBx⟩
      case rest =>
        obtain ⟨A8, c8, A9, c9, rfl, rfl, hr8, hr9, hBc⟩ := hcut
        have hB2 := hB1.trans (hBc.mono hB1.size)
        have hsc := hBc.size
        have z0 := (hBc.cell (p := ⟨bf, 0, none⟩) hfz1).trans y0
        have z1 := (hBc.cell (p := ⟨bn, 0, none⟩) hnz1).trans y1
        have z2 := (hBc.cell (p := ⟨bn, 1, none⟩) hnz1).trans y2
        have z3 := (hBc.cell (p := ⟨bs, 0, none⟩) hsz1).trans y3
        have z4 := (hBc.cell (p := ⟨bs, 1, none⟩) hsz1).trans y4
        have hfz2 : bf < wc.heap.size := by omega
        have hnz2 : bn < wc.heap.size := by omega
        have hsz2 : bs < wc.heap.size := by omega
        clear y0 y1 y2 y3 y4 hB1 hBc hfz1 hnz1 hsz1 hsc
        go_upto_region 5 with fail
        go_cut [10, 11] (fun s8 s9 wx => ∃ Ac cc Ad cd, s8 = .slice Ac lc.length cc ∧ s9 = .slice Ad ld.length cd ∧ Rd wx wx.heap.size Ac (u8s lc) ∧ Rd wx wx.heap.size Ad (u8s ld) ∧ Below wc.heap.size wc wx)
        case first =>
          have KS : ∀ w', Below wc.heap.size wc w' → (Below wc.heap.size wc w' ∧ w'.cell? ⟨bs, 0, none⟩ = some (.string s0) ∧ w'.cell? ⟨bs, 1, none⟩ = some (.string s1) ∧ w'.cell? ⟨bf, 0, none⟩ = some (.slice A1 k1.length c1)) :=
            fun w' h => ⟨h, (h.cell (p := ⟨bs, 0, none⟩) hsz2).trans z3, (h.cell (p := ⟨bs, 1, none⟩) hsz2).trans z4, (h.cell (p := ⟨bf, 0, none⟩) hfz2).trans z0⟩
          have HK := Lib.hid KS
          clear KS
          go_region_held3 (fun w' => Below wc.heap.size wc w' ∧ w'.cell? ⟨bs, 0, none⟩ = some (.string s0) ∧ w'.cell? ⟨bs, 1, none⟩ = some (.string s1) ∧ w'.cell? ⟨bf, 0, none⟩ = some (.slice A1 k1.length c1))
            (first
              | exact HK.out _ (Below.refl _ _).drew
              | exact HK.out _ hBx)
            (first
            | (go_at_call 26; obtain ⟨hBo, -, -, hcf⟩ : Below wc.heap.size wc _ ∧ _ ∧ _ ∧ _ := (by assumption); (with_reducible refine (str_any _ _).mono ?_); rintro e wk ⟨rfl, hbk⟩; have hBx := hBo.trans (hbk.mono hBo.size); (try (have hownvc := hownvc.below hbk (Nat.le_refl _))); (try (have hownvd := hownvd.below hbk (Nat.le_refl _))))
            | (go_at_call 25; obtain ⟨hBo, -, -, hcf⟩ : Below wc.heap.size wc _ ∧ _ ∧ _ ∧ _ := (by assumption); (with_reducible refine (HC.out _ (hB2.trans (hBo.mono hB2.size)) hcf).mono ?_); rintro e wk ⟨vc, rfl, hownvc, hbk⟩; have hBx := hBo.trans (hbk.mono hBo.size); (try (have hownvd := hownvd.below hbk (Nat.le_refl _))))
            | (go_at_call 25; obtain ⟨hBo, -, -, hcf⟩ : Below wc.heap.size wc _ ∧ _ ∧ _ ∧ _ := (by assumption); (with_reducible refine (HD.out _ (hB2.trans (hBo.mono hB2.size)) hcf).mono ?_); rintro e wk ⟨vd, rfl, hownvd, hbk⟩; have hBx := hBo.trans (hbk.mono hBo.size); (try (have hownvc := hownvc.below hbk (Nat.le_refl _)))))
          obtain ⟨Ac, cc, rfl, -, -, hrc, -⟩ := hownvc.shape
          obtain ⟨Ad, cd, rfl, -, -, hrd, -⟩ := hownvd.shape
          go_wp2_with fail
          go_meet
          exact ⟨Ac, cc, Ad, cd, rfl, rfl, hrc, hrd, hBx⟩
        case rest =>
          obtain ⟨Ac, cc, Ad, cd, rfl, rfl, hrc, hrd, hBc⟩ := hcut
          have qA := strOf (c := c8) (hr8.below hBc (Nat.le_refl _)) rfl
          have qB := strOf (c := c9) (hr9.below hBc (Nat.le_refl _)) rfl
          have qC := strOf (c := cc) hrc rfl
          have qD := strOf (c := cd) hrd rfl
          have v1 := (hBc.cell (p := ⟨bn, 0, none⟩) hnz2).trans z1
          have v2 := (hBc.cell (p := ⟨bn, 1, none⟩) hnz2).trans z2
          have v3 := (hBc.cell (p := ⟨bs, 0, none⟩) hsz2).trans z3
          have v4 := (hBc.cell (p := ⟨bs, 1, none⟩) hsz2).trans z4
          have hB3 := hB2.trans (hBc.mono hB2.size)
          clear hBc hr8 hr9 hrc hrd z0 z1 z2 z3 z4 hfz2 hnz2 hsz2 hB2 HA HB HC HD HW HFW HBB HF1
          by_cases eA : 0 < la.length <;> by_cases eB : 0 < lb.length <;> by_cases eC : 0 < lc.length <;> by_cases eD : 0 < ld.length
          all_goals
            try have fAB := HAB.out eA eB
            try have fCD := HCD.out eC eD
            try rw [← Lib.toList_data s0, ← Lib.toList_data s1] at fCD
            try have fAC := HAC.out eA eC
            go_wp2
            all_goals go_ret
            all_goals refine ⟨?_, hB3⟩
            all_goals first
              | rfl
              | (simp; done)
              | (exfalso; exact eC (List.length_pos_iff.2 (by assumption)))
              | (exfalso; exact eA (List.length_pos_iff.2 (by assumption)))
end Go.Proofs.Ytgcipdgkenidjaa
