/- An image in memory: write. -/
import Derived.Test.YtdjcpjfomgfjlaaImgI
import Derived.Test.YtdjcpjfomgfjlaaImgH
namespace Go.Proofs.Ytdjcpjfomgfjlaa
open Go.RowKit Go.Maps

theorem chunks_one (l : List UInt8) (h : l.length = 64) : chunks l = [l] := by
  unfold chunks
  rw [h]
  show (List.range 1).map _ = _
  simp [h, List.take_of_length_le]
theorem layOps_one (a : Nat) (l : List UInt8) (h : l.length = 64) : layOps a l = [some (a, l), none] := by
  unfold layOps
  rw [chunks_one l h]
  simp [wrs]
theorem saveOps_three (o s : Nat) (d : List UInt8) : saveOps o s d = layOps o zero64 ++ (layOps (o + 1) d ++ layOps o (headI s d.length)) := by
  rw [layOps_one o zero64 rfl, layOps_one o (headI s d.length) rfl]
  simp [saveOps, layOps]
theorem layOps_len (a : Nat) (d : List UInt8) : (layOps a d).length = secs d.length + 1 := by simp [layOps, wrs_len, chunks_len]
theorem Ran.app0 {w w1 w2 : World} {p bs bw T : Nat} {M : DM} {o1 o2 : List DOp} {e : Ending} (h0 : (runOps o1 M).1 = 0) (hf : Fr w w1 [p, bs, bw]) (h : Ran w1 w2 p bs bw (T + o1.length) (runOps o1 M).2 o2 e) : Ran w w2 p bs bw T M (o1 ++ o2) e := by
  have e1 : runOps (o1 ++ o2) M = runOps o2 (runOps o1 M).2 := by rw [runOps_append, if_pos h0]
  refine ⟨by rw [e1]; exact h.1, ?_, hf.trans h.2.2⟩
  rw [e1, List.length_append, ← Nat.add_assoc]
  exact h.2.1
theorem Ran.stop {w w1 : World} {p bs bw T : Nat} {M : DM} {o1 o2 : List DOp} {e : Ending} (h : Ran w w1 p bs bw T M o1 e) (hne : (runOps o1 M).1 ≠ 0) : Ran w w1 p bs bw T M (o1 ++ o2) e := by
  have e1 : runOps (o1 ++ o2) M = runOps o1 M := by rw [runOps_append, if_neg hne]
  refine ⟨by rw [e1]; exact h.1, ?_, h.2.2⟩
  rw [e1]
  exact h.2.1.mono (by rw [List.length_append]; omega)
theorem Fit.ran {M : DM} {T n m : Nat} (o : List DOp) (h : Fit M T n) (hn : o.length + m ≤ n) : Fit (runOps o M).2 (T + o.length) m := by
  obtain ⟨f1, f2, f3, _⟩ := runOps_facts o M
  exact ⟨by rw [f1]; exact h.size, by have := h.steps; omega, Nat.le_trans f3 h.left, by have := h.T; omega⟩
section
variable {w : World} {q p first count bs bw T : Nat} {M : DM}
set_option maxRecDepth 100000 in
set_option maxHeartbeats 4000000 in
theorem writeI_any (h : ImgAt w q p first count) (hD : DiskM w p bs bw M T) (a s : Nat) (A : Option Addr) (d : List UInt8) (c B : Nat) (hr : Rd w B A (u8s d)) (hBw : B ≤ w.heap.size) (hB : d ≠ [] → ∀ x, A = some x → x.block ≠ p ∧ x.block ≠ bs ∧ x.block ≠ bw) (hc : d.length ≤ c) (hcm : c ≤ 9223372036854775807) (hq : q ≠ p ∧ q ≠ bs ∧ q ≠ bw) (hl : d.length ≤ 262144) (hs : a + 1 + secs d.length ≤ M.size) (ha2 : a + 2 ≤ M.size) (hs62 : s ≤ 4611686018427387904) (hfit : Fit M T (secs d.length + 5)) :
    Calls Try.prog 63 #[.pointer (some ⟨q, 0, none⟩), .int .i64 (a : Int), .int .i64 (s : Int), .slice A d.length c] w fun e w' => Ran w w' p bs bw T M (saveOps a s d) e := by
  rw [saveOps_three]
  have hz := hfit.size
  have ha3 : a + 1 < 4096 := by omega
  clear ha2
  have hlt := hD.lt
  have hmk := make64 w
  have hb0 : Below w.heap.size w (w.alloc (.cells (u8s zero64).toArray 5)) := (Below.refl _ _).alloc (Nat.le_refl _) _
  have hl1 := lay_any (h.below hb0) (hD.kept hb0) a (some ⟨w.heap.size, 0, none⟩) zero64 64 _ (rd_zero w) (fun _ x hx => by cases hx; dsimp only; omega) (by decide) (by decide) hq (by decide) (by rw [show secs zero64.length = 1 from rfl]; omega) (by omega) (hfit.less (by rw [show secs zero64.length = 1 from rfl]; omega))
  rw [zero64_len] at hl1
  unfold Ran at hl1
  have hcode1 := (runOps_facts (layOps a zero64) M).2.2.2
  have hlen1 : (layOps a zero64).length = 2 := rfl
  have hfit1 : Fit (runOps (layOps a zero64) M).2 (T + 2) (secs d.length + 3) := hlen1 ▸ hfit.ran (layOps a zero64) (by rw [hlen1]; omega)
  have hsz1 : (runOps (layOps a zero64) M).2.size = M.size := (runOps_facts _ _).1
  have HH := Lib.hid (And.intro h (And.intro hr (And.intro hB (And.intro hc (And.intro hcm (And.intro hq (And.intro hl (And.intro hs (And.intro hs62 (And.intro hfit1 (And.intro hsz1 (And.intro hBw hz))))))))))))
  have HL1 := Lib.hid hl1
  have HB0 := Lib.hid hb0
  have hlI : (d.length : Int) ≤ 262144 := by omega
  have haI : (a : Int) ≤ 4096 := by omega
  clear h hr hB hc hcm hq hl hs hfit hfit1 hsz1 hl1 hb0 hlt hD hBw hz
  rcases hcode1 with h0 | h0
  · have H0 := Lib.hid h0
    rw [h0] at HL1
    clear h0
    go_enter Try.func63, Try.ntmps63
    go_upto_region 4 with (go_at_call 80; (with_reducible refine HL1.out.mono ?_); rintro e w1 ⟨rfl, hD1, hF1⟩)
    have hf1 : Fr w w1 [p, bs, bw] := (Fr.of_below HB0.out _).trans hF1
    have hx := HH.out
    have hi1 := hx.1.fr hf1 (by simp; exact hx.2.2.2.2.2.1)
    have hnp : ∀ z, z ∉ [p, bs, bw] → z < w.heap.size → w1.heap[z]? = w.heap[z]? := fun z hz hl => hf1.block z hl hz
    have hr1 : Rd w1 B A (u8s d) := by
      intro hne
      obtain ⟨b, o, e, hb, hc⟩ := hx.2.1 hne
      have hd0 : d ≠ [] := by rintro rfl; exact hne rfl
      refine ⟨b, o, e, hb, fun j u hu => (World.cell?_of_block (hf1.block b (by have := hx.2.2.2.2.2.2.2.2.2.2.2.1; omega) ?_)).trans (hc j u hu)⟩
      have := hx.2.2.1 hd0 _ e
      simp
      exact this
    have hl2 := lay_any hi1 hD1 (a + 1) A d c B hr1 hx.2.2.1 hx.2.2.2.1 hx.2.2.2.2.1 hx.2.2.2.2.2.1 hx.2.2.2.2.2.2.1 (by rw [hx.2.2.2.2.2.2.2.2.2.2.1]; exact hx.2.2.2.2.2.2.2.1) ha3 (hx.2.2.2.2.2.2.2.2.2.1.less (by omega))
    rw [show ((a + 1 : Nat) : Int) = (a : Int) + 1 by omega] at hl2
    unfold Ran at hl2
    have hcode2 := (runOps_facts (layOps (a + 1) d) (runOps (layOps a zero64) M).2).2.2.2
    have hfit2 := hx.2.2.2.2.2.2.2.2.2.1.ran (layOps (a + 1) d) (m := 2) (by rw [layOps_len]; omega)
    have hsz2 : (runOps (layOps (a + 1) d) (runOps (layOps a zero64) M).2).2.size = M.size := ((runOps_facts _ _).1).trans hx.2.2.2.2.2.2.2.2.2.2.1
    have H1 := Lib.hid (And.intro hf1 (And.intro hi1 (And.intro hfit2 hsz2)))
    have HL2 := Lib.hid hl2
    clear hl2 hf1 hi1 hr1 hnp hx hfit2 hsz2 hD1 hF1 hmk
    rcases hcode2 with h0 | h0
    · have H2 := Lib.hid h0
      rw [h0] at HL2
      clear h0
      go_upto_region 7 with (go_at_call 80; (with_reducible refine HL2.out.mono ?_); rintro e w2 ⟨rfl, hD2, hF2⟩)
      have hi2 := H1.out.2.1.fr hF2 (by simp; exact HH.out.2.2.2.2.2.1)
      have hho := headI_any s d.length w2 HH.out.2.2.2.2.2.2.2.2.1 (by have := HH.out.2.2.2.2.2.2.1; omega)
      have hl3 := fun (w3 : World) (hb : Below w2.heap.size w2 w3) (g : Nat) (hr : Rd w3 w3.heap.size (some ⟨g, 0, none⟩) (u8s (headI s d.length))) (hg : w2.heap.size ≤ g) => lay_any (hi2.below hb) (hD2.kept hb) a (some ⟨g, 0, none⟩) (headI s d.length) 64 _ hr (fun _ x hx => by cases hx; have := hD2.lt; dsimp only; omega) (by rw [headI_len]; omega) (by decide) HH.out.2.2.2.2.2.1 (by rw [headI_len]; omega) (by rw [H1.out.2.2.2, headI_len, show secs 64 = 1 from rfl]; have := HH.out.2.2.2.2.2.2.2.1; omega) (by have := HH.out.2.2.2.2.2.2.2.1; have := HH.out.2.2.2.2.2.2.2.2.2.2.2.2; omega) (by have := H1.out.2.2.1; rw [headI_len, show secs 64 = 1 from rfl]; exact this)
      rw [headI_len] at hl3
      have HL3 := Lib.hid hl3
      have HHO := Lib.hid hho
      have H3 := Lib.hid (And.intro hD2 (And.intro hF2 hi2))
      clear hl3 hho hD2 hF2 hi2
      go_wp2_with (first
        | (go_at_call 81; (with_reducible refine HHO.out.mono ?_); rintro e w3 ⟨g3, rfl, hg1, hg2, hr3, hl3, hb3⟩)
        | (go_at_call 80; (with_reducible refine (HL3.out w3 hb3 g3 hr3 hg1).mono ?_); rintro e w4 hR; have hr4 := hR; obtain ⟨rfl, _⟩ := hR; have HR4 := Lib.hid (And.intro hr4 hb3); clear hr4))
      go_ret
      refine Ran.app0 (o1 := layOps a zero64) H0.out H1.out.1 (Ran.app0 (o1 := layOps (a + 1) d) H2.out (H3.out.2.1.trans (Fr.of_below HR4.out.2 _)) HR4.out.1)
    · rw [h0] at HL2
      have H2 := Lib.hid h0
      clear h0
      go_wp2_with (go_at_call 80; (with_reducible refine HL2.out.mono ?_); rintro e w2 ⟨rfl, hD2, hF2⟩; have HF := Lib.hid (And.intro hD2 hF2); clear hD2 hF2)
      go_ret
      refine Ran.app0 (o1 := layOps a zero64) H0.out H1.out.1 (Ran.stop (o1 := layOps (a + 1) d) ⟨by rw [H2.out]; rfl, HF.out.1, HF.out.2⟩ (by rw [H2.out]; decide))
  · rw [h0] at HL1
    have H0 := Lib.hid h0
    clear h0
    go_enter Try.func63, Try.ntmps63
    go_wp2_with (go_at_call 80; (with_reducible refine HL1.out.mono ?_); rintro e w1 ⟨rfl, hD1, hF1⟩; have HF := Lib.hid (And.intro hD1 hF1); clear hD1 hF1)
    go_ret
    refine Ran.stop (o1 := layOps a zero64) ⟨by rw [H0.out]; rfl, HF.out.1, (Fr.of_below HB0.out _).trans HF.out.2⟩ (by rw [H0.out]; decide)
end
end Go.Proofs.Ytdjcpjfomgfjlaa
