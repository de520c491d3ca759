/- An image in memory: Save of a row just made; the layer's awake. -/
import Derived.Test.YtdjcpjfomgfjlaaImgK
import Derived.Test.YtdjcpjfomgfjlaaByZ
namespace Go.Proofs.Ytdjcpjfomgfjlaa
open Go.RowKit Go.Maps

theorem saveR_facts (M : DM) (first count : Nat) (s : Int) (d : List UInt8) (hc : 2 ≤ count) (hc2 : count ≤ 2048) : (saveR M first count s d).2.size = M.size ∧ (saveR M first count s d).2.steps ≤ M.steps + 5000 ∧ (saveR M first count s d).2.left ≤ M.left := by
  unfold saveR
  split
  · exact ⟨rfl, Nat.le_add_right _ _, Nat.le_refl _⟩
  · split
    · exact ⟨rfl, Nat.le_add_right _ _, Nat.le_refl _⟩
    · split
      · exact ⟨rfl, Nat.le_add_right _ _, Nat.le_refl _⟩
      · rename_i hr
        obtain ⟨h1, h2, h3, _⟩ := runOps_facts (saveOps (areaO M.get first count) s.toNat d) M
        rw [saveOps_len] at h2
        have := secs_room (n := d.length) (Nat.le_of_not_lt hr) hc
        exact ⟨h1, by omega, h3⟩
section
variable {w : World} {q p bs bw T first count : Nat} {M : DM}
theorem ImgD.two (h : ImgD w q p bs bw T first count M) : 2 ≤ count ∧ count ≤ 2048 := by
  have := h.img.two; have := h.fits; have := h.size; omega
theorem ImgD.fr {w' : World} {M' : DM} {T' : Nat} {S : List Nat} (h : ImgD w q p bs bw T first count M) (hf : Fr w w' S) (hq : q ∉ S) (hD : DiskM w' p bs bw M' T') (hs : M'.size = M.size) : ImgD w' q p bs bw T' first count M' :=
  ⟨h.img.fr hf hq, hD, h.ap, by rw [hs]; exact h.fits, by rw [hs]; exact h.size⟩
/-- What Save leaves. -/
def Saved (w w' : World) (q p bs bw T first count : Nat) (M' : DM) : Prop := ImgD w' q p bs bw (T + 5000) first count M' ∧ Fr w w' [p, bs, bw]
theorem saveD (h : ImgD w q p bs bw T first count M) (s : Int) (A : Option Addr) (d : List UInt8) (c B : Nat) (hr : Rd w B A (u8s d)) (hBw : B ≤ w.heap.size) (hB : d ≠ [] → ∀ x, A = some x → x.block ≠ p ∧ x.block ≠ bs ∧ x.block ≠ bw) (hc : d.length ≤ c) (hcm : c ≤ 9223372036854775807) (hfit : Fit M T 5000) :
    Calls Try.prog 31 #[.pointer (some ⟨q, 0, none⟩), .int .i64 s, .slice A d.length c] w fun e w' => e = .returned (.int .i64 (saveR M first count s d).1) ∧ Saved w w' q p bs bw T first count (saveR M first count s d).2 := by
  refine (saveI_any h s A d c B hr hBw hB hc hcm hfit).mono ?_
  rintro e w' ⟨rfl, h1, h2⟩
  exact ⟨rfl, h.fr h2 (by simp; exact h.ap) h1 (saveR_facts M first count s d h.two.1 h.two.2).1, h2⟩
theorem save_new (h : ImgD w q p bs bw T first count M) (s : Int) (d : List UInt8) {n : Nat} (hn : d.length = n) (hm : n ≤ 1000000) (hfit : Fit M T 5000) (fr : Nat × Nat) :
    Calls Try.prog 31 #[.pointer (some ⟨q, 0, none⟩), .int .i64 s, .slice (some ⟨w.heap.size, 0, none⟩) n n] (w.alloc (.cells (u8s d).toArray 5 fr)) fun e w' => e = .returned (.int .i64 (saveR M first count s d).1) ∧ Saved w w' q p bs bw T first count (saveR M first count s d).2 := by
  subst hn
  have hb : Below w.heap.size w (w.alloc (.cells (u8s d).toArray 5 fr)) := (Below.refl _ _).alloc (Nat.le_refl _) _
  have hl := h.disk.lt
  refine (saveD (h.below hb) s (some ⟨w.heap.size, 0, none⟩) d d.length (w.heap.size + 1) (Rd.new w (u8s d).toArray 5 fr) (by simp) (fun _ a ha' => by cases ha'; show w.heap.size ≠ p ∧ w.heap.size ≠ bs ∧ w.heap.size ≠ bw; omega) (Nat.le_refl _) (by omega) hfit).mono ?_
  rintro e w' ⟨rfl, h1, h2⟩
  exact ⟨rfl, h1, (Fr.of_below hb _).trans h2⟩
theorem save_nil (h : ImgD w q p bs bw T first count M) (s : Int) (hfit : Fit M T 5000) :
    Calls Try.prog 31 #[.pointer (some ⟨q, 0, none⟩), .int .i64 s, .slice none 0 0] w fun e w' => e = .returned (.int .i64 (saveR M first count s []).1) ∧ Saved w w' q p bs bw T first count (saveR M first count s []).2 :=
  saveD h s none [] 0 0 (Rd.emp _ _ _) (Nat.zero_le _) (fun h => absurd rfl h) (Nat.le_refl _) (by omega) hfit
/-- An image's place on a disk, opened. -/
theorem openD (hD : DiskM w p bs bw M T) (hz : M.size ≤ 4096) (hf : FitsI M.size (first : Int) (count : Int)) :
    Calls Try.prog 29 #[.pointer (some ⟨p, 0, none⟩), .int .i64 (first : Int), .int .i64 (count : Int)] w fun e w' => ∃ q, e = .returned (.tuple #[.pointer (some ⟨q, 0, none⟩), .int .i64 0]) ∧ w.heap.size ≤ q ∧ ImgD w' q p bs bw T first count M ∧ Below w.heap.size w w' := by
  refine (openI_any hD hz first count hf).mono ?_
  rintro e w' ⟨q, rfl, h1, h2, h3⟩
  have hl := hD.lt
  unfold FitsI at hf
  exact ⟨q, rfl, h1, ⟨h2, hD.kept h3, by omega, by omega, hz⟩, h3⟩
end
def im1 : DM := (saveR (DM.new 8) 0 4 1 five).2
theorem im_facts : (saveR (DM.new 8) 0 4 1 five).1 = 0 ∧ im1.steps = 6 ∧ im1.left = 0 ∧ saveR im1 0 4 1 [] = (2, im1) ∧ saveR im1 0 4 2 (List.replicate 193 0) = (3, im1) ∧ imgOf im1.get 0 4 = some (1, five) := by
  have h1 : seqI (imgOf im1.get 0 4) = 1 := by decide +kernel
  refine ⟨by decide +kernel, by decide +kernel, by decide +kernel, ?_, ?_, by decide +kernel⟩
  · unfold saveR
    rw [h1]
    rfl
  · unfold saveR
    rw [h1, if_neg (by decide), if_neg (by decide), if_pos (by rw [List.length_replicate]; decide)]
theorem make193 (w : World) : (Instr.makeSlice 45 (.int .i64 193) (.int .i64 193)).run Try.prog w = .ok (.slice (some ⟨w.heap.size, 0, none⟩) 193 193) (w.alloc (.cells (u8s (List.replicate 193 0)).toArray 5)) := makeBytes 193 (by omega) w
set_option maxRecDepth 100000 in
set_option maxHeartbeats 2000000 in
theorem imgAwake_any (w : World) : Calls Try.prog 28 #[] w fun e w' => e = .returned (.bool true) ∧ Below w.heap.size w w' := by
  have H1 := Lib.hid (newM 8 w (by omega) (by omega))
  go_enter Try.func28, Try.ntmps28
  go_upto_region 4 with (first
    | (go_at_call 7; (refine H1.out.mono ?_); rintro e w1 ⟨rfl, hD, hF⟩)
    | go_in)
  have HF1 := Lib.hid (hF.below (B := w.heap.size) (Nat.le_refl _) (by simp))
  have HO := Lib.hid (openD (first := 0) (count := 4) hD (by decide) (by unfold FitsI; exact ⟨by decide, by decide, by decide, by decide⟩))
  clear hD hF
  go_upto_region 5 with (first
    | (go_at_call 29; (refine HO.out.mono ?_); rintro e w2 ⟨q, rfl, hq, hI, hb2⟩)
    | go_in)
  have ha := save_new hI 1 five (n := 5) rfl (by omega) ⟨by decide, by decide, by decide, by omega⟩ (5, 6)
  have e1 : (saveR (DM.new 8) 0 4 1 five).1 = 0 := im_facts.1
  rw [e1] at ha
  have HA := Lib.hid ha
  have hsz : im1.size = 8 := (saveR_facts (DM.new 8) 0 4 1 five (by omega) (by omega)).1
  have hfit : ∀ T, T ≤ 20000 → Fit im1 T 5000 := fun T hT => ⟨by rw [hsz]; omega, by rw [im_facts.2.1]; omega, by rw [im_facts.2.2.1]; omega, by omega⟩
  have hs2 := fun (w3 : World) (T : Nat) (hT : T ≤ 20000) (h : ImgD w3 q (w.heap.size + 2) w.heap.size (w.heap.size + 1) T 0 4 im1) => save_nil h 1 (hfit T hT)
  have hs3 := fun (w3 : World) (T : Nat) (hT : T ≤ 20000) (h : ImgD w3 q (w.heap.size + 2) w.heap.size (w.heap.size + 1) T 0 4 im1) => save_new h 2 (List.replicate 193 0) (n := 193) (by rw [List.length_replicate]) (by omega) (hfit T hT) (0, 0)
  rw [im_facts.2.2.2.1] at hs2
  rw [im_facts.2.2.2.2.1] at hs3
  have hl := fun (w3 : World) (T : Nat) (h : ImgD w3 q (w.heap.size + 2) w.heap.size (w.heap.size + 1) T 0 4 im1) => loadI_any h
  rw [im_facts.2.2.2.2.2] at hl
  have HS2 := Lib.hid hs2
  have HS3 := Lib.hid hs3
  have HL := Lib.hid hl
  have HB2 := Lib.hid (And.intro hb2 (And.intro hq HF1.out.size))
  have HMK := Lib.hid make193
  have hcv := conv_five w2
  clear ha hs2 hs3 hl hI hb2 hq e1 hsz hfit
  go_wp2_with (first
    | (go_at_call 31; (refine HA.out.mono ?_); rintro e w3 ⟨rfl, hI3, hf3⟩; clear HA; have hst := stepsM hI3.disk; rw [show (saveR (DM.new 8) 0 4 1 five).2.steps = 6 from im_facts.2.1] at hst; have HST := Lib.hid hst; have hc2 := HS2.out w3 _ (by omega) hI3; have HC2 := Lib.hid hc2; have HI3 := Lib.hid hf3; clear hI3 hf3 hst hc2 HS2)
    | (go_at_call 35; (with_reducible refine HST.out.mono ?_); rintro e w4 ⟨rfl, rfl⟩)
    | (go_at_call 31; (refine HC2.out.mono ?_); rintro e w5 ⟨rfl, hI5, hf5⟩; clear HC2; have hc3 := HS3.out w5 _ (by omega) hI5; have HC3 := Lib.hid hc3; have HF5 := Lib.hid hf5; have hmk := HMK.out w5; clear hI5 hf5 hc3 HS3)
    | (go_at_call 31; (refine HC3.out.mono ?_); rintro e w6 ⟨rfl, hI6, hf6⟩; have hc4 := HL.out w6 _ hI6; have HC4 := Lib.hid hc4; have HF6 := Lib.hid hf6; clear hI6 hf6 hc4 HL)
    | (go_at_call 33; (refine HC4.out.mono ?_); rintro e w7 ⟨A7, c7, rfl, hO7⟩; obtain ⟨A8, c8, e8, ho1, ho2, ho3, ho4, hb7⟩ := hO7; cases e8; have hst7 := strAt (n := five.length) (c := c7) ho2 rfl; have HB7 := Lib.hid hb7; clear ho1 ho2 ho3 ho4 hb7)
    | go_in)
  go_ret
  refine ⟨rfl, ?_⟩
  have z1 := HF1.out.size
  have z2 := HB2.out.1.size
  have z3 := HI3.out.size
  have z5 := HF5.out.size
  have z6 := HF6.out.size
  have hx : ∀ x ∈ [w.heap.size + 2, w.heap.size, w.heap.size + 1], w.heap.size ≤ x := fun x hx => by simp at hx; omega
  exact HF1.out.trans ((lower' HB2.out.1 z1).trans ((HI3.out.below (B := w.heap.size) (by omega) hx).trans ((HF5.out.below (B := w.heap.size) (by omega) hx).trans ((HF6.out.below (B := w.heap.size) (by omega) hx).trans (lower' HB7.out (by omega))))))
end Go.Proofs.Ytdjcpjfomgfjlaa
