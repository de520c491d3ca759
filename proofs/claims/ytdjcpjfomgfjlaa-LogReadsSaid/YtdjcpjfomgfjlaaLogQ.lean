/- The law's awake (layer 4). -/
import Derived.Test.YtdjcpjfomgfjlaaLogP
import Derived.Lib.SlBytesConst
import Derived.Test.YtdjcpjfomgfjlaaByZ
namespace Go.Proofs.Ytdjcpjfomgfjlaa
open Go.RowKit Go.Maps

theorem append_new {w : World} {base q p bs bw T : Nat} {L : LG} {v : Value} {M : DM} (h : LogD w base q p bs bw T L v M) (d : List UInt8) {n : Nat} (hn : d.length = n) (hm : n ≤ 100000) (hfit : Fit M T 70) (fr : Nat × Nat) :
    Calls Try.prog 11 #[.pointer (some ⟨q, 0, none⟩), .slice (some ⟨w.heap.size, 0, none⟩) n n] (w.alloc (.cells (u8s d).toArray 5 fr)) fun e w' => e = .returned (.int .i64 (appR L M d).1) ∧ Logged w w' base q p bs bw (T + 70) v (appR L M d).2.1 (appR L M d).2.2 := by
  subst hn
  have hb : Below w.heap.size w (w.alloc (.cells (u8s d).toArray 5 fr)) := (Below.refl _ _).alloc (Nat.le_refl _) _
  have hl := h.low
  have ha := h.ap
  refine (append_any (h.kept hb) (some ⟨w.heap.size, 0, none⟩) d d.length (w.heap.size + 1) (Rd.new w (u8s d).toArray 5 fr) (by simp) (fun _ a ha' => by cases ha'; have := ha.lp; have := ha.ls; have := ha.lw; show w.heap.size ≠ p ∧ w.heap.size ≠ bs ∧ w.heap.size ≠ bw; omega) (Nat.le_refl _) (by omega) hfit).mono ?_
  rintro e w' ⟨rfl, v', h1, h2⟩
  exact ⟨rfl, v', h1, (Fr.of_below hb _).trans h2⟩
def lg0 : LG := LG.of 0 4 []
def lgR : Int × DM × LG := appR lg0 (DM.new 4) five
theorem lg_facts : scan (DM.new 4).get 4 0 none = [] ∧ openOps (DM.new 4) 0 4 = [] ∧ lgR.1 = 0 ∧ lgR.2.1.steps = 4 ∧ lgR.2.2.room = 64 ∧ lgR.2.2.next = 2 := by decide +kernel
theorem lg_facts2 : (appR lgR.2.2 lgR.2.1 (List.replicate 65 0)).1 = 5 ∧ (appR lgR.2.2 lgR.2.1 (List.replicate 65 0)).2.2.room = 64 ∧ (appR lgR.2.2 lgR.2.1 (List.replicate 65 0)).2.2.next = 2 := by decide +kernel
theorem lg_fit : lgR.2.1.size = 4 ∧ lgR.2.1.left = 0 := by decide +kernel
theorem open_four {w : World} {p bs bw : Nat} (hD : DiskM w p bs bw (DM.new 4) 0) :
    Calls Try.prog 9 #[.pointer (some ⟨p, 0, none⟩), .int .i64 0, .int .i64 4] w fun e w' => ∃ q A c v, e = .returned (.tuple #[.pointer (some ⟨q, 0, none⟩), .slice A 0 c, .int .i64 0]) ∧ w.heap.size ≤ q ∧ LogD w' (q + 1) q p bs bw 4097 lg0 v (DM.new 4) ∧ Fr w w' [p, bs, bw] := by
  refine (open_any hD 0 4 (by omega) (by show 0 + 4 ≤ 4; omega) ⟨by decide, by decide, by decide, by omega⟩).mono ?_
  rintro e w' ⟨h1, _, h3⟩
  rw [lg_facts.2.1] at h1
  obtain ⟨q, u, v, rfl, h4, h5, h6⟩ := h1 rfl
  rw [lg_facts.1] at h5 h6
  obtain ⟨R, hR1, hR2, _⟩ := h5.ex
  have hR : R = [] := by cases R with
    | nil => rfl
    | cons a b => simp at hR1
  subst hR
  obtain ⟨A, c, rfl, _, _, _⟩ := own_shape hR2
  refine ⟨q, A, c, v, rfl, h4, ?_, h3⟩
  have h7 := h6
  rw [Nat.zero_add] at h7
  exact h7
set_option maxRecDepth 100000 in
set_option maxHeartbeats 2000000 in
theorem logAwake_any (w : World) : Calls Try.prog 6 #[] w fun e w' => e = .returned (.bool true) ∧ Below w.heap.size w w' := by
  have H1 := Lib.hid (newM 4 w (by omega) (by omega))
  go_enter Try.func6, Try.ntmps6
  go_upto_region 4 with (first
    | (go_at_call 7; (refine H1.out.mono ?_); rintro e w1 ⟨rfl, hD, hF⟩)
    | go_in)
  have l1 := hD.lt
  have HF1 := Lib.hid (hF.below (B := w.heap.size) (Nat.le_refl _) (by simp))
  have HO := Lib.hid (open_four hD)
  clear hD hF l1
  go_upto_region 5 with (first
    | (go_at_call 9; (refine HO.out.mono ?_); rintro e w2 ⟨q, A, c, v, rfl, hq, hL, hF2⟩)
    | go_in)
  have HB2 := Lib.hid (HF1.out.trans (hF2.below HF1.out.size (by simp)))
  have ha := append_new hL five (n := 5) rfl (by omega) ⟨by decide, by decide, by decide, by omega⟩ (5, 6)
  have e1 : (appR lg0 (DM.new 4) five).1 = 0 := lg_facts.2.2.1
  rw [e1] at ha
  have HA := Lib.hid ha
  have HL := Lib.hid (And.intro hL hq)
  clear ha hL hF2 hq e1
  obtain ⟨M1, hM1⟩ : ∃ M1, M1 = lgR.2.1 := ⟨_, rfl⟩
  obtain ⟨L1, hL1⟩ : ∃ L1, L1 = lgR.2.2 := ⟨_, rfl⟩
  have hA2 : ∀ w3 v3, Logged w2 w3 (q + 1) q (w.heap.size + 2) w.heap.size (w.heap.size + 1) (4097 + 70) v3 M1 L1 → Logged w2 w3 (q + 1) q (w.heap.size + 2) w.heap.size (w.heap.size + 1) (4097 + 70) v3 M1 L1 := fun _ _ h => h
  clear hA2
  have hap2 := fun (w3 : World) (v3 : Value) (h : LogD w3 (q + 1) q (w.heap.size + 2) w.heap.size (w.heap.size + 1) (4097 + 70) lgR.2.2 v3 lgR.2.1) => append_new h (List.replicate 65 0) (n := 65) rfl (by omega) ⟨by rw [lg_fit.1]; omega, by rw [lg_facts.2.2.2.1]; omega, by rw [lg_fit.2]; omega, by omega⟩ (0, 0)
  rw [lg_facts2.1] at hap2
  have HAP2 := Lib.hid hap2
  have HMK := Lib.hid make65
  have hcv := conv_five w2
  clear hap2 hM1 hL1 M1 L1
  go_wp2_with (first
    | (go_at_call 11; (refine HA.out.mono ?_); rintro e w3 ⟨rfl, v3, hL3, hf3⟩; have hst := stepsM hL3.disk; rw [show (appR lg0 (DM.new 4) five).2.1.steps = 4 from lg_facts.2.2.2.1] at hst; have HST := Lib.hid hst; have HL3 := Lib.hid (And.intro hL3 hf3); clear hL3 hf3 hst; have hmk := HMK.out w3; clear HA)
    | (go_at_call 35; (refine HST.out.mono ?_); rintro e w4 ⟨rfl, rfl⟩)
    | (go_at_call 11; (refine (HAP2.out _ _ HL3.out.1).mono ?_); rintro e w5 ⟨rfl, v5, hL5, hf5⟩; have hrm := room_any hL5.log; have HRM := Lib.hid hrm; have HL5 := Lib.hid (And.intro hL5 hf5); clear hL5 hf5 hrm)
    | (go_at_call 25; (refine HRM.out.mono ?_); rw [lg_facts2.2.1]; rintro e w6 ⟨rfl, hb6⟩; have hnx := next_any (HL5.out.1.log.kept hb6); rw [lg_facts2.2.2] at hnx; have HNX := Lib.hid hnx; have HB6 := Lib.hid hb6; clear hnx hb6)
    | (go_at_call 24; (refine HNX.out.mono ?_); rintro e w7 ⟨rfl, rfl⟩)
    | go_in)
  go_ret
  refine ⟨rfl, ?_⟩
  have hq := HL.out.2
  have z1 := HF1.out.size
  have z2 := HB2.out.size
  have hp := HL.out.1.low
  have own3 : ∀ (W : World) (v' : Value) (T' : Nat) (L' : LG) (M' : DM), LogD W (q + 1) q (w.heap.size + 2) w.heap.size (w.heap.size + 1) T' L' v' M' → ∀ x ∈ [w.heap.size + 2, w.heap.size, w.heap.size + 1, q] ++ v'.ownBlock.toList, w.heap.size ≤ x := fun W v' T' L' M' h x hx => by
    rcases List.mem_append.1 hx with h1 | h1
    · simp at h1; omega
    · have := own_ge h.log.row x h1; omega
  have b3 := HL3.out.2.below (B := w.heap.size) z2 (own3 _ _ _ _ _ HL.out.1)
  have b5 := HL5.out.2.below (B := w.heap.size) (Nat.le_trans z2 HL3.out.2.size) (own3 _ _ _ _ _ HL3.out.1)
  exact HB2.out.trans (b3.trans (b5.trans (lower' HB6.out (Nat.le_trans z2 (Nat.le_trans HL3.out.2.size HL5.out.2.size)))))
end Go.Proofs.Ytdjcpjfomgfjlaa
