/- Joined: ByZ LogQ LogR. -/
import Derived.Test.YtajakmfloeefpaaJnD
import Derived.Lib.SlBytesConst
import Derived.Test.YtajakmfloeefpaaJnJ
/- Rows of bytes that are made, and five. -/
namespace Go.Proofs.Ytajakmfloeefpaa
open Go.RowKit Go.Maps

theorem makeBytes (n : Nat) (hn : n ≤ 8192) (w : World) : (Instr.makeSlice 45 (.int .i64 (n : Int)) (.int .i64 (n : Int))).run Try.prog w = .ok (.slice (some ⟨w.heap.size, 0, none⟩) n n) (w.alloc (.cells (u8s (List.replicate n 0)).toArray 5)) := by
  have h := run_make_row' (P := Try.prog) 45 5 (.int .u8 0) 1 Try.underlying45 infoU8 rfl .i64 .i64 n (by omega) (by omega) w
  have e : madeCells #[Value.int .u8 0] n = (u8s (List.replicate n 0)).toArray := by
    apply Array.toList_inj.1
    rw [toList_madeCells_one]
    simp [u8s]
  rw [e] at h
  exact h
theorem make65 (w : World) : (Instr.makeSlice 45 (.int .i64 65) (.int .i64 65)).run Try.prog w = .ok (.slice (some ⟨w.heap.size, 0, none⟩) 65 65) (w.alloc (.cells (u8s (List.replicate 65 0)).toArray 5)) := makeBytes 65 (by omega) w
theorem conv_five (w : World) : (convert 45 45 (.slice (some ⟨w.heap.size, 0, none⟩) 5 5)).run Try.prog (w.alloc (.cells #[.int .u8 102, .int .u8 105, .int .u8 118, .int .u8 101, .int .u8 33] 5)) = .ok (.slice (some ⟨w.heap.size, 0, none⟩) 5 5) (w.alloc (.cells #[.int .u8 102, .int .u8 105, .int .u8 118, .int .u8 101, .int .u8 33] 5 (5, 6))) :=
  Lib.run_convert_bytes_const w 45 5 #[.int .u8 102, .int .u8 105, .int .u8 118, .int .u8 101, .int .u8 33] 5 5 Try.underlying45 Try.underlying5
def five : List UInt8 := [102, 105, 118, 101, 33]
end Go.Proofs.Ytajakmfloeefpaa
/- The law's awake (layer 4). -/
namespace Go.Proofs.Ytajakmfloeefpaa
open Go.RowKit Go.Maps

theorem append_new {w : World} {base q p bs bw T : Nat} {L : LG} {v : Value} {M : DM} (h : LogD w base q p bs bw T L v M) (d : List UInt8) {n : Nat} (hn : d.length = n) (hm : n ≤ 100000) (hfit : Fit M T 70) (fr : Nat × Nat) :
    Calls Try.prog 9 #[.pointer (some ⟨q, 0, none⟩), .slice (some ⟨w.heap.size, 0, none⟩) n n] (w.alloc (.cells (u8s d).toArray 5 fr)) fun e w' => e = .returned (.int .i64 (appR L M d).1) ∧ Logged w w' base q p bs bw (T + 70) v (appR L M d).2.1 (appR L M d).2.2 := by
  subst hn
  have hb : Below w.heap.size w (w.alloc (.cells (u8s d).toArray 5 fr)) := (Below.refl _ _).alloc (Nat.le_refl _) _
  have hl := h.low
  have ha := h.ap
  refine (append_any (h.kept hb) (some ⟨w.heap.size, 0, none⟩) d d.length (w.heap.size + 1) (Rd.new w (u8s d).toArray 5 fr) (by simp) (fun _ a ha' => by cases ha'; have := ha.lp; have := ha.ls; have := ha.lw; show w.heap.size ≠ p ∧ w.heap.size ≠ bs ∧ w.heap.size ≠ bw; omega) (Nat.le_refl _) (by omega) hfit).mono ?_
  rintro e w' ⟨rfl, v', h1, h2⟩
  exact ⟨rfl, v', h1, (Fr.of_below hb _).trans h2⟩
def lg0 : LG := LG.of 0 4 []
def lgR : Int × DM × LG := appR lg0 (DM.new 4) five
theorem lg_facts : scan (DM.new 4).get 4 0 none = [] ∧ openOps (DM.new 4) 0 4 = [] ∧ lgR.1 = 0 ∧ lgR.2.1.steps = 4 ∧ lgR.2.2.room = 64 ∧ lgR.2.2.next = 2 := by decide +kernel
theorem lg_facts2 : (appR lgR.2.2 lgR.2.1 (List.replicate 65 0)).1 = 5 ∧ (appR lgR.2.2 lgR.2.1 (List.replicate 65 0)).2.2.room = 64 ∧ (appR lgR.2.2 lgR.2.1 (List.replicate 65 0)).2.2.next = 2 := by decide +kernel
theorem lg_fit : lgR.2.1.size = 4 ∧ lgR.2.1.left = 0 := by decide +kernel
theorem open_four {w : World} {p bs bw : Nat} (hD : DiskM w p bs bw (DM.new 4) 0) :
    Calls Try.prog 7 #[.pointer (some ⟨p, 0, none⟩), .int .i64 0, .int .i64 4] w fun e w' => ∃ q A c v, e = .returned (.tuple #[.pointer (some ⟨q, 0, none⟩), .slice A 0 c, .int .i64 0]) ∧ w.heap.size ≤ q ∧ LogD w' (q + 1) q p bs bw 4097 lg0 v (DM.new 4) ∧ Fr w w' [p, bs, bw] := by
  refine (open_any hD 0 4 (by omega) (by show 0 + 4 ≤ 4; omega) ⟨by decide, by decide, by decide, by omega⟩).mono ?_
  rintro e w' ⟨h1, _, h3⟩
  rw [lg_facts.2.1] at h1
  obtain ⟨q, u, v, rfl, h4, h5, h6⟩ := h1 rfl
  rw [lg_facts.1] at h5 h6
  obtain ⟨R, hR1, hR2, _⟩ := h5.ex
  have hR : R = [] := by cases R with
    | nil => rfl
    | cons a b => simp at hR1
  subst hR
  obtain ⟨A, c, rfl, _, _, _⟩ := own_shape hR2
  refine ⟨q, A, c, v, rfl, h4, ?_, h3⟩
  have h7 := h6
  rw [Nat.zero_add] at h7
  exact h7
set_option maxRecDepth 100000 in
set_option maxHeartbeats 2000000 in
theorem logAwake_any (w : World) : Calls Try.prog 4 #[] w fun e w' => e = .returned (.bool true) ∧ Below w.heap.size w w' := by
  have H1 := Lib.hid (newM 4 w (by omega) (by omega))
  go_enter Try.func4, Try.ntmps4
  go_upto_region 4 with (first
    | (go_at_call 5; (refine H1.out.mono ?_); rintro e w1 ⟨rfl, hD, hF⟩)
    | go_in)
  have l1 := hD.lt
  have HF1 := Lib.hid (hF.below (B := w.heap.size) (Nat.le_refl _) (by simp))
  have HO := Lib.hid (open_four hD)
  clear hD hF l1
  go_upto_region 5 with (first
    | (go_at_call 7; (refine HO.out.mono ?_); rintro e w2 ⟨q, A, c, v, rfl, hq, hL, hF2⟩)
    | go_in)
  have HB2 := Lib.hid (HF1.out.trans (hF2.below HF1.out.size (by simp)))
  have ha := append_new hL five (n := 5) rfl (by omega) ⟨by decide, by decide, by decide, by omega⟩ (5, 6)
  have e1 : (appR lg0 (DM.new 4) five).1 = 0 := lg_facts.2.2.1
  rw [e1] at ha
  have HA := Lib.hid ha
  have HL := Lib.hid (And.intro hL hq)
  clear ha hL hF2 hq e1
  obtain ⟨M1, hM1⟩ : ∃ M1, M1 = lgR.2.1 := ⟨_, rfl⟩
  obtain ⟨L1, hL1⟩ : ∃ L1, L1 = lgR.2.2 := ⟨_, rfl⟩
  have hA2 : ∀ w3 v3, Logged w2 w3 (q + 1) q (w.heap.size + 2) w.heap.size (w.heap.size + 1) (4097 + 70) v3 M1 L1 → Logged w2 w3 (q + 1) q (w.heap.size + 2) w.heap.size (w.heap.size + 1) (4097 + 70) v3 M1 L1 := fun _ _ h => h
  clear hA2
  have hap2 := fun (w3 : World) (v3 : Value) (h : LogD w3 (q + 1) q (w.heap.size + 2) w.heap.size (w.heap.size + 1) (4097 + 70) lgR.2.2 v3 lgR.2.1) => append_new h (List.replicate 65 0) (n := 65) rfl (by omega) ⟨by rw [lg_fit.1]; omega, by rw [lg_facts.2.2.2.1]; omega, by rw [lg_fit.2]; omega, by omega⟩ (0, 0)
  rw [lg_facts2.1] at hap2
  have HAP2 := Lib.hid hap2
  have HMK := Lib.hid make65
  have hcv := conv_five w2
  clear hap2 hM1 hL1 M1 L1
  go_wp2_with (first
    | (go_at_call 9; (refine HA.out.mono ?_); rintro e w3 ⟨rfl, v3, hL3, hf3⟩; have hst := stepsM hL3.disk; rw [show (appR lg0 (DM.new 4) five).2.1.steps = 4 from lg_facts.2.2.2.1] at hst; have HST := Lib.hid hst; have HL3 := Lib.hid (And.intro hL3 hf3); clear hL3 hf3 hst; have hmk := HMK.out w3; clear HA)
    | (go_at_call 25; (refine HST.out.mono ?_); rintro e w4 ⟨rfl, rfl⟩)
    | (go_at_call 9; (refine (HAP2.out _ _ HL3.out.1).mono ?_); rintro e w5 ⟨rfl, v5, hL5, hf5⟩; have hrm := room_any hL5.log; have HRM := Lib.hid hrm; have HL5 := Lib.hid (And.intro hL5 hf5); clear hL5 hf5 hrm)
    | (go_at_call 23; (refine HRM.out.mono ?_); rw [lg_facts2.2.1]; rintro e w6 ⟨rfl, hb6⟩; have hnx := next_any (HL5.out.1.log.kept hb6); rw [lg_facts2.2.2] at hnx; have HNX := Lib.hid hnx; have HB6 := Lib.hid hb6; clear hnx hb6)
    | (go_at_call 22; (refine HNX.out.mono ?_); rintro e w7 ⟨rfl, rfl⟩)
    | go_in)
  go_ret
  refine ⟨rfl, ?_⟩
  have hq := HL.out.2
  have z1 := HF1.out.size
  have z2 := HB2.out.size
  have hp := HL.out.1.low
  have own3 : ∀ (W : World) (v' : Value) (T' : Nat) (L' : LG) (M' : DM), LogD W (q + 1) q (w.heap.size + 2) w.heap.size (w.heap.size + 1) T' L' v' M' → ∀ x ∈ [w.heap.size + 2, w.heap.size, w.heap.size + 1, q] ++ v'.ownBlock.toList, w.heap.size ≤ x := fun W v' T' L' M' h x hx => by
    rcases List.mem_append.1 hx with h1 | h1
    · simp at h1; omega
    · have := own_ge h.log.row x h1; omega
  have b3 := HL3.out.2.below (B := w.heap.size) z2 (own3 _ _ _ _ _ HL.out.1)
  have b5 := HL5.out.2.below (B := w.heap.size) (Nat.le_trans z2 HL3.out.2.size) (own3 _ _ _ _ _ HL3.out.1)
  exact HB2.out.trans (b3.trans (b5.trans (lower' HB6.out (Nat.le_trans z2 (Nat.le_trans HL3.out.2.size HL5.out.2.size)))))
end Go.Proofs.Ytajakmfloeefpaa
/- log.Reset. -/
namespace Go.Proofs.Ytajakmfloeefpaa
open Go.RowKit Go.Maps

/-- What a Reset does. -/
def rstR (L : LG) (M : DM) (n : Int) : Int × DM × LG :=
  if n < 1 ∨ 4611686018427387904 < n then (1, M, L)
  else if (runOps (rstOps L.first L.recs) M).1 = 0 then (0, (runOps (rstOps L.first L.recs) M).2, LG.mk L.first L.behind [] n.toNat)
  else (30, (runOps (rstOps L.first L.recs) M).2, L)
theorem rst_ok {L : LG} {n : Int} (h : L.Ok) (hn : ¬ (n < 1 ∨ 4611686018427387904 < n)) : (LG.mk L.first L.behind [] n.toNat).Ok := by
  have h1 := h.first
  exact ⟨h1, h.behind, by show L.first ≤ L.behind; omega, by show 1 ≤ n.toNat; omega, by show n.toNat ≤ _; omega⟩
theorem Rd.frA {w w' : World} {B : Nat} {A : Option Addr} {xs : List Value} {S : List Nat} (h : Rd w B A xs) (hf : Fr w w' S) (hA : ∀ a, A = some a → a.block ∉ S) : Rd w' B A xs := fun hn => by
  obtain ⟨b, o, e, hb, hc⟩ := h hn
  refine ⟨b, o, e, hb, fun j u hj => ?_⟩
  have h1 := hc j u hj
  have hbl : b < w.heap.size := World.block_lt_of_cell? w _ h1
  exact (World.cell?_of_block (hf.block b hbl (hA _ e))).trans h1
def rstW (w : World) (q first : Nat) (n : Int) : World := ((w.setCell ⟨q, 5, none⟩ (.slice none 0 0)).setCell ⟨q, 3, none⟩ (.int .i64 (first : Int))).setCell ⟨q, 4, none⟩ (.int .i64 n)
theorem rst_fin {w : World} {base q p bs bw T : Nat} {L : LG} {v : Value} {M : DM} {n : Int} (h : LogD w base q p bs bw T L v M) (hn : ¬ (n < 1 ∨ 4611686018427387904 < n)) :
    LogD (rstW w q L.first n) base q p bs bw T (LG.mk L.first L.behind [] n.toNat) (.slice none 0 0) M ∧ Fr w (rstW w q L.first n) [q] := by
  have hblk := h.log.blk
  unfold LG.cells at hblk
  have h1 := heap_setCell_same w q 5 _ _ (.slice none 0 0) hblk
  have h2 := heap_setCell_same _ q 3 _ _ (.int .i64 (L.first : Int)) h1
  have h3 := heap_setCell_same _ q 4 _ _ (.int .i64 n) h2
  have hf : Fr w (rstW w q L.first n) [q] := (((Fr.refl _ _).setCell (by simp) _).setCell (by simp) _).setCell (by simp) _
  have hnn : ((n.toNat : Nat) : Int) = n := by omega
  refine ⟨h.added ⟨?_, World.ownsRow_nil _ _ 106 2, h.log.lt, rst_ok h.log.ok hn⟩ (hf.mono (by intro x hx; simp at hx; simp [hx])) rfl, hf⟩
  unfold LG.cells
  show (rstW w q L.first n).heap[q]? = some (.cells #[.pointer (some ⟨p, 0, none⟩), .int .i64 (L.first : Int), .int .i64 (L.behind : Int), .int .i64 (L.first : Int), .int .i64 ((n.toNat : Nat) : Int), .slice none 0 0] _ (0, 0))
  rw [hnn]
  unfold rstW
  simpa using h3
set_option maxRecDepth 100000 in
set_option maxHeartbeats 2000000 in
theorem reset_any {w : World} {base q p bs bw T : Nat} {L : LG} {v : Value} {M : DM} (h : LogD w base q p bs bw T L v M) (n : Int) (hfit : Fit M T 4100) :
    Calls Try.prog 11 #[.pointer (some ⟨q, 0, none⟩), .int .i64 n] w fun e w' => e = .returned (.int .i64 (rstR L M n).1) ∧ Logged w w' base q p bs bw (T + 4100) v (rstR L M n).2.1 (rstR L M n).2.2 := by
  by_cases hn : n < 1 ∨ 4611686018427387904 < n
  · have e0 : rstR L M n = (1, M, L) := if_pos hn
    rw [e0]
    have HX := Lib.hid (And.intro h hfit)
    clear e0 h hfit
    have hn' : n < 1 ∨ (¬ n < 1 ∧ 4611686018427387904 < n) := by omega
    clear hn
    rcases hn' with n1 | ⟨n1, n2⟩
    all_goals
      go_enter Try.func11, Try.ntmps11
      go_wp2_with go_in
      go_ret
      exact ⟨rfl, v, HX.out.1.mono (Nat.le_add_right _ _), Fr.refl _ _⟩
  · have n1 : ¬ n < 1 := by omega
    have n2 : ¬ 4611686018427387904 < n := by omega
    have hblk := h.log.blk
    unfold LG.cells at hblk
    have a5 := cell_of_row w q 5 _ _ _ hblk
    have a1 := cell_of_row w q 1 _ _ _ hblk
    have a3 := cell_of_row w q 3 _ _ _ hblk
    have a4 := cell_of_row w q 4 _ _ _ hblk
    by_cases h0 : L.recs = []
    · have e0 : rstR L M n = (0, M, LG.mk L.first L.behind [] n.toNat) := by
        unfold rstR rstOps
        rw [if_neg hn, if_pos h0]
        rfl
      rw [e0]
      obtain ⟨Ap, cp, rfl, _, _, _⟩ := own_shape h.log.row
      have hl0 : decide (0 < L.recs.length) = false := by rw [h0]; rfl
      have hl1 : ¬ (0 : Int) < (L.recs.length : Int) := by rw [h0]; simp
      have f3 := frozen_of_row w q 3 _ _ hblk
      have f4 := frozen_of_row w q 4 _ _ hblk
      have f5 := frozen_of_row w q 5 _ _ hblk
      have HX := Lib.hid (And.intro h (And.intro hfit (And.intro hblk hn)))
      clear e0 h hfit h0 hn hblk
      go_enter Try.func11, Try.ntmps11
      go_wp2_with go_in
      go_ret
      have hr := rst_fin HX.out.1 HX.out.2.2.2
      exact ⟨rfl, _, hr.1.mono (Nat.le_add_right _ _), hr.2.mono (by intro x hx; simp at hx; simp [hx])⟩
    · have hend : endR L.first L.recs ≤ 4096 := Nat.le_trans h.log.ok.endd h.log.ok.behind
      have hlen : L.recs.length ≤ 4096 := by have := endR_le L.first L.recs; omega
      have hl0 : decide (0 < L.recs.length) = true := decide_eq_true (List.length_pos_iff.2 h0)
      have hl1 : (0 : Int) < (L.recs.length : Int) := by have := List.length_pos_iff.2 h0; omega
      obtain ⟨Ap, cp, rfl, _, _, _⟩ := own_shape h.log.row
      have hhd := heads_any h.log hlen
      have hHl := heads_len L.first L.recs
      have hOl := others_len L.recs L.first
      have hHs : ∀ i ∈ heads L.first L.recs, i < M.size := fun i hi => by have h1 := heads_ge hi; have h2 := h.log.ok.endd; have h3 := h.fits; unfold LG.endd at h2; omega
      have hOs : ∀ i ∈ others L.first L.recs, i < M.size := fun i hi => by have h1 := others_ge hi; have h2 := h.log.ok.endd; have h3 := h.fits; unfold LG.endd at h2; omega
      have hops : rstOps L.first L.recs = wipeOps (heads L.first L.recs) ++ wipeOps (others L.first L.recs) := if_neg h0
      obtain ⟨H, hH⟩ : ∃ H, H = heads L.first L.recs := ⟨_, rfl⟩
      obtain ⟨O, hO⟩ : ∃ O, O = others L.first L.recs := ⟨_, rfl⟩
      rw [← hH] at hhd hHl hHs hops
      rw [← hO] at hOl hOs hops
      have HHO := Lib.hid (And.intro hHl (And.intro hOl (And.intro hHs (And.intro hOs (And.intro hops (And.intro hO (And.intro hend hlen)))))))
      clear hHl hOl hHs hOs hops hH
      have HH := Lib.hid hhd
      have HX := Lib.hid (And.intro h (And.intro hfit (And.intro hn h0)))
      clear h hfit hn h0 hblk hhd hend hlen a1 a3 a4 hO
      go_enter Try.func11, Try.ntmps11
      go_upto_region 5 with (first
        | (go_at_call 40; (with_reducible refine HH.out.mono ?_); rintro e w1 ⟨v1, rfl, hr1, hb1⟩; have ho := others_any (HX.out.1.kept hb1).log; rw [← HHO.out.2.2.2.2.2.1] at ho; have HO := Lib.hid ho; clear ho; obtain ⟨A1, c1, rfl, _, _, _⟩ := own_shape hr1; have HR1 := Lib.hid (And.intro hr1 hb1); clear hr1 hb1)
        | (go_at_call 41; (with_reducible refine HO.out.mono ?_); rintro e w2 ⟨v2, rfl, hr2, hb2⟩; obtain ⟨A2, c2, rfl, _, _, _⟩ := own_shape hr2; have HR2 := Lib.hid (And.intro hr2 hb2); clear hr2 hb2)
        | go_in)
      have hx := HX.out
      have hz1 := HR1.out.2.size
      have hz2 := HR2.out.2.size
      have hlt := hx.1.disk.lt
      have hW3 : Below w2.heap.size w2 (w2.alloc (.cells #[.slice A1 H.length c1, .slice A2 O.length c2] 70)) := (Below.refl _ _).alloc (Nat.le_refl _) _
      have g3 := heap_alloc_new w2 (.cells #[.slice A1 H.length c1, .slice A2 O.length c2] 70)
      generalize w2.alloc (.cells #[.slice A1 H.length c1, .slice A2 O.length c2] 70) = W3 at hW3 g3 ⊢
      have hb3 : Below w.heap.size w W3 := (HR1.out.2.trans (lower' HR2.out.2 hz1)).trans (lower' hW3 (by omega))
      have hL3 := hx.1.kept hb3
      have hR1 : Rd W3 w1.heap.size A1 (ints H) := ((Rd.ofOwn HR1.out.1).below HR2.out.2 (Nat.le_refl _)).below hW3 hz2
      have hR2 : Rd W3 w2.heap.size A2 (ints O) := (Rd.ofOwn HR2.out.1).below hW3 (Nat.le_refl _)
      have hA1 : ∀ a, A1 = some a → w.heap.size ≤ a.block := fun a ha => own_ge HR1.out.1 a.block (by rw [ha]; simp [Value.ownBlock])
      have hA2 : ∀ a, A2 = some a → w1.heap.size ≤ a.block := fun a ha => own_ge HR2.out.1 a.block (by rw [ha]; simp [Value.ownBlock])
      have hw1 : ∀ (wr : World) (M' : DM) (T' : Nat), Fr W3 wr [p, bs, bw] → DiskM wr p bs bw M' T' → M'.size = M.size → Fit M' T' (H.length + 1) →
          Calls Try.prog 31 #[.pointer (some ⟨q, 0, none⟩), .slice A1 H.length c1] wr fun e w' => Ran wr w' p bs bw T' M' (wipeOps H) e := fun wr M' T' hf hD hs hfit =>
        wipe_any (hx.1.ap.fr hL3.log hf) hD A1 H c1 w1.heap.size (hR1.frA hf (fun a ha => by have := hA1 a ha; simp; omega)) (fun a ha => by have := hA1 a ha; omega) ⟨hx.1.ap.qp, hx.1.ap.qs, hx.1.ap.qw⟩ (fun i hi => by rw [hs]; exact HHO.out.2.2.1 i hi) (by have := HHO.out; omega) hfit
      have hw2 : ∀ (wr : World) (M' : DM) (T' : Nat), Fr W3 wr [p, bs, bw] → DiskM wr p bs bw M' T' → M'.size = M.size → Fit M' T' (O.length + 1) →
          Calls Try.prog 31 #[.pointer (some ⟨q, 0, none⟩), .slice A2 O.length c2] wr fun e w' => Ran wr w' p bs bw T' M' (wipeOps O) e := fun wr M' T' hf hD hs hfit =>
        wipe_any (hx.1.ap.fr hL3.log hf) hD A2 O c2 w2.heap.size (hR2.frA hf (fun a ha => by have := hA2 a ha; simp; omega)) (fun a ha => by have := hA2 a ha; omega) ⟨hx.1.ap.qp, hx.1.ap.qs, hx.1.ap.qw⟩ (fun i hi => by rw [hs]; exact HHO.out.2.2.2.1 i hi) (by have := HHO.out; omega) hfit
      obtain ⟨M1, hM1⟩ : ∃ M1, M1 = (runOps (wipeOps H) M).2 := ⟨_, rfl⟩
      obtain ⟨M2, hM2⟩ : ∃ M2, M2 = (runOps (wipeOps O) M1).2 := ⟨_, rfl⟩
      have hf1 := runOps_facts (wipeOps H) M
      have hf2 := runOps_facts (wipeOps O) M1
      have hl1' : (wipeOps H).length = H.length + 1 := by simp [wipeOps, zeroOps]
      have hl2' : (wipeOps O).length = O.length + 1 := by simp [wipeOps, zeroOps]
      rw [hl1'] at hf1
      rw [hl2'] at hf2
      have hHO := HHO.out
      have fitH : Fit M T (H.length + 1) := hx.2.1.less (by omega)
      have fitO : Fit M1 (T + (wipeOps H).length) (O.length + 1) := by
        rw [hl1', hM1]
        exact ⟨by rw [hf1.1]; exact hx.2.1.size, by have := hf1.2.1; have := hx.2.1.steps; omega, by have := hf1.2.2.1; have := hx.2.1.left; omega, by have := hx.2.1.T; omega⟩
      have hrow0 : ∀ wr, Fr W3 wr [p, bs, bw] → wr.heap[w2.heap.size]? = some (.cells #[.slice A1 H.length c1, .slice A2 O.length c2] 70 (0, 0)) := fun wr hf => (hf.block _ (heap_lt g3) (by simp; omega)).trans g3
      have hw3 : Fr w W3 ([p, bs, bw, q] ++ (Value.slice Ap L.recs.length cp).ownBlock.toList) := Fr.of_below hb3 _
      have hfinL : ∀ (w' : World) (M' : DM) (T' : Nat), Fr W3 w' [p, bs, bw] → DiskM w' p bs bw M' T' → M'.size = M.size → T' ≤ T + 4100 → LogD w' base q p bs bw (T + 4100) L (.slice Ap L.recs.length cp) M' := fun w' M' T' hf hd hs hT =>
        ⟨hL3.ap.fr hL3.log hf, hd.mono hT, hL3.ap, Nat.le_trans hL3.low hf.size, by rw [hs]; exact hL3.fits, by rw [hs]; exact hL3.size⟩
      have HR0 := Lib.hid hrow0
      have HFL := Lib.hid (And.intro hw3 hfinL)
      have HW1 := Lib.hid hw1
      have HW2 := Lib.hid hw2
      have HF := Lib.hid (And.intro fitH (And.intro fitO (And.intro hf1 (And.intro hf2 (And.intro hl1' hl2')))))
      have HD0 := Lib.hid hL3.disk
      clear hx hz1 hz2 hlt hW3 g3 hb3 hL3 hR1 hR2 hA1 hA2 hw1 hw2 hHO fitH fitO hrow0 hw3 hfinL hl1' hl2' hf2
      rcases hf1.2.2.2 with k1 | k1
      · have hs1 : M1.size = M.size := by rw [hM1]; exact hf1.1
        have hs2 : M2.size = M.size := by rw [hM2]; exact (HF.out.2.2.2.1.1).trans hs1
        have e1 : runOps (rstOps L.first L.recs) M = runOps (wipeOps O) M1 := by rw [HHO.out.2.2.2.2.1, runOps_append, if_pos k1, hM1]
        rcases HF.out.2.2.2.1.2.2.2 with k2 | k2
        · have e0 : rstR L M n = (0, M2, LG.mk L.first L.behind [] n.toNat) := by
            unfold rstR
            rw [if_neg HX.out.2.2.1, e1, if_pos k2, hM2]
          have HE := Lib.hid (And.intro e0 (And.intro k1 (And.intro k2 (And.intro hM1 (And.intro hM2 (And.intro hs1 hs2))))))
          clear e0 e1 k1 k2 hf1 hM1 hM2 hs1 hs2 a5 hl0 hl1
          go_wp2_with go_in
          go_loopw [26] (fun i wr => (i = .int .i64 0 ∧ Fr W3 wr [p, bs, bw] ∧ DiskM wr p bs bw M T) ∨ (i = .int .i64 1 ∧ Fr W3 wr [p, bs, bw] ∧ DiskM wr p bs bw M1 (T + (wipeOps H).length)) ∨ (i = .int .i64 2 ∧ Fr W3 wr [p, bs, bw] ∧ DiskM wr p bs bw M2 (T + (wipeOps H).length + (wipeOps O).length)))
            (fun i _ => 2 - (intOf i).toNat)
          case atStart => exact .inl ⟨rfl, Fr.refl _ _, HD0.out⟩
          case round =>
            rcases hrel with ⟨rfl, hf, hd⟩ | ⟨rfl, hf, hd⟩ | ⟨rfl, hf, hd⟩
            · have g := HR0.out wr hf
              have r0 := cell_of_row wr w2.heap.size 0 _ _ _ g
              have hc := HW1.out wr M T hf hd rfl HF.out.1
              unfold Ran at hc
              rw [HE.out.2.1, ← HE.out.2.2.2.1] at hc
              have HC := Lib.hid hc
              have HFR := Lib.hid hf
              clear hc g hd hf
              go_wp2_with (first
                | (go_at_call 31; (with_reducible refine HC.out.mono ?_); rintro e w5 ⟨rfl, hD5, hF5⟩; have H5 := Lib.hid (And.intro hD5 hF5); clear hD5 hF5)
                | go_in)
              exact ⟨.inr (.inl ⟨rfl, HFR.out.trans H5.out.2, H5.out.1⟩), by decide⟩
            · have g := HR0.out wr hf
              have r1 := cell_of_row wr w2.heap.size 1 _ _ _ g
              have hc := HW2.out wr M1 _ hf hd HE.out.2.2.2.2.2.1 HF.out.2.1
              unfold Ran at hc
              rw [HE.out.2.2.1, ← HE.out.2.2.2.2.1] at hc
              have HC := Lib.hid hc
              have HFR := Lib.hid hf
              clear hc g hd hf
              go_wp2_with (first
                | (go_at_call 31; (with_reducible refine HC.out.mono ?_); rintro e w5 ⟨rfl, hD5, hF5⟩; have H5 := Lib.hid (And.intro hD5 hF5); clear hD5 hF5)
                | go_in)
              exact ⟨.inr (.inr ⟨rfl, HFR.out.trans H5.out.2, H5.out.1⟩), by decide⟩
            · have hld := HFL.out.2 wr _ _ hf hd HE.out.2.2.2.2.2.2 (by have := HF.out.2.2.2.2; have := HHO.out; omega)
              have hblk := hld.log.blk
              unfold LG.cells at hblk
              have a1 := cell_of_row wr q 1 _ _ _ hblk
              have a3 := cell_of_row wr q 3 _ _ _ hblk
              have a4 := cell_of_row wr q 4 _ _ _ hblk
              have a5 := cell_of_row wr q 5 _ _ _ hblk
              have f3 := frozen_of_row wr q 3 _ _ hblk
              have f4 := frozen_of_row wr q 4 _ _ hblk
              have f5 := frozen_of_row wr q 5 _ _ hblk
              have HLD := Lib.hid (And.intro hld hf)
              clear hld hblk hf hd
              go_wp2_with go_in
              go_ret
              rw [HE.out.1]
              have hr := rst_fin HLD.out.1 HX.out.2.2.1
              exact ⟨rfl, _, hr.1, (HFL.out.1.trans (HLD.out.2.mono (by intro x hx; simp at hx; simp; omega))).trans (hr.2.mono (by intro x hx; simp at hx; simp [hx]))⟩
        · have e0 : rstR L M n = (30, M2, L) := by
            unfold rstR
            rw [if_neg HX.out.2.2.1, e1, if_neg (by rw [k2]; decide), hM2]
          have HE := Lib.hid (And.intro e0 (And.intro k1 (And.intro k2 (And.intro hM1 (And.intro hM2 (And.intro hs1 hs2))))))
          clear e0 e1 k1 k2 hf1 hM1 hM2 hs1 hs2 a5 hl0 hl1
          go_wp2_with go_in
          go_loopw [26] (fun i wr => (i = .int .i64 0 ∧ Fr W3 wr [p, bs, bw] ∧ DiskM wr p bs bw M T) ∨ (i = .int .i64 1 ∧ Fr W3 wr [p, bs, bw] ∧ DiskM wr p bs bw M1 (T + (wipeOps H).length)))
            (fun i _ => 2 - (intOf i).toNat)
          case atStart => exact .inl ⟨rfl, Fr.refl _ _, HD0.out⟩
          case round =>
            rcases hrel with ⟨rfl, hf, hd⟩ | ⟨rfl, hf, hd⟩
            · have g := HR0.out wr hf
              have r0 := cell_of_row wr w2.heap.size 0 _ _ _ g
              have hc := HW1.out wr M T hf hd rfl HF.out.1
              unfold Ran at hc
              rw [HE.out.2.1, ← HE.out.2.2.2.1] at hc
              have HC := Lib.hid hc
              have HFR := Lib.hid hf
              clear hc g hd hf
              go_wp2_with (first
                | (go_at_call 31; (with_reducible refine HC.out.mono ?_); rintro e w5 ⟨rfl, hD5, hF5⟩; have H5 := Lib.hid (And.intro hD5 hF5); clear hD5 hF5)
                | go_in)
              exact ⟨.inr ⟨rfl, HFR.out.trans H5.out.2, H5.out.1⟩, by decide⟩
            · have g := HR0.out wr hf
              have r1 := cell_of_row wr w2.heap.size 1 _ _ _ g
              have hc := HW2.out wr M1 _ hf hd HE.out.2.2.2.2.2.1 HF.out.2.1
              unfold Ran at hc
              rw [HE.out.2.2.1, ← HE.out.2.2.2.2.1] at hc
              have HC := Lib.hid hc
              have HFR := Lib.hid hf
              clear hc g hd hf
              go_wp2_with (first
                | (go_at_call 31; (with_reducible refine HC.out.mono ?_); rintro e w5 ⟨rfl, hD5, hF5⟩; have H5 := Lib.hid (And.intro hD5 hF5); clear hD5 hF5)
                | go_in)
              go_ret
              rw [HE.out.1]
              have hfr := HFR.out.trans H5.out.2
              exact ⟨rfl, _, HFL.out.2 w5 _ _ hfr H5.out.1 HE.out.2.2.2.2.2.2 (by have := HF.out.2.2.2.2; have := HHO.out; omega), HFL.out.1.trans (hfr.mono (by intro x hx; simp at hx; simp; omega))⟩
      · have e0 : rstR L M n = (30, M1, L) := by
          have e1 : runOps (rstOps L.first L.recs) M = runOps (wipeOps H) M := by rw [HHO.out.2.2.2.2.1, runOps_append, if_neg (by rw [k1]; decide)]
          unfold rstR
          rw [if_neg HX.out.2.2.1, e1, if_neg (by rw [k1]; decide), hM1]
        have hs1 : M1.size = M.size := by rw [hM1]; exact hf1.1
        have HE := Lib.hid (And.intro e0 (And.intro k1 (And.intro hM1 hs1)))
        clear e0 k1 hf1 hM1 hM2 a5 hl0 hl1
        go_wp2_with go_in
        go_loopw [26] (fun i wr => i = .int .i64 0 ∧ Fr W3 wr [p, bs, bw] ∧ DiskM wr p bs bw M T)
          (fun i _ => 2 - (intOf i).toNat)
        case atStart => exact ⟨rfl, Fr.refl _ _, HD0.out⟩
        case round =>
          obtain ⟨rfl, hf, hd⟩ := hrel
          have g := HR0.out wr hf
          have r0 := cell_of_row wr w2.heap.size 0 _ _ _ g
          have hc := HW1.out wr M T hf hd rfl HF.out.1
          unfold Ran at hc
          rw [HE.out.2.1, ← HE.out.2.2.1] at hc
          have HC := Lib.hid hc
          have HFR := Lib.hid hf
          clear hc g hd hf
          go_wp2_with (first
            | (go_at_call 31; (with_reducible refine HC.out.mono ?_); rintro e w5 ⟨rfl, hD5, hF5⟩; have H5 := Lib.hid (And.intro hD5 hF5); clear hD5 hF5)
            | go_in)
          go_ret
          rw [HE.out.1]
          have hfr := HFR.out.trans H5.out.2
          exact ⟨rfl, _, HFL.out.2 w5 _ _ hfr H5.out.1 HE.out.2.2.2 (by have := HF.out.2.2.2.2; have := HHO.out; omega), HFL.out.1.trans (hfr.mono (by intro x hx; simp at hx; simp; omega))⟩
end Go.Proofs.Ytajakmfloeefpaa
