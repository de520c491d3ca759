/- LogReads: the walk. -/
import Derived.Test.YtdjcpjfomgfjlaaRefJ
import Derived.Test.YtdjcpjfomgfjlaaJnA
import Derived.Test.YtdjcpjfomgfjlaaLogRU
import Derived.Test.YtdjcpjfomgfjlaaLogQ
import Derived.Test.YtdjcpjfomgfjlaaOpH
import Derived.Deep.CutBlock
import Derived.Laws.IdiomStrings
import Derived.Deep.CutRange
namespace Go.Proofs.Ytdjcpjfomgfjlaa
open Go.RowKit Go.Maps

theorem and62 (x : Int) : ∃ s : Nat, s ≤ 4611686018427387903 ∧ bits BinOp.and IntKind.i64 x 4611686018427387903 = (s : Int) := by
  have h : (BitVec.ofInt 64 x &&& BitVec.ofInt 64 4611686018427387903).toNat ≤ 4611686018427387903 := by
    rw [BitVec.toNat_and]
    exact Nat.le_trans Nat.and_le_right (by decide)
  refine ⟨_, h, ?_⟩
  show IntKind.i64.wrap ((BitVec.ofInt 64 x &&& BitVec.ofInt 64 4611686018427387903).toNat : Int) = _
  rw [IntKind.wrap_i64]
  omega
theorem rem16 (n : Int) : ∃ k : Nat, k < 65536 ∧ IntKind.i64.wrap ((IntKind.u64.wrap n).tmod 65536) = (k : Int) := by
  have h2 : 0 ≤ IntKind.u64.wrap n := by
    rw [IntKind.wrap_u64]
    omega
  generalize IntKind.u64.wrap n = u at h2
  have h3 := Int.tmod_lt_of_pos u (show (0 : Int) < 65536 by omega)
  have h4 := Int.tmod_nonneg 65536 h2
  refine ⟨(u.tmod 65536).toNat, by omega, ?_⟩
  rw [IntKind.wrap_i64]
  omega
theorem tri_cells {w : World} {B : Nat} {A : Option Addr} {L : List Tri} (h : Rd w B A (tris L)) {k : Nat} (hk : k < L.length) : ∃ ab ao, A = some ⟨ab, ao, none⟩ ∧ ab < B ∧ ∀ w' : World, Below B w w' →
    w'.cell? ⟨ab, ao + k * 3, none⟩ = some (.int .i64 L[k].a) ∧ w'.cell? ⟨ab, ao + k * 3 + 1, none⟩ = some (.int .i64 L[k].b) ∧ w'.cell? ⟨ab, ao + k * 3 + 2, none⟩ = some (.int .i64 L[k].c) := by
  obtain ⟨ab, ao, e, hab, hc⟩ := h (by intro e; have := tris_len L; rw [e] at this; simp at this; omega)
  refine ⟨ab, ao, e, hab, fun w' hb => ?_⟩
  have key : ∀ j (hj : j < 3), w'.cell? ⟨ab, ao + (k * 3 + j), none⟩ = L[k].cells[j]? := fun j hj => by
    have hg := tris_get L k hk j hj
    obtain ⟨u, hu⟩ : ∃ u, L[k].cells[j]? = some u := ⟨_, List.getElem?_eq_getElem (l := L[k].cells) (i := j) (by simpa [Tri.cells] using hj)⟩
    rw [hu] at hg ⊢
    exact (hb.cell (p := ⟨ab, ao + (k * 3 + j), none⟩) hab).trans (hc _ u hg)
  exact ⟨key 0 (by omega), key 1 (by omega), key 2 (by omega)⟩
/-- Bytes of a string, made. -/
theorem conv_bytes (l : List UInt8) (w : World) : ∃ (c : Nat) (w' : World), (convert 9 45 (.string ⟨l.toArray⟩)).run Try.prog w = .ok (.slice (some ⟨w.heap.size, 0, none⟩) l.length c) w' ∧ Below w.heap.size w w' ∧ w.heap.size < w'.heap.size ∧ Rd w' w'.heap.size (some ⟨w.heap.size, 0, none⟩) (u8s l) := by
  have h := run_bytes_of_string (P := Try.prog) w 9 45 5 ⟨l.toArray⟩ Try.underlying9 Try.underlying45 Try.underlying5
  have hsz : (⟨l.toArray⟩ : ByteArray).size = l.length := by simp [ByteArray.size]
  rw [hsz] at h
  have hg := heap_alloc_new w.drew (.cells (bytesRow ⟨l.toArray⟩ (grownCap w l.length 0 5)) 5 ((bytesRow ⟨l.toArray⟩ (grownCap w l.length 0 5)).size, (bytesRow ⟨l.toArray⟩ (grownCap w l.length 0 5)).size + 1))
  refine ⟨_, _, h, (Below.refl _ _).drew.alloc (Nat.le_refl _) _, by rw [alloc1_size]; exact Nat.lt_succ_self _, fun _ => ⟨_, 0, rfl, by rw [alloc1_size]; exact Nat.lt_succ_self _, fun j u hu => ?_⟩⟩
  refine (cell_of_row _ w.drew.heap.size (0 + j) _ _ _ hg).trans ?_
  have hj : j < l.length := by have := (List.getElem?_eq_some_iff.1 hu).1; rwa [u8s_len] at this
  rw [← hu]
  simp [bytesRow, u8s, Array.getElem?_append, hj]
/-- A new disk, and the document's in a new block. -/
theorem BoxD.new {W0 w1 w2 w3 : World} {m : Nat} (h1 : 1 ≤ m) (h2 : m ≤ 40) (hz : W0.heap.size ≤ w1.heap.size) (hb2 : Below W0.heap.size W0 w2) (hD : DiskM w2 (w1.heap.size + 2) w1.heap.size (w1.heap.size + 1) (DM.new m) 0) (hb3 : Below w2.heap.size w2 w3) {A1 A2 A3 : Option Addr} {n1 n2 n3 c1 c2 c3 : Nat} {s l : Int}
    (hR : RefV w3 [w1.heap.size + 2, w1.heap.size, w1.heap.size + 1] (RD.new m) (.agg #[.slice A1 n1 c1, .slice A2 n2 c2, .slice A3 n3 c3, .int .i64 s, .int .i64 l])) :
    BoxD W0 (w3.alloc (.cells #[.slice A1 n1 c1, .slice A2 n2 c2, .slice A3 n3 c3, .int .i64 s, .int .i64 l] 33)) w3.heap.size (w1.heap.size + 2) w1.heap.size (w1.heap.size + 1) m 0 (DM.new m) (DM.new m) := by
  have ha : Below w3.heap.size w3 (w3.alloc (.cells #[.slice A1 n1 c1, .slice A2 n2 c2, .slice A3 n3 c3, .int .i64 s, .int .i64 l] 33)) := (Below.refl _ _).alloc (Nat.le_refl _) _
  have hl := hD.lt
  have z3 := hb3.size
  rw [← refOf_new] at hR
  have hR2 := (((hR.ext (Y := [w3.heap.size]) h1 (by simp)).sub (Y := [w3.heap.size, w1.heap.size + 2, w1.heap.size, w1.heap.size + 1]) (by simp)).below ha)
  have ok : (DM.new m).Ok 0 := ⟨by show m ≤ _; omega, by show 0 ≤ _; omega, by show 0 ≤ _; omega, by omega⟩
  exact ⟨⟨_, _, _, _, _, _, _, _, _, _, _, heap_alloc_new w3 _, hR2⟩, (hD.kept hb3).kept ha, ok, ok, rfl, rfl, Nat.le_refl _, Nat.le_refl _, h1, by omega, by have := hb2.size; omega, hb2.trans ((lower' hb3 hb2.size).trans (lower' ha (by have := hb2.size; omega)))⟩

set_option maxRecDepth 100000 in
set_option maxHeartbeats 4000000 in
theorem logReads_out (m n k : Int) (A : Option Addr) (rows : List RowB) (c : Nat) (A2 : Option Addr) (tr : List Tri) (c2 : Nat) (w : World) (h : m < 1 ∨ 40 < m) :
    Calls Try.prog 4 #[.agg #[.int .i64 m, .int .i64 n, .int .i64 k], .slice A rows.length c, .slice A2 tr.length c2] w fun e w' => e = .returned (.bool true) ∧ Below w.heap.size w w' := by
  have hB0 : Below w.heap.size w (w.alloc (.cells #[.int .i64 m, .int .i64 n, .int .i64 k] 23)) := (Below.refl _ _).alloc (Nat.le_refl _) _
  have g5 := heap_alloc_new w (.cells #[.int .i64 m, .int .i64 n, .int .i64 k] 23)
  have H1 := Lib.hid (fun W => logAwake_any W)
  have HB0 := Lib.hid (And.intro hB0 g5)
  have hcase : m < 1 ∨ (¬ m < 1 ∧ 40 < m) := by omega
  clear hB0 g5 h
  rcases hcase with h1 | ⟨h1, h2⟩
  all_goals
    go_enter Try.func4, Try.ntmps4
    go_upto_region 1 with go_in
    generalize w.alloc (.cells #[.int .i64 m, .int .i64 n, .int .i64 k] 23) = W0 at HB0 ⊢
    go_upto_region 2 with (first
      | (go_at_call 6; (refine (H1.out W0).mono ?_); rintro e w1 ⟨rfl, hb1⟩; have gb := (hb1.block w.heap.size (heap_lt HB0.out.2)).trans HB0.out.2; have c0 := cell_of_row w1 w.heap.size 0 _ _ _ gb; have HB1 := Lib.hid (HB0.out.1.trans (lower' hb1 HB0.out.1.size)); clear hb1 gb)
      | go_in)
    go_wp2_with (first
      | (go_at_call 6; (refine (H1.out w1).mono ?_); rintro e w2 ⟨rfl, hb2⟩; have HB2 := Lib.hid hb2; clear hb2)
      | go_in)
    go_ret
    exact ⟨rfl, HB1.out.trans (lower' HB2.out HB1.out.size)⟩

set_option maxRecDepth 100000 in
set_option maxHeartbeats 4000000 in
theorem logReads_in (m : Nat) (n k : Int) (A : Option Addr) (rows : List RowB) (c : Nat) (A2 : Option Addr) (tr : List Tri) (c2 : Nat) (w : World) (h1 : 1 ≤ m) (h2 : m ≤ 40) (hn : -9223372036854775808 ≤ n ∧ n ≤ 9223372036854775807) (hk : -9223372036854775808 ≤ k ∧ k ≤ 9223372036854775807) (hr : Rd w w.heap.size A (rows.map RowB.v)) (hrows : ∀ r ∈ rows, r.ok w w.heap.size)
    (hr2 : Rd w w.heap.size A2 (tris tr)) :
    Calls Try.prog 4 #[.agg #[.int .i64 (m : Int), .int .i64 n, .int .i64 k], .slice A rows.length c, .slice A2 tr.length c2] w fun e w' => e = .returned (.bool true) ∧ Below w.heap.size w w' := by
  have hB0 : Below w.heap.size w (w.alloc (.cells #[.int .i64 (m : Int), .int .i64 n, .int .i64 k] 23)) := (Below.refl _ _).alloc (Nat.le_refl _) _
  have g5 := heap_alloc_new w (.cells #[.int .i64 (m : Int), .int .i64 n, .int .i64 k] 23)
  have s5 := alloc1_size w (.cells #[.int .i64 (m : Int), .int .i64 n, .int .i64 k] 23)
  have H1 := Lib.hid (fun W => logAwake_any W)
  have HB0 := Lib.hid (And.intro hB0 (And.intro g5 s5))
  have HR := Lib.hid (And.intro hr (And.intro hrows hr2))
  have HM := Lib.hid (And.intro h1 (And.intro h2 (And.intro hn hk)))
  have m1 : ¬ (m : Int) < 1 := by omega
  have m2 : ¬ 40 < (m : Int) := by omega
  clear hB0 g5 s5 h1 h2 hr hrows hr2 hn hk
  go_enter Try.func4, Try.ntmps4
  go_upto_region 1 with go_in
  generalize w.alloc (.cells #[.int .i64 (m : Int), .int .i64 n, .int .i64 k] 23) = W0 at HB0 ⊢
  go_upto_region 3 with (first
    | (go_at_call 6; (refine (H1.out W0).mono ?_); rintro e w1 ⟨rfl, hb1⟩; have gb := (hb1.block w.heap.size (heap_lt HB0.out.2.1)).trans HB0.out.2.1; have c0 := cell_of_row w1 w.heap.size 0 _ _ _ gb; have HB1 := Lib.hid (And.intro hb1 gb); clear hb1 gb)
    | go_in)
  go_upto_region 4 with (first
    | (go_at_call 7; (refine (newM m w1 HM.out.1 (by have := HM.out.2.1; omega)).mono ?_); rintro e w2 ⟨rfl, hD, hF⟩)
    | go_in)
  have gb2 := (hF.block w.heap.size (heap_lt HB1.out.2) (by simp)).trans HB1.out.2
  have d0 := cell_of_row w2 w.heap.size 0 _ _ _ gb2
  have hB2 : Below W0.heap.size W0 w2 := HB1.out.1.trans (hF.below HB1.out.1.size (by simp))
  have H2 := Lib.hid (And.intro hD (And.intro hB2 (And.intro HB1.out.1.size gb2)))
  clear hD hF gb2 hB2 c0
  have hrn := rnew_any w2 m [w1.heap.size + 2, w1.heap.size, w1.heap.size + 1] (by have := H2.out.1.lt; simp; omega) HM.out.1 (by have := HM.out.2.1; omega)
  have HRN := Lib.hid hrn
  clear hrn
  go_upto_region 5 with (first
    | (go_at_call 8; (with_reducible refine HRN.out.mono ?_); rintro e w3 ⟨v3, rfl, hR3, hb3⟩; have hR3' := hR3; obtain ⟨a1, a2, a3, d1, d2, d3, rfl, _, _, _⟩ := hR3)
    | go_in)
  obtain ⟨m1', hm1⟩ : ∃ m1, m1 = (RD.new m).sure.length := ⟨_, rfl⟩
  obtain ⟨m2', hm2⟩ : ∃ m2, m2 = (RD.new m).now.length := ⟨_, rfl⟩
  obtain ⟨m3', hm3⟩ : ∃ m3, m3 = (RD.new m).fresh.length := ⟨_, rfl⟩
  obtain ⟨s3, hs3⟩ : ∃ s3, s3 = (RD.new m).steps := ⟨_, rfl⟩
  obtain ⟨l3, hl3⟩ : ∃ l3, l3 = (RD.new m).left := ⟨_, rfl⟩
  rw [← hm1, ← hm2, ← hm3, ← hs3, ← hl3] at hR3' ⊢
  have hX := BoxD.new (W0 := W0) HM.out.1 HM.out.2.1 H2.out.2.2.1 H2.out.2.1 H2.out.1 hb3 hR3'
  clear hm1 hm2 hm3 hs3 hl3 hR3' hb3 HRN
  generalize w3.alloc (.cells #[.slice a1 m1' d1, .slice a2 m2' d2, .slice a3 m3' d3, .int .i64 s3, .int .i64 l3] 33) = W7 at hX ⊢
  generalize w3.heap.size = bx at hX ⊢
  have HX7 := Lib.hid hX
  obtain ⟨p, hp⟩ : ∃ p, p = w1.heap.size + 2 := ⟨_, rfl⟩
  obtain ⟨bs, hbs⟩ : ∃ p, p = w1.heap.size := ⟨_, rfl⟩
  obtain ⟨bw, hbw⟩ : ∃ p, p = w1.heap.size + 1 := ⟨_, rfl⟩
  rw [← hp, ← hbw, ← hbs] at HX7
  rw [← hp]
  clear hX hbs hbw hp d0
  go_upto_block 0 with go_in
  go_cut [11] from 52 to 81 (fun i w' => ∃ (T : Nat) (M : DM), T ≤ 40 ∧ BoxD W0 w' bx p bs bw m T M M)
  case rest =>
    obtain ⟨T1, M1, hT1, hX1⟩ := hcut
    have HX1 := Lib.hid (And.intro hT1 hX1)
    clear hT1 hX1
    go_upto_block 2 with (fail)
    go_cut [12, 13] from 82 to 126 (fun i b w' => ∃ (T : Nat) (M : DM), T ≤ 80 ∧ BoxD W0 w' bx p bs bw m T M M)
    case rest =>
      obtain ⟨T2, M2, hT2, hX2⟩ := hcut
      have hat : LrAt W0 _ w.heap.size bx p bs bw m T2 M2 n k := ⟨hX2, hT2, HM.out.2.1, HB0.out.2.1⟩
      have HAT := Lib.hid hat
      clear hat hX2 hT2
      go_step
      refine wp_onlyret (lr_any HAT.out HM.out.2.2.2 _ _ _ _ _ _ _ _ _ _ _ _ _ _ _ _ _ _ _ _ _ _ _ _ _ _ _ _ _ _ _ _ _ _ _ _ _ _ _ _ _ _ _ _ _ _ _ _ _ _ _ _ _ _ _ _ _ _ _ _ _ _ _ _ _ _ _ _ _ _ _ _ _ _ _ _ _ _ _ _ _ _ _ _ _ _ _ _ _ _ _ _ _ _ _ _ _ _ _ _ _ _ _ _ _ _ _ _ _ _ _ _ _ _ _ _ _ _ _ _ _ _ _ _ _ _ _ _ _ _ _ _ _ _ _ _ _ _ _ _ _ _ _ _ _ _ _ _ _ _ _ _ _ _ _ _ _ _ _ _ _ _ _ _ _ _ _ _ _ _ _ _ _ _ _ _ _ _ _ _ _ _ _ _ _ _ _ _ _ _ _ _ _ _ _ _ _ ?_)
      intro _ _ _ _ _ _ _ _ _ _ _ _ _ _ _ _ _ _ _ _ _ _ _ _ _ _ _ _ _ _ _ _ _ _ _ _ _ _ _ _ _ _ _ _ _ _ _ _ _ _ _ _ _ _ _ _ _ _ _ _ _ _ _ _ _ _ _ _ _ _ _ _ _ _ _ _ _ _ _ _ _ w1 hb1
      dsimp only
      go_ret
      exact ⟨rfl, HB0.out.1.trans (lower' hb1 (by have := HB0.out.2.2; omega))⟩
    case first =>
      go_wp2_with (fail)
      go_loopw [12, 13] (fun i _ wr => ∃ (k T : Nat) (M : DM), k ≤ tr.length ∧ k ≤ 40 ∧ T ≤ 40 + k ∧ i = .int .i64 (k : Int) ∧ BoxD W0 wr bx p bs bw m T M M)
        (fun i _ _ => tr.length - (intOf i).toNat)
      case atStart => exact ⟨0, T1, M1, by omega, by omega, by have := HX1.out.1; omega, rfl, HX1.out.2⟩
      case round =>
        obtain ⟨k, T, M, hk, hk40, hT, rfl, hX⟩ := hrel
        by_cases hgo : k < tr.length ∧ k < 40
        · obtain ⟨hkl, hk9⟩ := hgo
          have hkI : (k : Int) < (tr.length : Int) := by omega
          have hkJ : (k : Int) < 40 := by omega
          obtain ⟨o, hoe⟩ : ∃ o, o = tr[k] := ⟨_, rfl⟩
          obtain ⟨ab, ao, rfl, hab, hcell⟩ := tri_cells HR.out.2.2 hkl
          rw [← hoe] at hcell
          clear hoe
          obtain ⟨oa, ob, oc⟩ := o
          dsimp only at hcell
          have hcl : ∀ W, Below W0.heap.size W0 W → _ := fun W h => hcell W (HB0.out.1.trans (lower' h (by have := HB0.out.2.2; omega)))
          obtain ⟨x0, x1, x2⟩ := hcl wr hX.below
          have HCL := Lib.hid hcl
          obtain ⟨s, hs, hsE⟩ := and62 ob
          obtain ⟨z, hz, hzE⟩ := rem16 oc
          have hhd := fun W => rHead_any s z W (by omega) (by omega)
          rw [← hsE, ← hzE] at hhd
          have HHD := Lib.hid hhd
          have HL := Lib.hid (headL_len s z)
          clear hhd hs hsE hz hzE
          obtain ⟨hd, hhdE⟩ : ∃ l, l = headL s z := ⟨_, rfl⟩
          rw [← hhdE] at HHD HL
          clear hhdE
          have HX := Lib.hid (And.intro hX (And.intro hT hkl))
          clear hX hT hkl hcell hcl
          go_upto_region 15 with go_in
          go_region_with (go_at_call 27; (with_reducible refine (HHD.out wr.drew).mono ?_); rintro e w5 ⟨rfl, hb5⟩)
          all_goals
            have hX5 := HX.out.1.drew.kept hb5
            have HX5 := Lib.hid hX5
            obtain ⟨z0, z1, z2⟩ := HCL.out w5 hX5.below
            clear hX5 hb5 x0 x1 x2
            obtain ⟨cv, W6, hcv, hb6, hlt6, hr6⟩ := conv_bytes hd w5
            rw [HL.out] at hcv
            have hX6 := HX5.out.kept hb6
            have hwr := writeM hX6.disk hX6.okM oa (some ⟨w5.heap.size, 0, none⟩) hd cv _ hr6 (fun a ha => by cases ha; have := HX5.out.disk.lt; dsimp only; omega)
            rw [HL.out] at hwr
            have HWR := Lib.hid hwr
            have HX6 := Lib.hid hX6
            clear hwr hX6 hb6 hlt6 hr6
            go_upto_region 17 with (first
              | (go_at_call 17; (with_reducible refine HWR.out.mono ?_); rintro e w7 ⟨rfl, hD7, hF7⟩)
              | go_in)
            have hX7 := HX6.out.wrote hD7 hF7 (by have := HX.out.2.1; omega)
            have HX7 := Lib.hid hX7.drew
            obtain ⟨A1, A2', A3, n1, n2, n3, e1, e2, e3, s7, l7, hg7, hv7⟩ := hX7.box
            have q0 := cell_of_row w7 bx 0 _ _ _ hg7
            have q1 := cell_of_row w7 bx 1 _ _ _ hg7
            have q2 := cell_of_row w7 bx 2 _ _ _ hg7
            have q3 := cell_of_row w7 bx 3 _ _ _ hg7
            have q4 := cell_of_row w7 bx 4 _ _ _ hg7
            obtain ⟨v0, v1, v2⟩ := HCL.out w7 hX7.below
            have HG7 := Lib.hid hg7
            have HW8 := Lib.hid (hX7.drew.rwrite (hv7.below (Below.refl _ _).drew) oa hd)
            clear hX7 hD7 hF7 hg7 hv7 HWR hcv z0 z1 z2
            go_region_with (go_at_call 19; (with_reducible refine HW8.out.mono ?_); rintro e w9 ⟨B1, B2, B3, r1, r2, r3, f1, f2, f3, s9, l9, rfl, hR9, hb9⟩; have hg9 := (hb9.block bx (heap_lt HG7.out)).trans HG7.out; have u0 := cell_of_row w9 bx 0 _ _ _ hg9; have u1 := cell_of_row w9 bx 1 _ _ _ hg9; have u2 := cell_of_row w9 bx 2 _ _ _ hg9; have u3 := cell_of_row w9 bx 3 _ _ _ hg9; have u4 := cell_of_row w9 bx 4 _ _ _ hg9; have t0 := frozen_of_row w9 bx 0 _ _ hg9; have t1 := frozen_of_row w9 bx 1 _ _ hg9; have t2 := frozen_of_row w9 bx 2 _ _ hg9; have t3 := frozen_of_row w9 bx 3 _ _ hg9; have t4 := frozen_of_row w9 bx 4 _ _ hg9)
            all_goals
              have hX9 := HX7.out.put hb9 hR9
              generalize (((((w9.setCell ⟨bx, 0, none⟩ (.slice B1 r1 f1)).setCell ⟨bx, 1, none⟩ (.slice B2 r2 f2)).setCell ⟨bx, 2, none⟩ (.slice B3 r3 f3)).setCell ⟨bx, 3, none⟩ (.int .i64 s9)).setCell ⟨bx, 4, none⟩ (.int .i64 l9)) = w10 at hX9 ⊢
              have HX9 := Lib.hid hX9
              clear hX9 hb9 hR9 hg9 u0 u1 u2 u3 u4 t0 t1 t2 t3 t4 q0 q1 q2 q3 q4 v0 v1 v2
              go_wp2_with go_in
              exact ⟨⟨k + 1, T + 1, _, by have := HX.out.2.2; omega, by omega, by have := HX.out.2.1; omega, by simp, HX9.out⟩, by simp [intOf]; have := HX.out.2.2; omega⟩
        · have hx' : (¬ (k : Int) < (tr.length : Int)) ∨ ((k : Int) < (tr.length : Int) ∧ ¬ (k : Int) < 40) := by omega
          have HX := Lib.hid (And.intro hX (And.intro hT hk40))
          clear hX hT hk40 hgo hk
          rcases hx' with hx1 | ⟨hx1, hx2⟩
          all_goals
            go_wp2_with (fail)
            go_meet
            case rel => exact ⟨T, M, by have := HX.out.2; have := HX.out.1; omega, HX.out.1⟩
  case first =>
    go_wp2_with (fail)
    go_loopw [11] (fun i wr => ∃ (k T : Nat) (M : DM), k ≤ rows.length ∧ k ≤ 40 ∧ T ≤ k ∧ i = .int .i64 (k : Int) ∧ BoxD W0 wr bx p bs bw m T M M)
      (fun i _ => rows.length - (intOf i).toNat)
    case atStart => exact ⟨0, 0, _, by omega, by omega, by omega, rfl, HX7.out⟩
    case round =>
      obtain ⟨k, T, M, hk, hk40, hT, rfl, hX⟩ := hrel
      by_cases hgo : k < rows.length ∧ k < 40
      · obtain ⟨hkl, hk9⟩ := hgo
        have hkI : (k : Int) < (rows.length : Int) := by omega
        have hkJ : (k : Int) < 40 := by omega
        obtain ⟨r, hre⟩ : ∃ r, r = rows[k] := ⟨_, rfl⟩
        have hbw0 : ∀ W, Below W0.heap.size W0 W → Below w.heap.size w W := fun W h => HB0.out.1.trans (lower' h (by have := HB0.out.2.2; omega))
        have hro : r.ok w w.heap.size := by rw [hre]; exact HR.out.2.1 _ (List.getElem_mem hkl)
        obtain ⟨ab, ao, rfl, hab, hcell⟩ := HR.out.1.get (k := k) (by simpa using hkl)
        have hrow : ∀ W, Below W0.heap.size W0 W → W.cell? ⟨ab, ao + k, none⟩ = some (.slice r.A r.l.length r.c) := fun W hW => by
          have h := hcell
          simp only [List.getElem_map, ← hre] at h
          rw [show (Value.slice r.A r.l.length r.c) = r.v from rfl, ← h]
          exact (hbw0 W hW).cell (p := ⟨ab, ao + k, none⟩) hab
        have hby : ∀ W, Below W0.heap.size W0 W → Calls Try.prog 18 #[.slice r.A r.l.length r.c] W fun e w' => ∃ g, e = .returned (.slice (some ⟨g, 0, none⟩) 64 64) ∧ W.heap.size ≤ g ∧ g < w'.heap.size ∧ Rd w' w'.heap.size (some ⟨g, 0, none⟩) (u8s (bytesL r.l)) ∧ Below W.heap.size W w' :=
          fun W hW => bytesC r.A r.l r.c w.heap.size W (hro.1.below (hbw0 W hW) (Nat.le_refl _)) (hbw0 W hW).size (by have := hro.2.1; have := hro.2.2; omega)
        clear hre hcell hro
        obtain ⟨rA, rl, rc⟩ := r
        dsimp only at hrow hby
        have HROW := Lib.hid hrow
        have HBY := Lib.hid hby
        have y1 := hrow wr hX.below
        have HX := Lib.hid (And.intro hX (And.intro hT hkl))
        clear hrow hby hX hT hkl hbw0
        go_upto_region 11 with (first
          | (go_at_call 18; (with_reducible refine (HBY.out wr HX.out.1.below).mono ?_); rintro e w5 ⟨g5, rfl, hg51, hg52, hr5, hb5⟩; have hX5 := HX.out.1.kept hb5)
          | (go_at_call 17; (with_reducible refine (writeC hX5.disk hX5.okM (k : Int) g5 (bytesL rl) (bytesL_len _) _ hr5 (by have := HX.out.1.disk.lt; omega)).mono ?_); rintro e w6 ⟨rfl, hD6, hF6⟩)
          | go_in)
        have hX6 := hX5.wrote hD6 hF6 (by have := HX.out.2.1; omega)
        have HX6 := Lib.hid hX6
        obtain ⟨A1, A2', A3, n1, n2, n3, e1, e2, e3, s, l, hg6, hv6⟩ := hX6.box
        have z0 := cell_of_row w6 bx 0 _ _ _ hg6
        have z1 := cell_of_row w6 bx 1 _ _ _ hg6
        have z2 := cell_of_row w6 bx 2 _ _ _ hg6
        have z3 := cell_of_row w6 bx 3 _ _ _ hg6
        have z4 := cell_of_row w6 bx 4 _ _ _ hg6
        have y6 := HROW.out w6 hX6.below
        have HV6 := Lib.hid (And.intro hg6 (hv6.below (Below.refl _ _).drew))
        clear y1 hX6 hX5 hD6 hF6 hb5 hr5 hg51 hg52 hg6 hv6
        go_region_with (first
          | (go_at_call 18; (with_reducible refine (HBY.out w6.drew HX6.out.drew.below).mono ?_); rintro e w8 ⟨g8, rfl, hg81, hg82, hr8, hb8⟩; have hX8 := HX6.out.drew.kept hb8; have q8 := strAt (n := 64) (c := 64) hr8 (bytesL_len rl).symm; have hg8 := (hb8.block bx (heap_lt HV6.out.1)).trans HV6.out.1; have x0 := cell_of_row w8 bx 0 _ _ _ hg8; have x1 := cell_of_row w8 bx 1 _ _ _ hg8; have x2 := cell_of_row w8 bx 2 _ _ _ hg8; have x3 := cell_of_row w8 bx 3 _ _ _ hg8; have x4 := cell_of_row w8 bx 4 _ _ _ hg8; have HW8 := Lib.hid (hX8.rwrite (HV6.out.2.below (w' := w8) hb8) (k : Int) (bytesL rl)))
          | (go_at_call 19; (with_reducible refine HW8.out.mono ?_); rintro e w9 ⟨B1, B2, B3, r1, r2, r3, f1, f2, f3, s9, l9, rfl, hR9, hb9⟩; have hg9 := (hb9.block bx (heap_lt hg8)).trans hg8; have u0 := cell_of_row w9 bx 0 _ _ _ hg9; have u1 := cell_of_row w9 bx 1 _ _ _ hg9; have u2 := cell_of_row w9 bx 2 _ _ _ hg9; have u3 := cell_of_row w9 bx 3 _ _ _ hg9; have u4 := cell_of_row w9 bx 4 _ _ _ hg9; have t0 := frozen_of_row w9 bx 0 _ _ hg9; have t1 := frozen_of_row w9 bx 1 _ _ hg9; have t2 := frozen_of_row w9 bx 2 _ _ hg9; have t3 := frozen_of_row w9 bx 3 _ _ hg9; have t4 := frozen_of_row w9 bx 4 _ _ hg9))
        all_goals
          have hX9 := hX8.put hb9 hR9
          generalize (((((w9.setCell ⟨bx, 0, none⟩ (.slice B1 r1 f1)).setCell ⟨bx, 1, none⟩ (.slice B2 r2 f2)).setCell ⟨bx, 2, none⟩ (.slice B3 r3 f3)).setCell ⟨bx, 3, none⟩ (.int .i64 s9)).setCell ⟨bx, 4, none⟩ (.int .i64 l9)) = w10 at hX9 ⊢
          have HX9 := Lib.hid hX9
          clear hX9 hX8 hb9 hR9 hg9 u0 u1 u2 u3 u4 t0 t1 t2 t3 t4 hg8 hb8 hr8 hg81 hg82 x0 x1 x2 x3 x4 z0 z1 z2 z3 z4 q8 y6
          go_wp2_with go_in
          exact ⟨⟨k + 1, T + 1, _, by have := HX.out.2.2; omega, by omega, by have := HX.out.2.1; omega, by simp, HX9.out⟩, by simp [intOf]; have := HX.out.2.2; omega⟩
      · have hx' : (¬ (k : Int) < (rows.length : Int)) ∨ ((k : Int) < (rows.length : Int) ∧ ¬ (k : Int) < 40) := by omega
        have HX := Lib.hid (And.intro hX (And.intro hT hk40))
        clear hX hT hk40 hgo hk
        rcases hx' with hx1 | ⟨hx1, hx2⟩
        all_goals
          go_wp2_with (fail)
          go_meet
          case rel => exact ⟨T, M, by have := HX.out.2; omega, HX.out.1⟩
theorem logReads_walk (m n k : Int) (A : Option Addr) (rows : List RowB) (c : Nat) (A2 : Option Addr) (tr : List Tri) (c2 : Nat) (w : World) (hn : -9223372036854775808 ≤ n ∧ n ≤ 9223372036854775807) (hk : -9223372036854775808 ≤ k ∧ k ≤ 9223372036854775807) (hr : Rd w w.heap.size A (rows.map RowB.v)) (hrows : ∀ r ∈ rows, r.ok w w.heap.size)
    (hr2 : Rd w w.heap.size A2 (tris tr)) :
    Calls Try.prog 4 #[.agg #[.int .i64 m, .int .i64 n, .int .i64 k], .slice A rows.length c, .slice A2 tr.length c2] w fun e w' => e = .returned (.bool true) ∧ Below w.heap.size w w' := by
  by_cases h : m < 1 ∨ 40 < m
  · exact logReads_out m n k A rows c A2 tr c2 w h
  · obtain ⟨j, rfl⟩ : ∃ j : Nat, m = j := ⟨m.toNat, by omega⟩
    exact logReads_in j n k A rows c A2 tr c2 w (by omega) (by omega) hn hk hr hrows hr2
end Go.Proofs.Ytdjcpjfomgfjlaa
