/- The law LogPlays, walked. -/
import Derived.Test.YtajakmfloeefpaaLogPI
import Derived.Test.YtajakmfloeefpaaLogT
import Derived.Test.YtajakmfloeefpaaLogPK
import Derived.Test.YtajakmfloeefpaaLogPL
import Derived.Test.YtajakmfloeefpaaLogPM
import Derived.Test.YtajakmfloeefpaaLogPR
import Derived.Test.YtajakmfloeefpaaJnQ
import Derived.Deep.CutBlock
import Derived.Deep.CutRange
import Derived.Deep.LoopGhost
import Derived.Laws.IdiomStrings
namespace Go.Proofs.Ytajakmfloeefpaa
open Go.RowKit Go.Maps

set_option maxRecDepth 100000 in
set_option maxHeartbeats 4000000 in
theorem logPlays_out (m n k : Int) (A : Option Addr) (L : List OpL) (c : Nat) (w : World) (h : m < 1 ∨ 40 < m) :
    Calls Try.prog 3 #[.agg #[.int .i64 m, .int .i64 n, .int .i64 k], .slice A L.length c] w fun e w' => e = .returned (.bool true) ∧ Below w.heap.size w w' := by
  have hB0 : Below w.heap.size w (w.alloc (.cells #[.int .i64 m, .int .i64 n, .int .i64 k] 23)) := (Below.refl _ _).alloc (Nat.le_refl _) _
  have g5 := heap_alloc_new w (.cells #[.int .i64 m, .int .i64 n, .int .i64 k] 23)
  have H1 := Lib.hid (fun W => logAwake_any W)
  have HB0 := Lib.hid (And.intro hB0 g5)
  have hcase : m < 1 ∨ (¬ m < 1 ∧ 40 < m) := by omega
  clear hB0 g5 h
  rcases hcase with h1 | ⟨h1, h2⟩
  all_goals
    go_enter Try.func3, Try.ntmps3
    go_upto_region 1 with go_in
    generalize w.alloc (.cells #[.int .i64 m, .int .i64 n, .int .i64 k] 23) = W0 at HB0 ⊢
    go_upto_region 2 with (first
      | (go_at_call 4; (refine (H1.out W0).mono ?_); rintro e w1 ⟨rfl, hb1⟩; have gb := (hb1.block w.heap.size (heap_lt HB0.out.2)).trans HB0.out.2; have c0 := cell_of_row w1 w.heap.size 0 _ _ _ gb; have HB1 := Lib.hid (HB0.out.1.trans (lower' hb1 HB0.out.1.size)); clear hb1 gb)
      | go_in)
    go_wp2_with (first
      | (go_at_call 4; (refine (H1.out w1).mono ?_); rintro e w2 ⟨rfl, hb2⟩; have HB2 := Lib.hid hb2; clear hb2)
      | go_in)
    go_ret
    exact ⟨rfl, HB1.out.trans (lower' HB2.out HB1.out.size)⟩

set_option maxRecDepth 100000 in
set_option maxHeartbeats 4000000 in
theorem logPlays_in (m : Nat) (n k : Int) (A : Option Addr) (L : List OpL) (c : Nat) (w : World) (h1 : 1 ≤ m) (h2 : m ≤ 40) (hn : -9223372036854775808 ≤ n ∧ n ≤ 9223372036854775807) (hk : -9223372036854775808 ≤ k ∧ k ≤ 9223372036854775807) (hr : Rd w w.heap.size A (opsL L)) (ho : ∀ o ∈ L, o.ok w w.heap.size) :
    Calls Try.prog 3 #[.agg #[.int .i64 (m : Int), .int .i64 n, .int .i64 k], .slice A L.length c] w fun e w' => e = .returned (.bool true) ∧ Below w.heap.size w w' := by
  have hB0 : Below w.heap.size w (w.alloc (.cells #[.int .i64 (m : Int), .int .i64 n, .int .i64 k] 23)) := (Below.refl _ _).alloc (Nat.le_refl _) _
  have g5 := heap_alloc_new w (.cells #[.int .i64 (m : Int), .int .i64 n, .int .i64 k] 23)
  have s5 := alloc1_size w (.cells #[.int .i64 (m : Int), .int .i64 n, .int .i64 k] 23)
  have H1 := Lib.hid (fun W => logAwake_any W)
  have HB0 := Lib.hid (And.intro hB0 (And.intro g5 s5))
  have HR := Lib.hid (And.intro hr ho)
  have HM := Lib.hid (And.intro h1 (And.intro h2 (And.intro hn hk)))
  have m1 : ¬ (m : Int) < 1 := by omega
  have m2 : ¬ 40 < (m : Int) := by omega
  clear hB0 g5 s5 h1 h2 hr ho hn hk
  go_enter Try.func3, Try.ntmps3
  go_upto_region 1 with go_in
  generalize w.alloc (.cells #[.int .i64 (m : Int), .int .i64 n, .int .i64 k] 23) = W0 at HB0 ⊢
  go_upto_region 3 with (first
    | (go_at_call 4; (refine (H1.out W0).mono ?_); rintro e w1 ⟨rfl, hb1⟩; have gb := (hb1.block w.heap.size (heap_lt HB0.out.2.1)).trans HB0.out.2.1; have c0 := cell_of_row w1 w.heap.size 0 _ _ _ gb; have HB1 := Lib.hid (And.intro hb1 gb); clear hb1 gb)
    | go_in)
  go_upto_region 4 with (first
    | (go_at_call 5; (refine (newM m w1 HM.out.1 (by have := HM.out.2.1; omega)).mono ?_); rintro e w2 ⟨rfl, hD, hF⟩)
    | go_in)
  have gb2 := (hF.block w.heap.size (heap_lt HB1.out.2) (by simp)).trans HB1.out.2
  have d0 := cell_of_row w2 w.heap.size 0 _ _ _ gb2
  have hB2 : Below W0.heap.size W0 w2 := HB1.out.1.trans (hF.below HB1.out.1.size (by simp))
  have H2 := Lib.hid (And.intro hD (And.intro hB2 (And.intro HB1.out.1.size gb2)))
  clear hD hF gb2 hB2 c0
  have hrn := rnew_any w2 m [w1.heap.size + 2, w1.heap.size, w1.heap.size + 1] (by have := H2.out.1.lt; simp; omega) HM.out.1 (by have := HM.out.2.1; omega)
  have HRN := Lib.hid hrn
  clear hrn
  go_upto_region 5 with (first
    | (go_at_call 6; (with_reducible refine HRN.out.mono ?_); rintro e w3 ⟨v3, rfl, hR3, hb3⟩; have hR3' := hR3; obtain ⟨a1, a2, a3, d1, d2, d3, rfl, _, _, _⟩ := hR3)
    | go_in)
  obtain ⟨m1', hm1⟩ : ∃ m1, m1 = (RD.new m).sure.length := ⟨_, rfl⟩
  obtain ⟨m2', hm2⟩ : ∃ m2, m2 = (RD.new m).now.length := ⟨_, rfl⟩
  obtain ⟨m3', hm3⟩ : ∃ m3, m3 = (RD.new m).fresh.length := ⟨_, rfl⟩
  obtain ⟨s3, hs3⟩ : ∃ s3, s3 = (RD.new m).steps := ⟨_, rfl⟩
  obtain ⟨l3, hl3⟩ : ∃ l3, l3 = (RD.new m).left := ⟨_, rfl⟩
  rw [← hm1, ← hm2, ← hm3, ← hs3, ← hl3] at hR3' ⊢
  have hX := BoxD.new (W0 := W0) HM.out.1 HM.out.2.1 H2.out.2.2.1 H2.out.2.1 H2.out.1 hb3 hR3'
  clear hm1 hm2 hm3 hs3 hl3 hR3' hb3 HRN
  generalize w3.alloc (.cells #[.slice a1 m1' d1, .slice a2 m2' d2, .slice a3 m3' d3, .int .i64 s3, .int .i64 l3] 33) = W7 at hX ⊢
  generalize w3.heap.size = bx at hX ⊢
  have HX7 := Lib.hid hX
  obtain ⟨p, hp⟩ : ∃ p, p = w1.heap.size + 2 := ⟨_, rfl⟩
  obtain ⟨bs, hbs⟩ : ∃ p, p = w1.heap.size := ⟨_, rfl⟩
  obtain ⟨bw, hbw⟩ : ∃ p, p = w1.heap.size + 1 := ⟨_, rfl⟩
  rw [← hp, ← hbw, ← hbs] at HX7
  rw [← hp]
  clear hX hbs hbw hp d0
  have ga := (HX7.out.below.block w.heap.size (by have := HB0.out.2.2; omega)).trans HB0.out.2.1
  have d0 := cell_of_row W7 w.heap.size 0 _ _ _ ga
  have d1 := cell_of_row W7 w.heap.size 1 _ _ _ ga
  have d2 := cell_of_row W7 w.heap.size 2 _ _ _ ga
  have hsz : (DM.new m).size ≤ 4096 := by have := HX7.out.sizeM; have := HM.out.2.1; omega
  have hTz : (0 : Nat) ≤ 1000000 := by omega
  by_cases hbad : openBad m n k
  · have hop := open_bad HX7.out.disk n k HM.out.2.2.2 hsz (by rw [HX7.out.sizeM]; exact hbad)
    obtain ⟨A1, A2, A3, n1, n2, n3, e1, e2, e3, s7, l7, hg7, hv7⟩ := HX7.out.box
    have hro := ropen_bad W7 _ (DM.new m) 0 _ hv7 HX7.out.okR (by rw [HX7.out.sizeM]; exact HX7.out.pos) n k HM.out.2.2.2 (by rw [HX7.out.sizeM]; exact hbad) 0 0 []
    have x0 := cell_of_row W7 bx 0 _ _ _ hg7; have x1 := cell_of_row W7 bx 1 _ _ _ hg7; have x2 := cell_of_row W7 bx 2 _ _ _ hg7; have x3 := cell_of_row W7 bx 3 _ _ _ hg7; have x4 := cell_of_row W7 bx 4 _ _ _ hg7
    have HOP := Lib.hid hop
    have HRO := Lib.hid hro
    have HG7 := Lib.hid hg7
    clear hop hro hsz hbad hg7 hv7 ga hTz
    go_upto_region 8 with (first
      | (go_at_call 7; (with_reducible refine HOP.out.mono ?_); rintro e w5 ⟨rfl, rfl⟩)
      | go_in)
    go_upto_region 9 with (first
      | (go_at_call 8; (with_reducible refine HRO.out.mono ?_); rintro e w9 ⟨B1, B2, B3, m1, m2, m3, f1, f2, f3, s9, l9, l0, l1, l2, l3, rfl, hR9, -, hz9, hb9⟩; obtain ⟨rfl, rfl, rfl, rfl⟩ := hz9 (by decide); have hg9 := (hb9.block bx (heap_lt HG7.out)).trans HG7.out; have hga := (Below.heap_alloc w9 (.cells #[.int .i64 0, .int .i64 0, .slice none 0 0, .int .i64 0] 42) bx (heap_lt hg9)).trans hg9; have gx0 := cell_of_row _ bx 0 _ _ _ hga; have gx1 := cell_of_row _ bx 1 _ _ _ hga; have gx2 := cell_of_row _ bx 2 _ _ _ hga; have gx3 := cell_of_row _ bx 3 _ _ _ hga; have gx4 := cell_of_row _ bx 4 _ _ _ hga; have gf0 := frozen_of_row _ bx 0 _ _ hga; have gf1 := frozen_of_row _ bx 1 _ _ hga; have gf2 := frozen_of_row _ bx 2 _ _ hga; have gf3 := frozen_of_row _ bx 3 _ _ hga; have gf4 := frozen_of_row _ bx 4 _ _ hga; have hnw := heap_alloc_new w9 (.cells #[.int .i64 0, .int .i64 0, .slice none 0 0, .int .i64 0] 42); have yc0 := cell_of_row _ w9.heap.size 0 _ _ _ hnw; have yc1 := cell_of_row _ w9.heap.size 1 _ _ _ hnw; have yc2 := cell_of_row _ w9.heap.size 2 _ _ _ hnw; have yc3 := cell_of_row _ w9.heap.size 3 _ _ _ hnw; have yf0 := frozen_of_row _ w9.heap.size 0 _ _ hnw; have yf1 := frozen_of_row _ w9.heap.size 1 _ _ hnw; have yf2 := frozen_of_row _ w9.heap.size 2 _ _ hnw; have yf3 := frozen_of_row _ w9.heap.size 3 _ _ hnw; have hne : w9.heap.size ≠ bx := (by have := heap_lt hg9; omega); have hne2 : bx ≠ w9.heap.size := fun e => hne e.symm)
      | go_in)
    have hbel : Below W0.heap.size W0 (putB (w9.alloc lgN) bx w9.heap.size (.slice B1 m1 f1) (.slice B2 m2 f2) (.slice B3 m3 f3) (.int .i64 s9) (.int .i64 l9) (.int .i64 0) (.int .i64 0) (.slice none 0 0) (.int .i64 0)) :=
      ((HX7.out.below.trans (lower' hb9 HX7.out.below.size)).alloc (Nat.le_trans HX7.out.below.size hb9.size) _).trans ((putB_fr _ _ _ _ _ _ _ _ _ _ _ _).below (by have := HX7.out.below.size; have := hb9.size; simp; omega) (by have := HX7.out.low; have := HX7.out.below.size; have := hb9.size; simp; omega))
    dsimp only [putB, lgN] at hbel
    have HBL := Lib.hid hbel
    clear hbel hR9 hg9 hga gx0 gx1 gx2 gx3 gx4 gf0 gf1 gf2 gf3 gf4 hnw yc0 yc1 yc2 yc3 yf0 yf1 yf2 yf3 hne hne2 x0 x1 x2 x3 x4
    generalize ((((((((((w9.alloc (.cells #[.int .i64 0, .int .i64 0, .slice none 0 0, .int .i64 0] 42)).setCell ⟨bx, 0, none⟩ (.slice B1 m1 f1)).setCell ⟨bx, 1, none⟩ (.slice B2 m2 f2)).setCell ⟨bx, 2, none⟩ (.slice B3 m3 f3)).setCell ⟨bx, 3, none⟩ (.int .i64 s9)).setCell ⟨bx, 4, none⟩ (.int .i64 l9)).setCell ⟨w9.heap.size, 0, none⟩ (.int .i64 0)).setCell ⟨w9.heap.size, 1, none⟩ (.int .i64 0)).setCell ⟨w9.heap.size, 2, none⟩ (.slice none 0 0)).setCell ⟨w9.heap.size, 3, none⟩ (.int .i64 0)) = W9 at HBL ⊢
    generalize w9.heap.size = bl
    clear hb9
    go_wp2_with (fail)
    go_loopg [9] 1 (fun g qq wr => qq = .pointer none ∧ wr = W9)
    case atStart => exact ⟨rfl, rfl⟩
    case round =>
      obtain ⟨rfl, rfl⟩ := hrel
      go_wp2_with (fail)
      go_ret
      exact ⟨rfl, HB0.out.1.trans (lower' HBL.out (by have := HB0.out.2.2; omega))⟩
  · obtain ⟨first, rfl⟩ : ∃ f : Nat, n = f := ⟨n.toNat, by unfold openBad at hbad; omega⟩
    obtain ⟨count, rfl⟩ : ∃ f : Nat, k = f := ⟨k.toNat, by unfold openBad at hbad; omega⟩
    have hfa : first + count ≤ m := by unfold openBad at hbad; omega
    have hfb : 2 ≤ count := by unfold openBad at hbad; omega
    obtain ⟨rs, hrs⟩ : ∃ rs, rs = scan (DM.new m).get (first + count) first none := ⟨_, rfl⟩
    obtain ⟨M2, hM2⟩ : ∃ M2, M2 = (runOps (openOps (DM.new m) first (first + count)) (DM.new m)).2 := ⟨_, rfl⟩
    have hrz : rs.length = 0 := by rw [hrs, new_scan]; rfl
    have hop := open_in HX7.out rfl rfl hTz hfb hfa hrs hM2
    have HX2 := Lib.hid (And.intro hfa (And.intro hfb ga))
    have HOP := Lib.hid hop
    have HRZ := Lib.hid hrz
    clear hbad hop hsz hfa hfb ga hTz hrs hM2 hrz
    go_upto_region 8 with (first
      | (go_at_call 7; (with_reducible refine HOP.out.1.mono ?_); rintro e w5 ⟨q, A5, c5, v5, rfl, hl5, hq5, hf5⟩)
      | go_in)
    have hx7 := HX7.out.lt
    have hofx := HX7.out.off
    have ga5 := fr_get hf5 HX2.out.2.2 (by have := HX7.out.low; have := HB0.out.2.2; simp; omega)
    have d1 := cell_of_row w5 w.heap.size 1 _ _ _ ga5
    have d2 := cell_of_row w5 w.heap.size 2 _ _ _ ga5
    obtain ⟨A1, A2, A3, n1, n2, n3, e1, e2, e3, s7, l7, hg7, hv7⟩ := HX7.out.box
    have hg5 := fr_get hf5 hg7 (by simp; omega)
    have x0 := cell_of_row w5 bx 0 _ _ _ hg5; have x1 := cell_of_row w5 bx 1 _ _ _ hg5; have x2 := cell_of_row w5 bx 2 _ _ _ hg5; have x3 := cell_of_row w5 bx 3 _ _ _ hg5; have x4 := cell_of_row w5 bx 4 _ _ _ hg5
    have HRO := Lib.hid (HOP.out.2 w5 q v5 _ hl5 hq5 hf5 hv7)
    have HG7 := Lib.hid hg5
    clear hl5 hq5 hf5 hx7 hofx ga5 hg7 hv7 hg5 HOP
    go_upto_region 9 with (first
      | (go_at_call 8; (with_reducible refine HRO.out.mono ?_); rintro e w9 ⟨B1, B2, B3, m1, m2, m3, f1, f2, f3, s9, l9, A9, c9, rfl, hT9, hb9⟩; have hg9 := (hb9.block bx (heap_lt HG7.out)).trans HG7.out; have hga := (Below.heap_alloc w9 (.cells #[.int .i64 0, .int .i64 0, .slice none 0 0, .int .i64 0] 42) bx (heap_lt hg9)).trans hg9; have gx0 := cell_of_row _ bx 0 _ _ _ hga; have gx1 := cell_of_row _ bx 1 _ _ _ hga; have gx2 := cell_of_row _ bx 2 _ _ _ hga; have gx3 := cell_of_row _ bx 3 _ _ _ hga; have gx4 := cell_of_row _ bx 4 _ _ _ hga; have gf0 := frozen_of_row _ bx 0 _ _ hga; have gf1 := frozen_of_row _ bx 1 _ _ hga; have gf2 := frozen_of_row _ bx 2 _ _ hga; have gf3 := frozen_of_row _ bx 3 _ _ hga; have gf4 := frozen_of_row _ bx 4 _ _ hga; have hnw := heap_alloc_new w9 (.cells #[.int .i64 0, .int .i64 0, .slice none 0 0, .int .i64 0] 42); have yc0 := cell_of_row _ w9.heap.size 0 _ _ _ hnw; have yc1 := cell_of_row _ w9.heap.size 1 _ _ _ hnw; have yc2 := cell_of_row _ w9.heap.size 2 _ _ _ hnw; have yc3 := cell_of_row _ w9.heap.size 3 _ _ _ hnw; have yf0 := frozen_of_row _ w9.heap.size 0 _ _ hnw; have yf1 := frozen_of_row _ w9.heap.size 1 _ _ hnw; have yf2 := frozen_of_row _ w9.heap.size 2 _ _ hnw; have yf3 := frozen_of_row _ w9.heap.size 3 _ _ hnw; have hne : w9.heap.size ≠ bx := (by have := heap_lt hg9; omega); have hne2 : bx ≠ w9.heap.size := fun e => hne e.symm)
      | go_in)
    dsimp only [putB, lgN] at hT9
    clear hb9 hg9 hga gx0 gx1 gx2 gx3 gx4 gf0 gf1 gf2 gf3 gf4 hnw yc0 yc1 yc2 yc3 yf0 yf1 yf2 yf3 hne hne2 x0 x1 x2 x3 x4 d1 d2
    generalize ((((((((((w9.alloc (.cells #[.int .i64 0, .int .i64 0, .slice none 0 0, .int .i64 0] 42)).setCell ⟨bx, 0, none⟩ (.slice B1 m1 f1)).setCell ⟨bx, 1, none⟩ (.slice B2 m2 f2)).setCell ⟨bx, 2, none⟩ (.slice B3 m3 f3)).setCell ⟨bx, 3, none⟩ (.int .i64 s9)).setCell ⟨bx, 4, none⟩ (.int .i64 l9)).setCell ⟨w9.heap.size, 0, none⟩ (.int .i64 (first : Int))).setCell ⟨w9.heap.size, 1, none⟩ (.int .i64 (count : Int))).setCell ⟨w9.heap.size, 2, none⟩ (.slice A9 rs.length c9)).setCell ⟨w9.heap.size, 3, none⟩ (.int .i64 (nxtN rs : Int))) = W9 at hT9 ⊢
    generalize w9.heap.size = bl at hT9 ⊢
    have HS5 : Hid (LpR W0 W9 bx bl p q m 4097 first count) := Lib.hid ⟨bs, bw, q + 1, M2, _, v5, _, A9, c9, by simpa using hT9⟩
    clear hT9
    rw [HRZ.out]
    go_upto_block 0 with (fail)
    rename_i K0 hK0
    refine wp_code (c := lpLoop) (by kernel_rfl) ?_
    refine wp_noway (lp_loop HB0 HR HM.out.2.1 HX2 HS5 _ _ _ _ _ _ _ _ _ _ _ _ _ _ _ _ _ _ _ _ _ _ _ _ _ _ _ _ _ _ _ _ _ _ _ _ _ _ _ _ _ _ _ _ _ _ _ _ _ _ _ _ _ _ _ _ _ _ _ _ _ _ _ _ _ _ _ _ _ _ _ _ _ _ _ _ _ _ _ _ _ _ _ _ _ _ _ _ _ _ _ _ _ _ _ _ _ _ _ _ _ _ _ _ _ _ _ _ _ _ _ _ _ _ _ _ _ _ _ _ _ _ _ _ _ _ _ _ _ _ _ _ _ _ _ _ _ _ _ _ _ _ _ _ _ _ _ _ _ _ _ _ _ _ _ _ _ _ _ _ _ _ _ _ _ _ _ _ _ _ _ _ _ _ _ _ _ _ _ _ _ _ _ _ _ _ _ _ _ _ _ _ _ _ _ _ _ _ _ _ _ _ _ _ _ _ _ _ _ _ _ _ _ _ _ _ _ _ _ _ _ _ _ _ _ _ _ _ _ _ _ _ _ _ _ _ _ _ _ _ _ _ _ _ _ _ _ _ ?_)
    intro _ _ _ _ _ _ _ _ _ _ _ _ _ _ _ _ _ _ _ _ _ _ _ _ _ _ _ _ _ _ _ _ _ _ _ _ _ _ _ _ _ _ _ _ _ _ _ _ _ _ _ _ _ _ _ _ _ _ _ _ _ _ _ _ _ _ _ _ _ _ _ _ _ _ _ _ _ _ _ _ _ _ _ _ _ _ _ _ _ _ _ _ _ _ _ _ _ _ _ _ _ _ _ _ _ _ _ _ _ _ _ _ _ _ _ _ _ _ _ _ _ _ _ _ _ _ _ _ _ _ _ _ _ _ _ _ _ _ _ _ _ _ _ _ _ _ _ _ _ _ _ _ _ _ _ _ _ _ _ _ _ _ _ _ _ _ _ _ _ _ _ _ _ _ _ _ _ _ _ _ _ _ _ _ w1 hb1
    refine hK0 _ _ ?_
    clear hK0
    go_wp2_with (fail)
    go_ret
    exact ⟨rfl, HB0.out.1.trans (lower' hb1 (by have := HB0.out.2.2; omega))⟩
theorem logPlays_walk (m n k : Int) (A : Option Addr) (L : List OpL) (c : Nat) (w : World) (hn : -9223372036854775808 ≤ n ∧ n ≤ 9223372036854775807) (hk : -9223372036854775808 ≤ k ∧ k ≤ 9223372036854775807) (hr : Rd w w.heap.size A (opsL L)) (ho : ∀ o ∈ L, o.ok w w.heap.size) :
    Calls Try.prog 3 #[.agg #[.int .i64 m, .int .i64 n, .int .i64 k], .slice A L.length c] w fun e w' => e = .returned (.bool true) ∧ Below w.heap.size w w' := by
  by_cases h : m < 1 ∨ 40 < m
  · exact logPlays_out m n k A L c w h
  · obtain ⟨j, rfl⟩ : ∃ j : Nat, m = j := ⟨m.toNat, by omega⟩
    exact logPlays_in j n k A L c w (by omega) (by omega) hn hk hr ho
end Go.Proofs.Ytajakmfloeefpaa
