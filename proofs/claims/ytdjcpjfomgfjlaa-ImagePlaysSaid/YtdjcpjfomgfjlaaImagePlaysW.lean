/- The law ImagePlays, walked. -/
import Derived.Test.YtdjcpjfomgfjlaaImgPA
import Derived.Test.YtdjcpjfomgfjlaaImgPB
import Derived.Test.YtdjcpjfomgfjlaaImgPD
import Derived.Test.YtdjcpjfomgfjlaaImgPE
import Derived.Deep.CutBlock
import Derived.Deep.CutRange
import Derived.Deep.LoopGhost
import Derived.Laws.IdiomStrings
namespace Go.Proofs.Ytdjcpjfomgfjlaa
open Go.RowKit Go.Maps

theorem opl_cells {w : World} {B : Nat} {A : Option Addr} {L : List OpL} (h : Rd w B A (opsL L)) {k : Nat} (hk : k < L.length) : ∃ ab ao, A = some ⟨ab, ao, none⟩ ∧ ab < B ∧ ∀ w' : World, Below B w w' →
    w'.cell? ⟨ab, ao + k * 5, none⟩ = some (.int .i64 L[k].kind) ∧ w'.cell? ⟨ab, ao + k * 5 + 1, none⟩ = some (.int .i64 L[k].n) ∧ w'.cell? ⟨ab, ao + k * 5 + 2, none⟩ = some (.int .i64 L[k].cut) ∧ w'.cell? ⟨ab, ao + k * 5 + 3, none⟩ = some (.slice L[k].b.A L[k].b.l.length L[k].b.c) ∧ w'.cell? ⟨ab, ao + k * 5 + 4, none⟩ = some (.slice L[k].KA L[k].keep.length L[k].kc) := by
  obtain ⟨ab, ao, e, hab, hc⟩ := h (by intro e; have := opsL_len L; rw [e] at this; simp at this; omega)
  refine ⟨ab, ao, e, hab, fun w' hb => ?_⟩
  have key : ∀ j (hj : j < 5), w'.cell? ⟨ab, ao + (k * 5 + j), none⟩ = L[k].cells[j]? := fun j hj => by
    have hg := opsL_get L k hk j hj
    obtain ⟨u, hu⟩ : ∃ u, L[k].cells[j]? = some u := ⟨_, List.getElem?_eq_getElem (l := L[k].cells) (i := j) (by simpa [OpL.cells] using hj)⟩
    rw [hu] at hg ⊢
    exact (hb.cell (p := ⟨ab, ao + (k * 5 + j), none⟩) hab).trans (hc _ u hg)
  exact ⟨key 0 (by omega), key 1 (by omega), key 2 (by omega), key 3 (by omega), key 4 (by omega)⟩
set_option maxRecDepth 100000 in
set_option maxHeartbeats 4000000 in
theorem imagePlays_out (m n k : Int) (A : Option Addr) (L : List OpL) (c : Nat) (w : World) (h : m < 1 ∨ 40 < m) :
    Calls Try.prog 5 #[.agg #[.int .i64 m, .int .i64 n, .int .i64 k], .slice A L.length c] w fun e w' => e = .returned (.bool true) ∧ Below w.heap.size w w' := by
  have hB0 : Below w.heap.size w (w.alloc (.cells #[.int .i64 m, .int .i64 n, .int .i64 k] 23)) := (Below.refl _ _).alloc (Nat.le_refl _) _
  have g5 := heap_alloc_new w (.cells #[.int .i64 m, .int .i64 n, .int .i64 k] 23)
  have H1 := Lib.hid (fun W => imgAwake_any W)
  have HB0 := Lib.hid (And.intro hB0 g5)
  have hcase : m < 1 ∨ (¬ m < 1 ∧ 40 < m) := by omega
  clear hB0 g5 h
  rcases hcase with h1 | ⟨h1, h2⟩
  all_goals
    go_enter Try.func5, Try.ntmps5
    go_upto_region 1 with go_in
    generalize w.alloc (.cells #[.int .i64 m, .int .i64 n, .int .i64 k] 23) = W0 at HB0 ⊢
    go_upto_region 2 with (first
      | (go_at_call 28; (refine (H1.out W0).mono ?_); rintro e w1 ⟨rfl, hb1⟩; have gb := (hb1.block w.heap.size (heap_lt HB0.out.2)).trans HB0.out.2; have c0 := cell_of_row w1 w.heap.size 0 _ _ _ gb; have HB1 := Lib.hid (HB0.out.1.trans (lower' hb1 HB0.out.1.size)); clear hb1 gb)
      | go_in)
    go_wp2_with (first
      | (go_at_call 28; (refine (H1.out w1).mono ?_); rintro e w2 ⟨rfl, hb2⟩; have HB2 := Lib.hid hb2; clear hb2)
      | go_in)
    go_ret
    exact ⟨rfl, HB1.out.trans (lower' HB2.out HB1.out.size)⟩

set_option maxRecDepth 100000 in
set_option maxHeartbeats 4000000 in
theorem imagePlays_in (m : Nat) (n k : Int) (A : Option Addr) (L : List OpL) (c : Nat) (w : World) (h1 : 1 ≤ m) (h2 : m ≤ 40) (hn : -9223372036854775808 ≤ n ∧ n ≤ 9223372036854775807) (hk : -9223372036854775808 ≤ k ∧ k ≤ 9223372036854775807) (hr : Rd w w.heap.size A (opsL L)) (ho : ∀ o ∈ L, o.ok w w.heap.size) :
    Calls Try.prog 5 #[.agg #[.int .i64 (m : Int), .int .i64 n, .int .i64 k], .slice A L.length c] w fun e w' => e = .returned (.bool true) ∧ Below w.heap.size w w' := by
  have hB0 : Below w.heap.size w (w.alloc (.cells #[.int .i64 (m : Int), .int .i64 n, .int .i64 k] 23)) := (Below.refl _ _).alloc (Nat.le_refl _) _
  have g5 := heap_alloc_new w (.cells #[.int .i64 (m : Int), .int .i64 n, .int .i64 k] 23)
  have s5 := alloc1_size w (.cells #[.int .i64 (m : Int), .int .i64 n, .int .i64 k] 23)
  have H1 := Lib.hid (fun W => imgAwake_any W)
  have HB0 := Lib.hid (And.intro hB0 (And.intro g5 s5))
  have HR := Lib.hid (And.intro hr ho)
  have HM := Lib.hid (And.intro h1 (And.intro h2 (And.intro hn hk)))
  have m1 : ¬ (m : Int) < 1 := by omega
  have m2 : ¬ 40 < (m : Int) := by omega
  clear hB0 g5 s5 h1 h2 hr ho hn hk
  go_enter Try.func5, Try.ntmps5
  go_upto_region 1 with go_in
  generalize w.alloc (.cells #[.int .i64 (m : Int), .int .i64 n, .int .i64 k] 23) = W0 at HB0 ⊢
  go_upto_region 3 with (first
    | (go_at_call 28; (refine (H1.out W0).mono ?_); rintro e w1 ⟨rfl, hb1⟩; have gb := (hb1.block w.heap.size (heap_lt HB0.out.2.1)).trans HB0.out.2.1; have c0 := cell_of_row w1 w.heap.size 0 _ _ _ gb; have HB1 := Lib.hid (And.intro hb1 gb); clear hb1 gb)
    | go_in)
  go_upto_region 4 with (first
    | (go_at_call 7; (refine (newM m w1 HM.out.1 (by have := HM.out.2.1; omega)).mono ?_); rintro e w2 ⟨rfl, hD, hF⟩)
    | go_in)
  have gb2 := (hF.block w.heap.size (heap_lt HB1.out.2) (by simp)).trans HB1.out.2
  have d0 := cell_of_row w2 w.heap.size 0 _ _ _ gb2
  have hB2 : Below W0.heap.size W0 w2 := HB1.out.1.trans (hF.below HB1.out.1.size (by simp))
  have H2 := Lib.hid (And.intro hD (And.intro hB2 (And.intro HB1.out.1.size gb2)))
  clear hD hF gb2 hB2 c0
  have hrn := rnew_any w2 m [w1.heap.size + 2, w1.heap.size, w1.heap.size + 1] (by have := H2.out.1.lt; simp; omega) HM.out.1 (by have := HM.out.2.1; omega)
  have HRN := Lib.hid hrn
  clear hrn
  go_upto_region 5 with (first
    | (go_at_call 8; (with_reducible refine HRN.out.mono ?_); rintro e w3 ⟨v3, rfl, hR3, hb3⟩; have hR3' := hR3; obtain ⟨a1, a2, a3, d1, d2, d3, rfl, _, _, _⟩ := hR3)
    | go_in)
  obtain ⟨m1', hm1⟩ : ∃ m1, m1 = (RD.new m).sure.length := ⟨_, rfl⟩
  obtain ⟨m2', hm2⟩ : ∃ m2, m2 = (RD.new m).now.length := ⟨_, rfl⟩
  obtain ⟨m3', hm3⟩ : ∃ m3, m3 = (RD.new m).fresh.length := ⟨_, rfl⟩
  obtain ⟨s3, hs3⟩ : ∃ s3, s3 = (RD.new m).steps := ⟨_, rfl⟩
  obtain ⟨l3, hl3⟩ : ∃ l3, l3 = (RD.new m).left := ⟨_, rfl⟩
  rw [← hm1, ← hm2, ← hm3, ← hs3, ← hl3] at hR3' ⊢
  have hX := BoxD.new (W0 := W0) HM.out.1 HM.out.2.1 H2.out.2.2.1 H2.out.2.1 H2.out.1 hb3 hR3'
  clear hm1 hm2 hm3 hs3 hl3 hR3' hb3 HRN
  generalize w3.alloc (.cells #[.slice a1 m1' d1, .slice a2 m2' d2, .slice a3 m3' d3, .int .i64 s3, .int .i64 l3] 33) = W7 at hX ⊢
  generalize w3.heap.size = bx at hX ⊢
  have HX7 := Lib.hid hX
  obtain ⟨p, hp⟩ : ∃ p, p = w1.heap.size + 2 := ⟨_, rfl⟩
  obtain ⟨bs, hbs⟩ : ∃ p, p = w1.heap.size := ⟨_, rfl⟩
  obtain ⟨bw, hbw⟩ : ∃ p, p = w1.heap.size + 1 := ⟨_, rfl⟩
  rw [← hp, ← hbw, ← hbs] at HX7
  rw [← hp]
  clear hX hbs hbw hp d0
  have ga := (HX7.out.below.block w.heap.size (by have := HB0.out.2.2; omega)).trans HB0.out.2.1
  have d0 := cell_of_row W7 w.heap.size 0 _ _ _ ga
  have d1 := cell_of_row W7 w.heap.size 1 _ _ _ ga
  have d2 := cell_of_row W7 w.heap.size 2 _ _ _ ga
  have hsz : (DM.new m).size ≤ 4096 := by have := HX7.out.sizeM; have := HM.out.2.1; omega
  by_cases hfit : FitsI m n k
  · obtain ⟨first, rfl⟩ : ∃ f : Nat, n = f := ⟨n.toNat, by unfold FitsI at hfit; omega⟩
    obtain ⟨count, rfl⟩ : ∃ f : Nat, k = f := ⟨k.toNat, by unfold FitsI at hfit; omega⟩
    have hop := openD (first := first) (count := count) HX7.out.disk hsz (by rw [HX7.out.sizeM]; exact hfit)
    have hft := fun W => rfits_any m (by have := HM.out.2.1; omega) first count HM.out.2.2.1 HM.out.2.2.2 W
    rw [decide_eq_true hfit] at hft
    have hfa : first + 2 * count ≤ m := by unfold FitsI at hfit; omega
    have hfb : 2 ≤ count := by unfold FitsI at hfit; omega
    have HX2 := Lib.hid (And.intro hfa (And.intro hfb ga))
    have HOP := Lib.hid hop
    have HFT := Lib.hid hft
    clear hfit hop hft hsz hfa hfb ga
    go_upto_region 8 with (first
      | (go_at_call 29; (with_reducible refine HOP.out.mono ?_); rintro e w5 ⟨q, rfl, hq, hI5, hb5⟩)
      | go_in)
    have ga5 := (hb5.block w.heap.size (heap_lt HX2.out.2.2)).trans HX2.out.2.2
    have g0 := cell_of_row w5 w.heap.size 0 _ _ _ ga5
    have g1 := cell_of_row w5 w.heap.size 1 _ _ _ ga5
    have g2 := cell_of_row w5 w.heap.size 2 _ _ _ ga5
    have HS5 : Hid (St W0 w5 bx p bs bw q m 0 first count (DM.new m) (DM.new m)) := Lib.hid ⟨HX7.out.kept hb5, hI5, by have := HX7.out.lt; omega, Nat.le_trans HX7.out.below.size hq⟩
    clear hI5 hb5 ga5 d0 d1 d2 HOP hq
    go_wp2_with (first
      | (go_at_call 30; (with_reducible refine (HFT.out w5).mono ?_); rintro e w6 ⟨rfl, rfl⟩)
      | go_in)
    clear g0 g1 g2
    go_loopg [5, 9, 10] 41 (fun g d mm i wr => ∃ (j T p bs bw q : Nat) (M : DM), j ≤ 40 ∧ j ≤ L.length ∧ 40 - j ≤ g ∧ i = .int .i64 (j : Int) ∧ d = .pointer (some ⟨p, 0, none⟩) ∧ mm = .pointer (some ⟨q, 0, none⟩) ∧ Hid (T ≤ 5000 * j ∧ St W0 wr bx p bs bw q m T first count M M))
    case atStart => exact ⟨0, 0, p, bs, bw, q, DM.new m, by omega, by omega, by omega, rfl, rfl, rfl, Lib.hid ⟨by omega, HS5.out⟩⟩
    case round =>
      obtain ⟨j, T, p, bs, bw, q, M, hj, hjl, hg, rfl, rfl, rfl, HS⟩ := hrel
      by_cases hgo : j < L.length ∧ j < 40
      · obtain ⟨hkl, hk9⟩ := hgo
        have hkI : (j : Int) < (L.length : Int) := by omega
        have hkJ : (j : Int) < 40 := by omega
        obtain ⟨o, hoe⟩ : ∃ o, o = L[j] := ⟨_, rfl⟩
        have hB0w : ∀ W, Below W0.heap.size W0 W → Below w.heap.size w W := fun W h => HB0.out.1.trans (lower' h (by have := HB0.out.2.2; omega))
        obtain ⟨ab, ao, rfl, hab, hcell⟩ := opl_cells HR.out.1 hkl
        obtain ⟨y0, y1, y2, y3, y4⟩ := hcell wr (hB0w wr HS.out.2.box.below)
        have hoo : o.ok w w.heap.size := by rw [hoe]; exact HR.out.2 _ (List.getElem_mem hkl)
        rw [← hoe] at y0 y1 y2 y3 y4
        have HOO := Lib.hid hoo
        have HW0 := Lib.hid hB0w
        have HJ := Lib.hid (And.intro hkl hab)
        clear hcell hoe hoo hB0w hkl hab
        obtain ⟨ok, on, oc, ob, oA, ol, ocap⟩ := o
        dsimp only at y0 y1 y2 y3 y4
        go_upto_region 16 with (fail)
        have hb8 : Below wr.heap.size wr (wr.alloc (.cells #[.int .i64 ok, .int .i64 on, .int .i64 oc, .slice ob.A ob.l.length ob.c, .slice oA ol.length ocap] 74)) := (Below.refl _ _).alloc (Nat.le_refl _) _
        have hg8 := heap_alloc_new wr (.cells #[.int .i64 ok, .int .i64 on, .int .i64 oc, .slice ob.A ob.l.length ob.c, .slice oA ol.length ocap] 74)
        generalize wr.alloc (.cells #[.int .i64 ok, .int .i64 on, .int .i64 oc, .slice ob.A ob.l.length ob.c, .slice oA ol.length ocap] 74) = W8 at hb8 hg8 ⊢
        have hlt := HS.out.2.box.disk.lt
        have hltx := HS.out.2.box.lt
        have hlo8 : W0.heap.size ≤ wr.heap.size := HS.out.2.box.below.size
        have hbo : wr.heap.size ≠ p ∧ wr.heap.size ≠ bs ∧ wr.heap.size ≠ bw ∧ wr.heap.size ≠ bx := by omega
        have H8 : Hid (T ≤ 5000 * j ∧ St W0 W8 bx p bs bw q m T first count M M) := Lib.hid ⟨HS.out.1, HS.out.2.kept hb8⟩
        generalize wr.heap.size = bo at hg8 hbo hlo8 ⊢
        have HG8 := Lib.hid (And.intro hg8 (And.intro hbo hlo8))
        have z0 := cell_of_row W8 bo 0 _ _ _ hg8; have z1 := cell_of_row W8 bo 1 _ _ _ hg8; have z2 := cell_of_row W8 bo 2 _ _ _ hg8; have z3 := cell_of_row W8 bo 3 _ _ _ hg8; have z4 := cell_of_row W8 bo 4 _ _ _ hg8
        clear HS hb8 hg8 hbo hlo8 hlt hltx y0 y1 y2 y3 y4
        go_upto_block 2 with (fail)
        go_cut [5, 6, 9, 12, 13, 14] from 82 to 257 (fun d e mm c x y w' => ∃ (T p bs bw q : Nat) (M : DM) (code : Int), d = .pointer (some ⟨p, 0, none⟩) ∧ e = .int .i64 code ∧ mm = .pointer (some ⟨q, 0, none⟩) ∧ c = .int .i64 code ∧ Hid (T ≤ 5000 * (j + 1) ∧ St W0 w' bx p bs bw q m T first count M M))
        case first =>
          have harm : Arm W0 w W8 w.heap.size bx bo p bs bw q m T first count j M ⟨ok, on, oc, ob, oA, ol, ocap⟩ := ⟨H8.out.1, hk9, H8.out.2, HG8.out.1, HG8.out.2.1, HOO.out, HW0.out, HB0.out.2.1, HX2.out.1, HX2.out.2.1, HM.out.2.1, HG8.out.2.2⟩
          have HARM := Lib.hid harm
          clear harm z0 z1 z2 z3 z4
          by_cases h1 : ok = 1
          · subst h1
            refine wp_noway (ip_arm1 (okind := 0) HARM.out _ _ _ _ _ _ _ _ _ _ _ _ _ _ _ _ _ _ _ _ _ _ _ _ _ _ _ _ _ _ _ _ _ _ _ _ _ _ _ _ _ _ _ _ _ _ _ _ _ _ _ _ _ _ _ _ _ _ _ _ _ _ _ _ _ _ _ _ _ _ _ _ _ _ _ _ _ _ _ _ _ _ _ _ _ _ _ _ _ _ _ _ _ _ _ _ _ _ _ _ _ _ _ _ _ _ _ _ _ _ _ _ _ _ _ _ _ _ _ _ _ _ _ _ _ _ _ _ _ _ _ _ _ _ _ _ _ _ _ _ _ _ _ _ _ _ _ _ _ _ _ _ _ _ _ _ _ _ _ _ _ _ _ _ _ _ _ _ _ _ _ _ _ _ _ _ _ _ _ _ _ _ _ _ _ _ _ _ _ _ _ _ _ _ _ _ _ _ _ _ _ _ _ _ _ _ _ _ _ _ _ _ _ _ _ _ _ _ _ _ _ _ _ _ _ _ _ _ _ _ _ _ _ _ _ _ _ _ _ _ _ _ _ _ _ _ _ _ _ ?_)
            intro T1 p1 bs1 bw1 q1 M1 code1 _ _ _ _ _ _ _ _ _ _ _ _ _ _ _ _ _ _ _ _ _ _ _ _ _ _ _ _ _ _ _ _ _ _ _ _ _ _ _ _ _ _ _ _ _ _ _ _ _ _ _ _ _ _ _ _ _ _ _ _ _ _ _ _ _ _ _ _ _ _ _ _ _ _ _ _ _ _ _ _ _ _ _ _ _ _ _ _ _ _ _ _ _ _ _ _ _ _ _ _ _ _ _ _ _ _ _ _ _ _ _ _ _ _ _ _ _ _ _ _ _ _ _ _ _ _ _ _ _ _ _ _ _ _ _ _ _ _ _ _ _ _ _ _ _ _ _ _ _ _ _ _ _ _ _ _ _ _ _ _ _ _ w1 hT1 hS1
            (try go_wp2_with (fail))
            go_meet
            case rel => exact ⟨T1, p1, bs1, bw1, q1, M1, code1, rfl, rfl, rfl, rfl, Lib.hid ⟨hT1, hS1⟩⟩
          · by_cases h3 : ok = 3
            · subst h3
              refine wp_noway (ip_arm3 (okind := 0) HARM.out _ _ _ _ _ _ _ _ _ _ _ _ _ _ _ _ _ _ _ _ _ _ _ _ _ _ _ _ _ _ _ _ _ _ _ _ _ _ _ _ _ _ _ _ _ _ _ _ _ _ _ _ _ _ _ _ _ _ _ _ _ _ _ _ _ _ _ _ _ _ _ _ _ _ _ _ _ _ _ _ _ _ _ _ _ _ _ _ _ _ _ _ _ _ _ _ _ _ _ _ _ _ _ _ _ _ _ _ _ _ _ _ _ _ _ _ _ _ _ _ _ _ _ _ _ _ _ _ _ _ _ _ _ _ _ _ _ _ _ _ _ _ _ _ _ _ _ _ _ _ _ _ _ _ _ _ _ _ _ _ _ _ _ _ _ _ _ _ _ _ _ _ _ _ _ _ _ _ _ _ _ _ _ _ _ _ _ _ _ _ _ _ _ _ _ _ _ _ _ _ _ _ _ _ _ _ _ _ _ _ _ _ _ _ _ _ _ _ _ _ _ _ _ _ _ _ _ _ _ _ _ _ _ _ _ _ _ _ _ _ _ _ _ _ _ _ _ _ _ ?_)
              intro T1 p1 bs1 bw1 q1 M1 code1 _ _ _ _ _ _ _ _ _ _ _ _ _ _ _ _ _ _ _ _ _ _ _ _ _ _ _ _ _ _ _ _ _ _ _ _ _ _ _ _ _ _ _ _ _ _ _ _ _ _ _ _ _ _ _ _ _ _ _ _ _ _ _ _ _ _ _ _ _ _ _ _ _ _ _ _ _ _ _ _ _ _ _ _ _ _ _ _ _ _ _ _ _ _ _ _ _ _ _ _ _ _ _ _ _ _ _ _ _ _ _ _ _ _ _ _ _ _ _ _ _ _ _ _ _ _ _ _ _ _ _ _ _ _ _ _ _ _ _ _ _ _ _ _ _ _ _ _ _ _ _ _ _ _ _ _ _ _ _ _ _ _ w1 hT1 hS1
              (try go_wp2_with (fail))
              go_meet
              case rel => exact ⟨T1, p1, bs1, bw1, q1, M1, code1, rfl, rfl, rfl, rfl, Lib.hid ⟨hT1, hS1⟩⟩
            · by_cases h4 : ok = 4
              · subst h4
                refine wp_noway (ip_arm4 (okind := 0) HARM.out _ _ _ _ _ _ _ _ _ _ _ _ _ _ _ _ _ _ _ _ _ _ _ _ _ _ _ _ _ _ _ _ _ _ _ _ _ _ _ _ _ _ _ _ _ _ _ _ _ _ _ _ _ _ _ _ _ _ _ _ _ _ _ _ _ _ _ _ _ _ _ _ _ _ _ _ _ _ _ _ _ _ _ _ _ _ _ _ _ _ _ _ _ _ _ _ _ _ _ _ _ _ _ _ _ _ _ _ _ _ _ _ _ _ _ _ _ _ _ _ _ _ _ _ _ _ _ _ _ _ _ _ _ _ _ _ _ _ _ _ _ _ _ _ _ _ _ _ _ _ _ _ _ _ _ _ _ _ _ _ _ _ _ _ _ _ _ _ _ _ _ _ _ _ _ _ _ _ _ _ _ _ _ _ _ _ _ _ _ _ _ _ _ _ _ _ _ _ _ _ _ _ _ _ _ _ _ _ _ _ _ _ _ _ _ _ _ _ _ _ _ _ _ _ _ _ _ _ _ _ _ _ _ _ _ _ _ _ _ _ _ _ _ _ _ _ _ _ _ ?_)
                intro T1 p1 bs1 bw1 q1 M1 code1 _ _ _ _ _ _ _ _ _ _ _ _ _ _ _ _ _ _ _ _ _ _ _ _ _ _ _ _ _ _ _ _ _ _ _ _ _ _ _ _ _ _ _ _ _ _ _ _ _ _ _ _ _ _ _ _ _ _ _ _ _ _ _ _ _ _ _ _ _ _ _ _ _ _ _ _ _ _ _ _ _ _ _ _ _ _ _ _ _ _ _ _ _ _ _ _ _ _ _ _ _ _ _ _ _ _ _ _ _ _ _ _ _ _ _ _ _ _ _ _ _ _ _ _ _ _ _ _ _ _ _ _ _ _ _ _ _ _ _ _ _ _ _ _ _ _ _ _ _ _ _ _ _ _ _ _ _ _ _ _ _ _ w1 hT1 hS1
                (try go_wp2_with (fail))
                go_meet
                case rel => exact ⟨T1, p1, bs1, bw1, q1, M1, code1, rfl, rfl, rfl, rfl, Lib.hid ⟨hT1, hS1⟩⟩
              · by_cases h5 : ok = 5
                · subst h5
                  refine wp_noway (ip_arm5 (okind := 0) HARM.out _ _ _ _ _ _ _ _ _ _ _ _ _ _ _ _ _ _ _ _ _ _ _ _ _ _ _ _ _ _ _ _ _ _ _ _ _ _ _ _ _ _ _ _ _ _ _ _ _ _ _ _ _ _ _ _ _ _ _ _ _ _ _ _ _ _ _ _ _ _ _ _ _ _ _ _ _ _ _ _ _ _ _ _ _ _ _ _ _ _ _ _ _ _ _ _ _ _ _ _ _ _ _ _ _ _ _ _ _ _ _ _ _ _ _ _ _ _ _ _ _ _ _ _ _ _ _ _ _ _ _ _ _ _ _ _ _ _ _ _ _ _ _ _ _ _ _ _ _ _ _ _ _ _ _ _ _ _ _ _ _ _ _ _ _ _ _ _ _ _ _ _ _ _ _ _ _ _ _ _ _ _ _ _ _ _ _ _ _ _ _ _ _ _ _ _ _ _ _ _ _ _ _ _ _ _ _ _ _ _ _ _ _ _ _ _ _ _ _ _ _ _ _ _ _ _ _ _ _ _ _ _ _ _ _ _ _ _ _ _ _ _ _ _ _ _ _ _ _ ?_)
                  intro T1 p1 bs1 bw1 q1 M1 code1 _ _ _ _ _ _ _ _ _ _ _ _ _ _ _ _ _ _ _ _ _ _ _ _ _ _ _ _ _ _ _ _ _ _ _ _ _ _ _ _ _ _ _ _ _ _ _ _ _ _ _ _ _ _ _ _ _ _ _ _ _ _ _ _ _ _ _ _ _ _ _ _ _ _ _ _ _ _ _ _ _ _ _ _ _ _ _ _ _ _ _ _ _ _ _ _ _ _ _ _ _ _ _ _ _ _ _ _ _ _ _ _ _ _ _ _ _ _ _ _ _ _ _ _ _ _ _ _ _ _ _ _ _ _ _ _ _ _ _ _ _ _ _ _ _ _ _ _ _ _ _ _ _ _ _ _ _ _ _ _ _ _ w1 hT1 hS1
                  (try go_wp2_with (fail))
                  go_meet
                  case rel => exact ⟨T1, p1, bs1, bw1, q1, M1, code1, rfl, rfl, rfl, rfl, Lib.hid ⟨hT1, hS1⟩⟩
                · refine wp_noway (ip_none h1 h3 h4 h5 HARM.out _ _ _ _ _ _ _ _ _ _ _ _ _ _ _ _ _ _ _ _ _ _ _ _ _ _ _ _ _ _ _ _ _ _ _ _ _ _ _ _ _ _ _ _ _ _ _ _ _ _ _ _ _ _ _ _ _ _ _ _ _ _ _ _ _ _ _ _ _ _ _ _ _ _ _ _ _ _ _ _ _ _ _ _ _ _ _ _ _ _ _ _ _ _ _ _ _ _ _ _ _ _ _ _ _ _ _ _ _ _ _ _ _ _ _ _ _ _ _ _ _ _ _ _ _ _ _ _ _ _ _ _ _ _ _ _ _ _ _ _ _ _ _ _ _ _ _ _ _ _ _ _ _ _ _ _ _ _ _ _ _ _ _ _ _ _ _ _ _ _ _ _ _ _ _ _ _ _ _ _ _ _ _ _ _ _ _ _ _ _ _ _ _ _ _ _ _ _ _ _ _ _ _ _ _ _ _ _ _ _ _ _ _ _ _ _ _ _ _ _ _ _ _ _ _ _ _ _ _ _ _ _ _ _ _ _ _ _ _ _ _ _ _ _ _ _ _ _ _ ?_)
                  intro T1 p1 bs1 bw1 q1 M1 code1 _ _ _ _ _ _ _ _ _ _ _ _ _ _ _ _ _ _ _ _ _ _ _ _ _ _ _ _ _ _ _ _ _ _ _ _ _ _ _ _ _ _ _ _ _ _ _ _ _ _ _ _ _ _ _ _ _ _ _ _ _ _ _ _ _ _ _ _ _ _ _ _ _ _ _ _ _ _ _ _ _ _ _ _ _ _ _ _ _ _ _ _ _ _ _ _ _ _ _ _ _ _ _ _ _ _ _ _ _ _ _ _ _ _ _ _ _ _ _ _ _ _ _ _ _ _ _ _ _ _ _ _ _ _ _ _ _ _ _ _ _ _ _ _ _ _ _ _ _ _ _ _ _ _ _ _ _ _ _ _ _ _ w1 hT1 hS1
                  (try go_wp2_with (fail))
                  go_meet
                  case rel => exact ⟨T1, p1, bs1, bw1, q1, M1, code1, rfl, rfl, rfl, rfl, Lib.hid ⟨hT1, hS1⟩⟩
        case rest =>
          obtain ⟨T, p, bs, bw, q, M, code, rfl, rfl, rfl, rfl, HS⟩ := hcut
          have hgo : (j : Int) < 40 := hkJ
          go_step
          refine wp_noway2 (ip_rest HS.out.2 HB0.out.2.1 HX2.out.1 HX2.out.2.1 HM.out.2.1 _ _ _ _ _ _ _ _ _ _ _ _ _ _ _ _ _ _ _ _ _ _ _ _ _ _ _ _ _ _ _ _ _ _ _ _ _ _ _ _ _ _ _ _ _ _ _ _ _ _ _ _ _ _ _ _ _ _ _ _ _ _ _ _ _ _ _ _ _ _ _ _ _ _ _ _ _ _ _ _ _ _ _ _ _ _ _ _ _ _ _ _ _ _ _ _ _ _ _ _ _ _ _ _ _ _ _ _ _ _ _ _ _ _ _ _ _ _ _ _ _ _ _ _ _ _ _ _ _ _ _ _ _ _ _ _ _ _ _ _ _ _ _ _ _ _ _ _ _ _ _ _ _ _ _ _ _ _ _ _ _ _ _ _ _ _ _ _ _ _ _ _ _ _ _ _ _ _ _ _ _ _ _ _ _ _ _ _ _ _ _ _ _ _ _ _ _ _ _ _ _ _ _ _ _ _ _ _ _ _ _ _ _ _ _ _ _ _ _ _ _ _ _ _ _ _ _ _ _ _ _ _ _ _ _ _ _ _ _ _ _ _ _ _ _ _ _ _ _ _ _ _ ?_)
          intro _ _ _ _ _ _ _ _ _ _ _ _ _ _ _ _ _ _ _ _ _ _ _ _ _ _ _ _ _ _ _ _ _ _ _ _ _ _ _ _ _ _ _ _ _ _ _ _ _ _ _ _ _ _ _ _ _ _ _ _ w1 hS1
          have HS1 := Lib.hid hS1
          clear hS1
          dsimp only
          go_wp2_with (fail)
          go_roundg (40 - (j + 1))
          case measure => omega
          case rel => exact ⟨j + 1, T, p, bs, bw, q, M, by omega, by have := HJ.out.1; omega, by omega, by simp, rfl, rfl, Lib.hid ⟨HS.out.1, HS1.out⟩⟩
      · have hx' : (¬ (j : Int) < (L.length : Int)) ∨ ((j : Int) < (L.length : Int) ∧ ¬ (j : Int) < 40) := by omega
        clear hgo
        rcases hx' with hx1 | ⟨hx1, hx2⟩
        all_goals
          go_wp2_with (fail)
          go_ret
          exact ⟨rfl, HB0.out.1.trans (lower' HS.out.2.box.below (by have := HB0.out.2.2; omega))⟩
  · have hop := openI_bad HX7.out.disk hsz n k (by rw [HX7.out.sizeM]; exact hfit)
    have hft := rfits_any m (by have := HM.out.2.1; omega) n k HM.out.2.2.1 HM.out.2.2.2 W7
    rw [decide_eq_false hfit] at hft
    have HOP := Lib.hid hop
    have HFT := Lib.hid hft
    clear hop hft hsz hfit ga
    go_wp2_with (first
      | (go_at_call 29; (with_reducible refine HOP.out.mono ?_); rintro e w5 ⟨rfl, rfl⟩)
      | (go_at_call 30; (with_reducible refine HFT.out.mono ?_); rintro e w6 ⟨rfl, rfl⟩)
      | go_in)
    go_ret
    exact ⟨rfl, HB0.out.1.trans (lower' HX7.out.below (by have := HB0.out.2.2; omega))⟩
theorem imagePlays_walk (m n k : Int) (A : Option Addr) (L : List OpL) (c : Nat) (w : World) (hn : -9223372036854775808 ≤ n ∧ n ≤ 9223372036854775807) (hk : -9223372036854775808 ≤ k ∧ k ≤ 9223372036854775807) (hr : Rd w w.heap.size A (opsL L)) (ho : ∀ o ∈ L, o.ok w w.heap.size) :
    Calls Try.prog 5 #[.agg #[.int .i64 m, .int .i64 n, .int .i64 k], .slice A L.length c] w fun e w' => e = .returned (.bool true) ∧ Below w.heap.size w w' := by
  by_cases h : m < 1 ∨ 40 < m
  · exact imagePlays_out m n k A L c w h
  · obtain ⟨j, rfl⟩ : ∃ j : Nat, m = j := ⟨m.toNat, by omega⟩
    exact imagePlays_in j n k A L c w (by omega) (by omega) hn hk hr ho
end Go.Proofs.Ytdjcpjfomgfjlaa
