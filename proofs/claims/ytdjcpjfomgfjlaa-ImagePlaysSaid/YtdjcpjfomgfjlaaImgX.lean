/- The document's image: Save. -/
import Derived.Test.YtdjcpjfomgfjlaaImgW
import Derived.Test.YtdjcpjfomgfjlaaByZ
import Derived.Deep.CutBlock
import Derived.Deep.CutRange
namespace Go.Proofs.Ytdjcpjfomgfjlaa
open Go.RowKit Go.Maps

theorem ba_mid (x : List UInt8) (a : Nat) : (⟨x.toArray⟩ : ByteArray).extract a (min (a + 64) x.length) = ⟨((x.drop a).take 64).toArray⟩ := by
  apply ByteArray.ext
  apply Array.ext'
  simp only [ByteArray.data_extract, Array.toList_extract, List.extract]
  rw [List.take_eq_take_iff]
  simp
  omega
theorem chunks_take (d : List UInt8) {k : Nat} (h : k < secs d.length) : (chunks d).take (k + 1) = (chunks d).take k ++ [chunk d k] := by
  have hl : k < (chunks d).length := by rw [chunks_len]; exact h
  rw [List.take_succ_eq_append_getElem hl]
  congr 1
  simp [chunks, chunk]
theorem RefV.rwr {wr : World} {X : List Nat} {M : DM} {T : Nat} {v : Value} (hv : RefV wr X (refOf M) v) (hk : M.Ok T) (hp : 0 < M.size) (hX : ∀ x ∈ X, x < wr.heap.size) (a0 : Nat) (A : Option Addr) (c B : Nat) (bs : List (List UInt8)) (hst : M.steps + bs.length ≤ 1000000000) (hr : Rd wr B A (strs bs)) (hB : B ≤ wr.heap.size) (h64 : ∀ b ∈ bs, b.length = 64) (hat : a0 + bs.length ≤ M.size) :
    Calls Try.prog 65 #[v, .int .i64 (a0 : Int), .slice A bs.length c] wr fun e w' => ∃ B1 B2 B3 m1 m2 m3 d1 d2 d3 s l, e = .returned (.tuple #[.agg #[.slice B1 m1 d1, .slice B2 m2 d2, .slice B3 m3 d3, .int .i64 s, .int .i64 l], .int .i64 (runOps (wrs a0 bs ++ [none]) M).1]) ∧ RefV w' X (refOf (runOps (wrs a0 bs ++ [none]) M).2) (.agg #[.slice B1 m1 d1, .slice B2 m2 d2, .slice B3 m3 d3, .int .i64 s, .int .i64 l]) ∧ Below wr.heap.size wr w' := by
  refine (rwr_any wr X M T v hv hk hp hX a0 A c B bs hst hr hB h64 hat).mono ?_
  rintro e w' ⟨v', rfl, hR, hb⟩
  have hR' := hR
  obtain ⟨A1, A2, A3, c1, c2, c3, rfl, _, _, _⟩ := hR'
  exact ⟨_, _, _, _, _, _, _, _, _, _, _, rfl, hR, hb⟩
theorem RBox.lt {w wr : World} {X : List Nat} {M : DM} (h : RBox w wr X M) (hX : ∀ x ∈ X, x < w.heap.size) : ∀ x ∈ w.heap.size :: (w.heap.size + 1) :: X, x < wr.heap.size := by
  intro x hx
  have := heap_lt h.res
  rcases List.mem_cons.1 hx with rfl | hx
  · omega
  · rcases List.mem_cons.1 hx with rfl | hx
    · omega
    · exact Nat.lt_of_lt_of_le (hX x hx) h.below.size
theorem run_if {x x2 : Int} {o : List DOp} {M M2 : DM} (h : (if x = 0 then runOps o M else (x, M)) = (x2, M2)) (hx : x = 0 ∨ x = 30) : M2.size = M.size ∧ M2.steps ≤ M.steps + o.length ∧ M2.left ≤ M.left ∧ (x2 = 0 ∨ x2 = 30) := by
  by_cases h0 : x = 0
  · rw [if_pos h0] at h
    have := runOps_facts o M
    rw [h] at this
    exact this
  · rw [if_neg h0] at h
    injection h with e1 e2
    subst e1 e2
    exact ⟨rfl, Nat.le_add_right _ _, Nat.le_refl _, hx⟩
theorem run_three {o1 o2 o3 : List DOp} {M M1 M2 M3 : DM} {x1 x2 x3 : Int} (h1 : runOps o1 M = (x1, M1)) (h2 : (if x1 = 0 then runOps o2 M1 else (x1, M1)) = (x2, M2)) (h3 : (if x2 = 0 then runOps o3 M2 else (x2, M2)) = (x3, M3)) : runOps (o1 ++ (o2 ++ o3)) M = (x3, M3) := by
  rw [runOps_append, h1]
  dsimp only
  by_cases h0 : x1 = 0
  · rw [if_pos h0] at h2 ⊢
    rw [runOps_append, h2]
    exact h3
  · rw [if_neg h0] at h2 ⊢
    injection h2 with e1 e2
    subst e1 e2
    rw [if_neg h0] at h3
    exact h3
theorem rd_new1 (W : World) (l : List UInt8) : Rd (W.alloc (.cells #[.string ⟨l.toArray⟩] 9)) (W.alloc (.cells #[.string ⟨l.toArray⟩] 9)).heap.size (some ⟨W.heap.size, 0, none⟩) (strs [l]) := by
  have := Rd.new W #[.string ⟨l.toArray⟩] 9 (0, 0)
  rw [alloc1_size]
  exact this
/-- The disk's box, and a row of texts behind it. -/
def SvW (w : World) (X : List Nat) (lo : Nat) (v : Value) (n : Nat) (cs : List Value) (wr : World) (M : DM) : Prop := RBox w wr X M ∧ wr.ownsRow lo 9 1 v n cs
theorem SvW.put {w wr w' : World} {X : List Nat} {lo n : Nat} {v : Value} {cs : List Value} {M : DM} (h : SvW w X lo v n cs wr M) (hlo : w.heap.size < lo) (hb : Below wr.heap.size wr w') {M' : DM} {B1 B2 B3 : Option Addr} {m1 m2 m3 d1 d2 d3 : Nat} {s l : Int} (hR : RefV w' (w.heap.size :: (w.heap.size + 1) :: X) (refOf M') (.agg #[.slice B1 m1 d1, .slice B2 m2 d2, .slice B3 m3 d3, .int .i64 s, .int .i64 l])) :
    SvW w X lo v n cs (((((w'.setCell ⟨w.heap.size, 0, none⟩ (.slice B1 m1 d1)).setCell ⟨w.heap.size, 1, none⟩ (.slice B2 m2 d2)).setCell ⟨w.heap.size, 2, none⟩ (.slice B3 m3 d3)).setCell ⟨w.heap.size, 3, none⟩ (.int .i64 s)).setCell ⟨w.heap.size, 4, none⟩ (.int .i64 l)) M' := by
  have hf : Fr w' (((((w'.setCell ⟨w.heap.size, 0, none⟩ (.slice B1 m1 d1)).setCell ⟨w.heap.size, 1, none⟩ (.slice B2 m2 d2)).setCell ⟨w.heap.size, 2, none⟩ (.slice B3 m3 d3)).setCell ⟨w.heap.size, 3, none⟩ (.int .i64 s)).setCell ⟨w.heap.size, 4, none⟩ (.int .i64 l)) [w.heap.size] := (((((Fr.refl _ _).setCell (by simp) _).setCell (by simp) _).setCell (by simp) _).setCell (by simp) _).setCell (by simp) _
  refine ⟨h.1.put hb hR, rowFrS (own_below h.2 hb (Nat.le_refl _)) hf fun s hs hm => ?_⟩
  have := (World.ownsRow.lt h.2 s (by simpa using hs)).1
  rw [List.mem_singleton.1 hm] at this
  omega
theorem SvW.kept {w wr w' : World} {X : List Nat} {lo n : Nat} {v : Value} {cs : List Value} {M : DM} (h : SvW w X lo v n cs wr M) (hb : Below wr.heap.size wr w') : SvW w X lo v n cs w' M := ⟨h.1.kept hb, own_below h.2 hb (Nat.le_refl _)⟩
set_option maxRecDepth 100000 in
set_option maxHeartbeats 4000000 in
theorem rsave_ok (w : World) (X : List Nat) (M : DM) (T : Nat) (v : Value) (hv : RefV w X (refOf M) v) (hk : M.Ok T) (hst : M.steps + 5000 ≤ 1000000000) (hX : ∀ x ∈ X, x < w.heap.size) (hful : M.full) (first count : Nat) (hfit : first + 2 * count ≤ M.size) (hc2 : 2 ≤ count) (s : Int) (d : List UInt8) (hbad : ¬ saveBad M first count s d) :
    Calls Try.prog 32 #[v, .int .i64 (first : Int), .int .i64 (count : Int), .int .i64 s, .string ⟨d.toArray⟩] w fun e w' => ∃ v', e = .returned (.tuple #[v', .int .i64 (saveR M first count s d).1]) ∧ RefV w' X (refOf (saveR M first count s d).2) v' ∧ Below w.heap.size w w' := by
  have hz := hk.size
  have hv' := hv
  obtain ⟨A1, A2, A3, c1, c2, c3, rfl, _, _, _⟩ := hv'
  obtain ⟨n1, hn1⟩ : ∃ n, n = (refOf M).sure.length := ⟨_, rfl⟩
  obtain ⟨n2, hn2⟩ : ∃ n, n = (refOf M).now.length := ⟨_, rfl⟩
  obtain ⟨n3, hn3⟩ : ∃ n, n = (refOf M).fresh.length := ⟨_, rfl⟩
  obtain ⟨sx, hsx⟩ : ∃ n, n = (refOf M).steps := ⟨_, rfl⟩
  obtain ⟨lx, hlx⟩ : ∃ n, n = (refOf M).left := ⟨_, rfl⟩
  rw [← hn1, ← hn2, ← hn3, ← hsx, ← hlx] at hv ⊢
  have h2 := RBox.new hv (by omega)
  obtain ⟨Rz, hRz⟩ : ∃ Rz, Rz = saveR M first count s d := ⟨_, rfl⟩
  rw [← hRz]
  unfold saveBad at hbad
  unfold saveR at hRz
  rw [if_neg (by omega), if_neg (by omega), if_neg (by omega)] at hRz
  obtain ⟨sn, rfl⟩ : ∃ n : Nat, s = n := ⟨s.toNat, by omega⟩
  rw [show ((sn : Nat) : Int).toNat = sn from by omega, save_three] at hRz
  have hto := to_eq M.get first count
  have hOle := areaO_le M.get first count
  obtain ⟨O, hO⟩ : ∃ O, O = areaO M.get first count := ⟨_, rfl⟩
  rw [← hO] at hto hRz hOle
  rw [seqI_counts] at hbad
  have hct := fun (W : World) (P1 P2 P3 : Option Addr) (p1 p2 p3 e1 e2 e3 : Nat) (s l : Int) (h : RefV W (w.heap.size :: (w.heap.size + 1) :: X) (refOf M) (.agg #[.slice P1 p1 e1, .slice P2 p2 e2, .slice P3 p3 e3, .int .i64 s, .int .i64 l])) => h.rcounts hful hfit hz hc2
  generalize countsR M.get first count = K at hbad hto hct
  obtain ⟨k1, k2, k3⟩ := K
  unfold countsV at hct
  dsimp only at hct hbad hto
  have hrm : d.length ≤ (count - 1) * 64 := by unfold roomI at hbad; omega
  have g1 : ¬ (sn : Int) < 1 := by omega
  have g2 : ¬ (4611686018427387904 : Int) < (sn : Int) := by omega
  have g3 : ¬ (sn : Int) ≤ (k2 : Int) := by omega
  have g4 : ¬ 64 * ((count : Int) - 1) < (d.length : Int) := by omega
  have hca : 2 ≤ (count : Int) := by omega
  have hcb : (first : Int) + 2 * (count : Int) ≤ 4096 := by omega
  have hdl : (d.length : Int) ≤ 262144 := by omega
  have hOI : (O : Int) + (count : Int) ≤ 4096 := by omega
  have hOle' : O + count ≤ M.size := by omega
  have HCT := Lib.hid hct
  have HTO := Lib.hid hto
  have HRZ := Lib.hid hRz
  have HK := Lib.hid (And.intro hk (And.intro hst (And.intro hX (And.intro hrm hOle'))))
  clear hn1 hn2 hn3 hsx hlx hv hz hful hfit hc2 hbad hRz hct hto hOle hk hst hX hrm hO hOle'
  obtain ⟨B, hcs⟩ : ∃ B : Bool, ((first : Int) = (O : Int) ∧ B = false ∧ ((¬ 0 < (k2 : Int)) ∨ (0 < (k2 : Int) ∧ ¬ (k1 : Int) = (first : Int)))) ∨ ((first : Int) + (count : Int) = (O : Int) ∧ B = true ∧ 0 < (k2 : Int) ∧ k1 = first) := by
    have h := HTO.out
    by_cases q1 : 0 < k2
    · by_cases q2 : k1 = first
      · rw [if_pos ⟨q1, q2⟩] at h; exact ⟨true, .inr ⟨by omega, rfl, by omega, q2⟩⟩
      · rw [if_neg (fun h => q2 h.2)] at h; exact ⟨false, .inl ⟨by omega, rfl, .inr ⟨by omega, by omega⟩⟩⟩
    · rw [if_neg (fun h => q1 h.1)] at h; exact ⟨false, .inl ⟨by omega, rfl, .inl (by omega)⟩⟩
  clear HTO
  go_enter Try.func32, Try.ntmps32
  go_upto_region 1 with (fail)
  generalize ((w.alloc (.cells #[.slice A1 n1 c1, .slice A2 n2 c2, .slice A3 n3 c3, .int .i64 sx, .int .i64 lx] 33)).alloc (.cells #[.slice none 0 0, .slice none 0 0, .slice none 0 0, .int .i64 0, .int .i64 0] 33)) = W2 at h2 ⊢
  obtain ⟨P1, P2, P3, p1, p2, p3, e1, e2, e3, sk, lk, hg, hvk⟩ := h2.box
  have HC := Lib.hid (HCT.out W2 _ _ _ _ _ _ _ _ _ _ _ hvk)
  have y0 := cell_of_row W2 (w.heap.size) 0 _ _ _ hg; have y1 := cell_of_row W2 (w.heap.size) 1 _ _ _ hg; have y2 := cell_of_row W2 (w.heap.size) 2 _ _ _ hg; have y3 := cell_of_row W2 (w.heap.size) 3 _ _ _ hg; have y4 := cell_of_row W2 (w.heap.size) 4 _ _ _ hg
  have H2 := Lib.hid h2
  clear hg hvk h2
  go_upto_region 2 with (go_at_call 64; (with_reducible refine HC.out.mono ?_); rintro e w3 ⟨rfl, hb3⟩)
  have H3 := Lib.hid (H2.out.kept hb3)
  clear hb3 HC HCT y0 y1 y2 y3 y4
  have HCS := Lib.hid hcs
  clear hcs
  go_upto_region 9 with (fail)
  go_cut [53] from 28 to 52 (fun t w' => t = .bool B ∧ w3 = w')
  case first =>
    rcases HCS.out with ⟨hOE, hB, r1 | ⟨r1, r2⟩⟩ | ⟨hOE, hB, r1, rfl⟩
    all_goals
      have HB := Lib.hid hB
      clear hOE hB
      go_wp2_with (fail)
      go_meet
      case rel => exact ⟨by first | (rw [HB.out]; done) | (rw [HB.out]; simp [*]), rfl⟩
  case rest =>
  obtain ⟨rfl, rfl⟩ := hcut
  go_upto_if 53 with (fail)
  go_cut [15] from 28 to 56 (fun t w' => t = .int .i64 (O : Int) ∧ w3 = w')
  case first =>
    rcases HCS.out with ⟨hOE, rfl, -⟩ | ⟨hOE, rfl, -⟩
    all_goals
      have HOE := Lib.hid hOE
      clear hOE
      go_wp2_with (fail)
      go_meet
      case rel => exact ⟨by rw [← HOE.out]; try rfl, rfl⟩
  case rest =>
  obtain ⟨rfl, rfl⟩ := hcut
  go_upto_block 0 with (fail)
  go_cut [16, 17, 18] from 57 to 81 (fun r i x w' => ∃ (A : Option Addr) (c : Nat), r = .slice A (secs d.length) c ∧ w'.ownsRow w3.heap.size 9 1 (.slice A (secs d.length) c) (secs d.length) (strs (chunks d)) ∧ Below w3.heap.size w3 w')
  case first =>
    go_wp2_with (fail)
    go_loopw [16, 17, 18] (fun r i _ wr => ∃ (k : Nat) (A : Option Addr) (c : Nat), k ≤ secs d.length ∧ i = .int .i64 (64 * (k : Int)) ∧ r = .slice A k c ∧ wr.ownsRow w3.heap.size 9 1 (.slice A k c) k (strs ((chunks d).take k)) ∧ Below w3.heap.size w3 wr)
      (fun _ i _ _ => secs d.length - (intOf i).toNat / 64)
    case atStart => exact ⟨0, none, 0, by omega, rfl, rfl, by simpa [strs] using World.ownsRow_nil w3 w3.heap.size 9 1, Below.refl _ _⟩
    case round =>
      obtain ⟨k, A, c, hks, rfl, rfl, hown, hb⟩ := hrel
      by_cases hkn : k < secs d.length
      · have hkd : 64 * (k : Int) < (d.length : Int) := by unfold secs at hkn; omega
        obtain ⟨L, hL⟩ : ∃ L, L = (d.drop (k * 64)).take 64 := ⟨_, rfl⟩
        have hLl : L.length ≤ 64 := by rw [hL, List.length_take]; omega
        have hex : (⟨d.toArray⟩ : ByteArray).extract (64 * k) (min (64 * (k : Int) + 64) (d.length : Int)).toNat = ⟨L.toArray⟩ := by
          rw [show (min (64 * (k : Int) + 64) (d.length : Int)).toNat = min (k * 64 + 64) d.length by omega, Nat.mul_comm 64 k, ba_mid, hL]
        obtain ⟨z, hz⟩ : ∃ z, z = 64 - L.length := ⟨_, rfl⟩
        have hzI : 64 - (L.length : Int) = (z : Int) := by omega
        have hmk := makeBytes z (by omega) wr
        rw [← hzI] at hmk
        obtain ⟨Zs, hZs⟩ : ∃ Zs, Zs = List.replicate z (0 : UInt8) := ⟨_, rfl⟩
        have hZl : Zs.length = z := by rw [hZs, List.length_replicate]
        rw [← hZs] at hmk
        have hch : chunk d k = L ++ Zs := by rw [hZs, hz, hL]; rfl
        have hst := strAt (n := z) (c := z) (Rd.new wr (u8s Zs).toArray 5 (0, 0)) hZl.symm
        have hns : ¬ 9223372036854775807 < L.length + Zs.length := by omega
        have hLI : (L.length : Int) ≤ 64 := by omega
        have hb5 : Below w3.heap.size w3 (wr.alloc (.cells (u8s Zs).toArray 5)) := hb.alloc hb.size _
        have ho5 := World.ownsRow.alloc hown (.cells (u8s Zs).toArray 5)
        have hex2 := hex
        have HX := Lib.hid (And.intro ho5 (And.intro hb5 (And.intro hkn (And.intro hch hb.size))))
        clear hown hb hkn hL hz hZs hZl hch ho5 hb5 hzI hLl
        go_upto_region 16 with (fail)
        rw [hex2]
        clear hex hex2
        go_upto_region 17 with (fail)
        rw [ba_app]
        clear hmk hst hns
        generalize wr.alloc (.cells (u8s Zs).toArray 5) = W5 at HX ⊢
        rw [← HX.out.2.2.2.1]
        generalize hC : chunk d k = C
        have HC := Lib.hid hC
        clear hC
        obtain ⟨i0, hi, hz0, hz1, hz2⟩ := info_parts infoStr
        have hk4 : (k + 1) * 16 ≤ 140737488355328 := by omega
        go_wp2_with (at_builtin; refine wpList_appR _ rfl (.tmp 78) (.tmp 80) _ rfl w3.heap.size 9 i0 _ 1 16 Try.underlying30 hi hz0 hz1 hz2 rfl (by omega) (.slice A k c) k (strs ((chunks d).take k)) rfl (World.ownsRow.alloc HX.out.1 _) (W5.heap.size + 1) (some ⟨W5.heap.size, 0, none⟩) 1 1 [.string ⟨C.toArray⟩] rfl rfl (Rd.new W5 _ _ _) (by simp [Value.oneCell']) hk4 (by omega) (by have := HX.out.2.1.size; simp; omega) ?_; intro v6 w6 hown6 hg6 hat6; obtain ⟨g6, c6, rfl, _⟩ := own_form hown6 (by omega); have HO6 := Lib.hid (And.intro hown6 hg6); clear hown6 hg6 hat6)
        have hx := HX.out
        refine ⟨⟨k + 1, some ⟨g6, 0, none⟩, c6, hx.2.2.1, by simp; omega, rfl, ?_, ?_⟩, by simp [intOf]; have := hx.2.2.1; omega⟩
        · rw [chunks_take d hx.2.2.1, ← HC.out] at *
          simpa [strs] using HO6.out.1
        · exact (hx.2.1.alloc hx.2.1.size _).trans (grown_below' HO6.out.2 (fun j hj => (World.ownsRow.lt hx.1 j hj).1) (by have := hx.2.1.size; simp; omega))
      · have hke : k = secs d.length := by omega
        subst hke
        have hkd : ¬ 64 * (secs d.length : Int) < (d.length : Int) := by unfold secs; omega
        have HX := Lib.hid (And.intro hown hb)
        clear hown hb hks hkn
        go_wp2_with (fail)
        go_meet
        case rel => exact ⟨A, c, rfl, by rw [show (chunks d).take (secs d.length) = chunks d from List.take_of_length_le (by rw [chunks_len]; omega)] at HX; exact HX.out.1, HX.out.2⟩
  case rest =>
    obtain ⟨A, c, rfl, hown, hb⟩ := hcut
    have hbx := H3.out.kept hb
    obtain ⟨P1, P2, P3, p1, p2, p3, e1, e2, e3, sk, lk, hg, hvk⟩ := hbx.box
    have hxx := hbx.lt HK.out.2.2.1
    obtain ⟨x1, M1, hRr⟩ : ∃ x1 M1, runOps (wrs O [zero64] ++ [none]) M = (x1, M1) := ⟨_, _, rfl⟩
    have hw1 : ∀ (W : World) (g : Nat), Below wc.heap.size wc W → Rd W W.heap.size (some ⟨g, 0, none⟩) (strs [zero64]) → _ := fun W g hW hr => (hvk.below hW).rwr HK.out.1 (by have := HK.out.2.2.2.2; omega) (fun x hx => Nat.lt_of_lt_of_le (hxx x hx) hW.size) O (some ⟨g, 0, none⟩) 1 W.heap.size [zero64] (by have := HK.out.2.1; simp; omega) hr (Nat.le_refl _) (by simp [zero64_len]) (by have := HK.out.2.2.2.2; simp; omega)
    simp only [hRr, List.length_singleton] at hw1
    have y0 := cell_of_row wc (w.heap.size) 0 _ _ _ hg; have y1 := cell_of_row wc (w.heap.size) 1 _ _ _ hg; have y2 := cell_of_row wc (w.heap.size) 2 _ _ _ hg; have y3 := cell_of_row wc (w.heap.size) 3 _ _ _ hg; have y4 := cell_of_row wc (w.heap.size) 4 _ _ _ hg
    have hm0 := make64 wc
    have hm1 := make64 wc.drew
    have z1 := strAt (n := 64) (c := 64) (Rd.new wc (u8s zero64).toArray 5 (0, 0)) zero64_len.symm
    have z2 := strAt (n := 64) (c := 64) (Rd.new wc (u8s zero64).toArray 5 (0, 0)).drew zero64_len.symm
    have z3 := strAt (n := 64) (c := 64) (Rd.new wc.drew (u8s zero64).toArray 5 (0, 0)) zero64_len.symm
    have hbA : Below wc.heap.size wc (wc.alloc (.cells (u8s zero64).toArray 5)) := (Below.refl _ _).alloc (Nat.le_refl _) _
    have hbB : Below wc.heap.size wc ((wc.alloc (.cells (u8s zero64).toArray 5)).alloc (.cells #[.string ⟨zero64.toArray⟩] 9)) := hbA.alloc (by simp) _
    have hgA := (hbA.block _ (heap_lt hg)).trans hg
    have hgB := (hbB.block _ (heap_lt hg)).trans hg
    have ya0 := cell_of_row (wc.alloc (.cells (u8s zero64).toArray 5)) (w.heap.size) 0 _ _ _ hgA; have ya1 := cell_of_row (wc.alloc (.cells (u8s zero64).toArray 5)) (w.heap.size) 1 _ _ _ hgA; have ya2 := cell_of_row (wc.alloc (.cells (u8s zero64).toArray 5)) (w.heap.size) 2 _ _ _ hgA; have ya3 := cell_of_row (wc.alloc (.cells (u8s zero64).toArray 5)) (w.heap.size) 3 _ _ _ hgA; have ya4 := cell_of_row (wc.alloc (.cells (u8s zero64).toArray 5)) (w.heap.size) 4 _ _ _ hgA
    have yb0 := cell_of_row ((wc.alloc (.cells (u8s zero64).toArray 5)).alloc (.cells #[.string ⟨zero64.toArray⟩] 9)) (w.heap.size) 0 _ _ _ hgB; have yb1 := cell_of_row ((wc.alloc (.cells (u8s zero64).toArray 5)).alloc (.cells #[.string ⟨zero64.toArray⟩] 9)) (w.heap.size) 1 _ _ _ hgB; have yb2 := cell_of_row ((wc.alloc (.cells (u8s zero64).toArray 5)).alloc (.cells #[.string ⟨zero64.toArray⟩] 9)) (w.heap.size) 2 _ _ _ hgB; have yb3 := cell_of_row ((wc.alloc (.cells (u8s zero64).toArray 5)).alloc (.cells #[.string ⟨zero64.toArray⟩] 9)) (w.heap.size) 3 _ _ _ hgB; have yb4 := cell_of_row ((wc.alloc (.cells (u8s zero64).toArray 5)).alloc (.cells #[.string ⟨zero64.toArray⟩] 9)) (w.heap.size) 4 _ _ _ hgB
    have hrd := (Rd.new (wc.alloc (.cells (u8s zero64).toArray 5)) #[.string ⟨zero64.toArray⟩] 9 (0, 0)).drew
    rw [alloc1_size] at hrd
    have hrd2 : Rd ((wc.alloc (.cells (u8s zero64).toArray 5)).alloc (.cells #[.string ⟨zero64.toArray⟩] 9)).drew ((wc.alloc (.cells (u8s zero64).toArray 5)).alloc (.cells #[.string ⟨zero64.toArray⟩] 9)).drew.heap.size (some ⟨wc.heap.size + 1, 0, none⟩) (strs [zero64]) := hrd.more (by simp)
    have HRD := Lib.hid hrd2
    have HBB := Lib.hid (And.intro hbB.drew (And.intro hgB (hbx.kept hbB.drew)))
    clear hrd hrd2
    have HW1 := Lib.hid hw1
    have HX1 := Lib.hid (And.intro hown (And.intro hb (And.intro hbx (And.intro hg hRr))))
    clear hown hb hbx hg hvk hxx hRr hw1 hbA hbB hgA hgB
    have hSV : SvW w X w3.heap.size (.slice A (secs d.length) c) (secs d.length) (strs (chunks d)) wc M := ⟨HX1.out.2.2.1, HX1.out.1⟩
    have HSV := Lib.hid hSV
    have HLO : Hid (w.heap.size < w3.heap.size) := Lib.hid (by have := heap_lt H3.out.res; omega)
    clear hSV
    go_upto_region 18 with (fail)
    go_cut [19] from 82 to 90 (fun x w' => x = .int .i64 x1 ∧ Hid (SvW w X w3.heap.size (.slice A (secs d.length) c) (secs d.length) (strs (chunks d)) w' M1))
    case first =>
      go_region_with (go_at_call 65; (with_reducible refine (HW1.out _ _ HBB.out.1 HRD.out).mono ?_); rintro e w9 ⟨B1, B2, B3, r1, r2, r3, f1, f2, f3, s9, l9, rfl, hR9, hb9⟩; have hg9 := (hb9.block _ (heap_lt HBB.out.2.1)).trans HBB.out.2.1; have u0 := cell_of_row (w9) (w.heap.size) 0 _ _ _ hg9; have u1 := cell_of_row (w9) (w.heap.size) 1 _ _ _ hg9; have u2 := cell_of_row (w9) (w.heap.size) 2 _ _ _ hg9; have u3 := cell_of_row (w9) (w.heap.size) 3 _ _ _ hg9; have u4 := cell_of_row (w9) (w.heap.size) 4 _ _ _ hg9; have t0 := frozen_of_row (w9) (w.heap.size) 0 _ _ hg9; have t1 := frozen_of_row (w9) (w.heap.size) 1 _ _ hg9; have t2 := frozen_of_row (w9) (w.heap.size) 2 _ _ hg9; have t3 := frozen_of_row (w9) (w.heap.size) 3 _ _ hg9; have t4 := frozen_of_row (w9) (w.heap.size) 4 _ _ hg9)
      all_goals
        have HS9 := Lib.hid ((HSV.out.kept HBB.out.1).put HLO.out hb9 hR9)
        generalize (((((w9.setCell ⟨w.heap.size, 0, none⟩ (.slice B1 r1 f1)).setCell ⟨w.heap.size, 1, none⟩ (.slice B2 r2 f2)).setCell ⟨w.heap.size, 2, none⟩ (.slice B3 r3 f3)).setCell ⟨w.heap.size, 3, none⟩ (.int .i64 s9)).setCell ⟨w.heap.size, 4, none⟩ (.int .i64 l9)) = w10 at HS9 ⊢
        clear hb9 hR9 hg9 u0 u1 u2 u3 u4 t0 t1 t2 t3 t4 z1 z2 z3 hm0 hm1
        (try go_wp2_with (fail))
        go_meet
        case rel => exact ⟨rfl, HS9⟩
    case rest =>
      obtain ⟨rfl, HS10⟩ := hcut
      clear HW1 HBB HRD HSV y0 y1 y2 y3 y4 ya0 ya1 ya2 ya3 ya4 yb0 yb1 yb2 yb3 yb4 z1 z2 z3 hm0 hm1
      have hf1 := runOps_facts (wrs O [zero64] ++ [none]) M
      rw [HX1.out.2.2.2.2] at hf1
      dsimp only at hf1
      obtain ⟨x2, M2, hR2⟩ : ∃ x2 M2, (if x1 = 0 then runOps (wrs (O + 1) (chunks d) ++ [none]) M1 else (x1, M1)) = (x2, M2) := ⟨_, _, rfl⟩
      have hf2 := run_if hR2 hf1.2.2.2
      obtain ⟨x3, M3, hR3⟩ : ∃ x3 M3, (if x2 = 0 then runOps (wrs O [headI sn d.length] ++ [none]) M2 else (x2, M2)) = (x3, M3) := ⟨_, _, rfl⟩
      have HZR : Hid (Rz = (x3, M3)) := Lib.hid (HRZ.out.trans (run_three HX1.out.2.2.2.2 hR2 hR3))
      have hl1 : (wrs O [zero64] ++ [none]).length = 2 := by simp [wrs_len]
      have hl2 : (wrs (O + 1) (chunks d) ++ [none]).length = secs d.length + 1 := by simp [wrs_len, chunks_len]
      have hsd : secs d.length ≤ count - 1 := by have := HK.out.2.2.2.1; unfold secs; omega
      rw [hl1] at hf1
      rw [hl2] at hf2
      have hk0 := HK.out
      have hk1 : M1.Ok T := ⟨by rw [hf1.1]; exact hk0.1.size, by omega, Nat.le_trans hf1.2.2.1 hk0.1.left, hk0.1.T⟩
      have hk2 : M2.Ok T := ⟨by rw [hf2.1]; exact hk1.size, by omega, Nat.le_trans hf2.2.2.1 hk1.left, hk0.1.T⟩
      obtain ⟨Q1, Q2, Q3, q1, q2, q3, qf1, qf2, qf3, sq, lq, hgq, hvq⟩ := HS10.out.1.box
      have hxq := HS10.out.1.lt hk0.2.2.1
      have hrow := HS10.out.2
      have hw2 := hvq.rwr hk1 (by omega) hxq (O + 1) A c wc.heap.size (chunks d) (by rw [chunks_len]; omega) (Rd.ofOwn hrow) (Nat.le_refl _) (fun b hb => chunk_len d hb) (by rw [chunks_len]; omega)
      rw [chunks_len, show ((O + 1 : Nat) : Int) = (O : Int) + 1 from by omega] at hw2
      have y0 := cell_of_row wc (w.heap.size) 0 _ _ _ hgq; have y1 := cell_of_row wc (w.heap.size) 1 _ _ _ hgq; have y2 := cell_of_row wc (w.heap.size) 2 _ _ _ hgq; have y3 := cell_of_row wc (w.heap.size) 3 _ _ _ hgq; have y4 := cell_of_row wc (w.heap.size) 4 _ _ _ hgq
      have HW2 := Lib.hid hw2
      have HG2 := Lib.hid hgq
      have HR2 := Lib.hid (And.intro hR2 (And.intro hR3 (And.intro hk2 (And.intro hf2 (And.intro hf1 hsd)))))
      have hx1 := hf1.2.2.2
      clear hw2 hgq hvq hxq hrow hk0 hk1 hk2 hf1 hf2 hl1 hl2 hsd hR2 hR3
      go_upto_if 92 with (fail)
      go_cut [19] from 82 to 100 (fun x w' => x = .int .i64 x2 ∧ Hid (SvW w X w3.heap.size (.slice A (secs d.length) c) (secs d.length) (strs (chunks d)) w' M2))
      case first =>
        rcases hx1 with rfl | rfl
        · have hr := HR2.out.1
          rw [if_pos rfl] at hr
          rw [hr] at HW2
          go_wp2_with (go_at_call 65; (with_reducible refine HW2.out.mono ?_); rintro e w9 ⟨B1, B2, B3, r1, r2, r3, f1, f2, f3, s9, l9, rfl, hR9, hb9⟩; have hg9 := (hb9.block _ (heap_lt HG2.out)).trans HG2.out; have u0 := cell_of_row (w9) (w.heap.size) 0 _ _ _ hg9; have u1 := cell_of_row (w9) (w.heap.size) 1 _ _ _ hg9; have u2 := cell_of_row (w9) (w.heap.size) 2 _ _ _ hg9; have u3 := cell_of_row (w9) (w.heap.size) 3 _ _ _ hg9; have u4 := cell_of_row (w9) (w.heap.size) 4 _ _ _ hg9; have t0 := frozen_of_row (w9) (w.heap.size) 0 _ _ hg9; have t1 := frozen_of_row (w9) (w.heap.size) 1 _ _ hg9; have t2 := frozen_of_row (w9) (w.heap.size) 2 _ _ hg9; have t3 := frozen_of_row (w9) (w.heap.size) 3 _ _ hg9; have t4 := frozen_of_row (w9) (w.heap.size) 4 _ _ hg9)
          have HS9 := Lib.hid (HS10.out.put HLO.out hb9 hR9)
          go_meet
          case rel => exact ⟨rfl, HS9⟩
        · have hr := HR2.out.1
          rw [if_neg (by decide)] at hr
          injection hr with e1 e2
          subst e1 e2
          go_wp2_with (fail)
          go_meet
          case rel => exact ⟨rfl, HS10⟩
      case rest =>
        obtain ⟨rfl, HS11⟩ := hcut
        clear HW2 HG2 HS10 y0 y1 y2 y3 y4
        obtain ⟨Q1, Q2, Q3, q1, q2, q3, qf1, qf2, qf3, sq, lq, hgq, hvq⟩ := HS11.out.1.box
        have hxq := HS11.out.1.lt HK.out.2.2.1
        have hx2 := HR2.out.2.2.2.1.2.2.2
        have hw3 : ∀ (W : World) (g : Nat), Below wc.heap.size wc W → Rd W W.heap.size (some ⟨g, 0, none⟩) (strs [headI sn d.length]) → _ := fun W g hW hr => (hvq.below hW).rwr HR2.out.2.2.1 (by have := HR2.out.2.2.2.1.1; have := HR2.out.2.2.2.2.1.1; have := HK.out.2.2.2.2; omega) (fun x hx => Nat.lt_of_lt_of_le (hxq x hx) hW.size) O (some ⟨g, 0, none⟩) 1 W.heap.size [headI sn d.length] (by have := HR2.out.2.2.2.1.2.1; have := HR2.out.2.2.2.2.1.2.1; have := HR2.out.2.2.2.2.2; have := HK.out.2.1; have := HK.out.2.2.2.2; have := HK.out.1.size; simp; omega) hr (Nat.le_refl _) (by simp [headI_len]) (by have := HR2.out.2.2.2.1.1; have := HR2.out.2.2.2.2.1.1; have := HK.out.2.2.2.2; simp; omega)
        simp only [List.length_singleton] at hw3
        have y0 := cell_of_row wc (w.heap.size) 0 _ _ _ hgq; have y1 := cell_of_row wc (w.heap.size) 1 _ _ _ hgq; have y2 := cell_of_row wc (w.heap.size) 2 _ _ _ hgq; have y3 := cell_of_row wc (w.heap.size) 3 _ _ _ hgq; have y4 := cell_of_row wc (w.heap.size) 4 _ _ _ hgq
        have HH := Lib.hid fun W => rHeadI_any sn d.length W (by omega) (by omega)
        have HG3 := Lib.hid hgq
        have HW3 := Lib.hid hw3
        clear hw3 hgq hvq hxq
        go_upto_if 102 with (fail)
        go_cut [19] from 82 to 113 (fun x w' => x = .int .i64 x3 ∧ Hid (SvW w X w3.heap.size (.slice A (secs d.length) c) (secs d.length) (strs (chunks d)) w' M3))
        case first =>
          rcases hx2 with rfl | rfl
          · have hr := HR2.out.2.1
            rw [if_pos rfl] at hr
            rw [hr] at HW3
            go_upto_region 22 with (fail)
            go_region_with (first
              | (go_at_call 66; (with_reducible refine (HH.out _).mono ?_); rintro e w8 ⟨rfl, hb8⟩; have hb8' : Below wc.heap.size wc w8 := (Below.refl wc.heap.size wc).drew.trans hb8; have hg8 := (hb8'.block _ (heap_lt HG3.out)).trans HG3.out; have v0 := cell_of_row (w8) (w.heap.size) 0 _ _ _ hg8; have v1 := cell_of_row (w8) (w.heap.size) 1 _ _ _ hg8; have v2 := cell_of_row (w8) (w.heap.size) 2 _ _ _ hg8; have v3 := cell_of_row (w8) (w.heap.size) 3 _ _ _ hg8; have v4 := cell_of_row (w8) (w.heap.size) 4 _ _ _ hg8; have hbC : Below wc.heap.size wc (w8.alloc (.cells #[.string ⟨(headI sn d.length).toArray⟩] 9)) := hb8'.alloc hb8'.size _; have hgC := (hbC.block _ (heap_lt HG3.out)).trans HG3.out; have vc0 := cell_of_row (w8.alloc (.cells #[.string ⟨(headI sn d.length).toArray⟩] 9)) (w.heap.size) 0 _ _ _ hgC; have vc1 := cell_of_row (w8.alloc (.cells #[.string ⟨(headI sn d.length).toArray⟩] 9)) (w.heap.size) 1 _ _ _ hgC; have vc2 := cell_of_row (w8.alloc (.cells #[.string ⟨(headI sn d.length).toArray⟩] 9)) (w.heap.size) 2 _ _ _ hgC; have vc3 := cell_of_row (w8.alloc (.cells #[.string ⟨(headI sn d.length).toArray⟩] 9)) (w.heap.size) 3 _ _ _ hgC; have vc4 := cell_of_row (w8.alloc (.cells #[.string ⟨(headI sn d.length).toArray⟩] 9)) (w.heap.size) 4 _ _ _ hgC; have HRD := Lib.hid (rd_new1 w8 (headI sn d.length)); have HB8 := Lib.hid (And.intro hbC hgC); clear hb8 hb8' hg8 hbC hgC)
              | (go_at_call 65; (with_reducible refine (HW3.out _ _ HB8.out.1 HRD.out).mono ?_); rintro e w9 ⟨B1, B2, B3, r1, r2, r3, f1, f2, f3, s9, l9, rfl, hR9, hb9⟩; have hg9 := (hb9.block _ (heap_lt HB8.out.2)).trans HB8.out.2; have u0 := cell_of_row (w9) (w.heap.size) 0 _ _ _ hg9; have u1 := cell_of_row (w9) (w.heap.size) 1 _ _ _ hg9; have u2 := cell_of_row (w9) (w.heap.size) 2 _ _ _ hg9; have u3 := cell_of_row (w9) (w.heap.size) 3 _ _ _ hg9; have u4 := cell_of_row (w9) (w.heap.size) 4 _ _ _ hg9; have t0 := frozen_of_row (w9) (w.heap.size) 0 _ _ hg9; have t1 := frozen_of_row (w9) (w.heap.size) 1 _ _ hg9; have t2 := frozen_of_row (w9) (w.heap.size) 2 _ _ hg9; have t3 := frozen_of_row (w9) (w.heap.size) 3 _ _ hg9; have t4 := frozen_of_row (w9) (w.heap.size) 4 _ _ hg9))
            all_goals
              have HS9 := Lib.hid ((HS11.out.kept HB8.out.1).put HLO.out hb9 hR9)
              generalize (((((w9.setCell ⟨w.heap.size, 0, none⟩ (.slice B1 r1 f1)).setCell ⟨w.heap.size, 1, none⟩ (.slice B2 r2 f2)).setCell ⟨w.heap.size, 2, none⟩ (.slice B3 r3 f3)).setCell ⟨w.heap.size, 3, none⟩ (.int .i64 s9)).setCell ⟨w.heap.size, 4, none⟩ (.int .i64 l9)) = w10 at HS9 ⊢
              clear hb9 hR9 hg9 u0 u1 u2 u3 u4 t0 t1 t2 t3 t4
              (try go_wp2_with (fail))
              go_meet
              case rel => exact ⟨rfl, HS9⟩
          · have hr := HR2.out.2.1
            rw [if_neg (by decide)] at hr
            injection hr with e1 e2
            subst e1 e2
            go_wp2_with (fail)
            go_meet
            case rel => exact ⟨rfl, HS11⟩
        case rest =>
          obtain ⟨rfl, HS12⟩ := hcut
          clear HW3 HH HG3 HS11 y0 y1 y2 y3 y4 hx2 hx1
          obtain ⟨Q1, Q2, Q3, q1, q2, q3, qf1, qf2, qf3, sq, lq, hgq, hvq⟩ := HS12.out.1.box
          have hrs := HS12.out.1.res
          have zz0 := cell_of_row (wc) (w.heap.size) 0 _ _ _ hgq; have zz1 := cell_of_row (wc) (w.heap.size) 1 _ _ _ hgq; have zz2 := cell_of_row (wc) (w.heap.size) 2 _ _ _ hgq; have zz3 := cell_of_row (wc) (w.heap.size) 3 _ _ _ hgq; have zz4 := cell_of_row (wc) (w.heap.size) 4 _ _ _ hgq
          have m0 := cell_of_row (wc) (w.heap.size + 1) 0 _ _ _ hrs; have m1 := cell_of_row (wc) (w.heap.size + 1) 1 _ _ _ hrs; have m2 := cell_of_row (wc) (w.heap.size + 1) 2 _ _ _ hrs; have m3 := cell_of_row (wc) (w.heap.size + 1) 3 _ _ _ hrs; have m4 := cell_of_row (wc) (w.heap.size + 1) 4 _ _ _ hrs
          have mf0 := frozen_of_row (wc) (w.heap.size + 1) 0 _ _ hrs; have mf1 := frozen_of_row (wc) (w.heap.size + 1) 1 _ _ hrs; have mf2 := frozen_of_row (wc) (w.heap.size + 1) 2 _ _ hrs; have mf3 := frozen_of_row (wc) (w.heap.size + 1) 3 _ _ hrs; have mf4 := frozen_of_row (wc) (w.heap.size + 1) 4 _ _ hrs
          have HDN := Lib.hid (HS12.out.1.done (Below.refl _ _) hvq)
          clear hgq hvq hrs
          go_wp2_with (fail)
          exact bodyPost_ret (resSv HDN.out.1 _ rfl) rfl ⟨_, by rw [HZR.out]; rfl, by rw [HZR.out]; exact HDN.out.2.1, HDN.out.2.2⟩
end Go.Proofs.Ytdjcpjfomgfjlaa
