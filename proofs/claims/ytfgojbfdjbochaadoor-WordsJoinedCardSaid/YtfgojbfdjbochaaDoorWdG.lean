/- words.isRune, End, Split. -/
import Derived.Test.YtfgojbfdjbochaaDoorWdF
import Derived.Test.YtfgojbfdjbochaaDoorShelf
import Derived.Lib.OthersKept
import Derived.Lib.RuneCount
namespace Go.Proofs.YtfgojbfdjbochaaDoor
open Go.RowKit Go.Maps

/-- What the library's variables hold: two tables of UTF-8. -/
structure Tabs (w : World) : Prop where
  u8 : Lib.Utf8Tabs 0 1 w
theorem Tabs.below {w w' : World} (h : Tabs w) (hb : Below w.heap.size w w') : Tabs w' := ⟨Utf8Tabs_below h.u8 hb⟩
theorem Tabs.alloc {w : World} (h : Tabs w) (o : Obj) : Tabs (w.alloc o) := h.below ((Below.refl _ _).alloc (Nat.le_refl _) _)
theorem validString_any (s : ByteArray) (w : World) (hs : s.size ≤ 9223372036854775807) (hT : Tabs w) :
    Calls Tryd.prog 16 #[.string s] w fun e w' => e = .returned (.bool (Lib.validD s.data.toList)) ∧ Below w.heap.size w w' := Tryd.utf8_ValidString s w hs hT.u8

theorem tail_list (s : ByteArray) (pos : Nat) : (s.extract pos s.size).data.toList = s.data.toList.drop pos := by
  obtain ⟨⟨l⟩⟩ := s
  rw [ByteArray.extract_mk]
  show List.take (l.length - pos) (List.drop pos l) = List.drop pos l
  exact List.take_of_length_le (by simp)
theorem decodeGo_tail (s : ByteArray) (pos : Nat) (h : pos < s.size) : Lib.decodeGo (s.extract pos s.size) = Utf8.decode s pos := by
  unfold Lib.decodeGo
  have hl : (s.extract pos s.size).data.toList.length = s.size - pos := by
    rw [tail_list, List.length_drop]
    have : s.data.toList.length = s.size := Array.length_toList
    omega
  have hz : (s.extract pos s.size).size ≠ 0 := by
    have : (s.extract pos s.size).data.toList.length = (s.extract pos s.size).size := Array.length_toList
    omega
  rw [if_neg hz, ← Lib.decodeL_drop, List.drop_zero, tail_list, Lib.decodeL_drop]

set_option maxRecDepth 100000 in
theorem isRune_any (s : ByteArray) (w : World) (hT : Tabs w) :
    Calls Tryd.prog 21 #[.string s] w fun e w' => e = .returned (.bool (decide ((1 : Int) < ((Lib.decodeGo s).2 : Int)))) ∧ Below w.heap.size w w' := by
  have HD := Lib.hid (Tryd.utf8_DecodeRuneInString s w hT.u8)
  clear hT
  obtain ⟨⟨a, b⟩, hab⟩ : ∃ x, x = Lib.decodeGo s := ⟨_, rfl⟩
  rw [← hab] at HD ⊢
  simp only at HD ⊢
  clear hab
  go_enter Tryd.func21, Tryd.ntmps21
  go_wp2_with (go_at_call 29; (with_reducible refine HD.out.mono ?_); rintro e w' ⟨rfl, h1⟩)
  go_ret
  exact ⟨rfl, h1⟩

theorem drop_end (s : ByteArray) (pos : Nat) (h : s.size ≤ pos) : s.data.toList.drop pos = [] :=
  List.drop_eq_nil_of_le (by have hl : s.data.toList.length = s.size := Array.length_toList; omega)
theorem drop_ne (s : ByteArray) (pos : Nat) (h : pos < s.size) : s.data.toList.drop pos ≠ [] := by
  intro h0
  have hl : s.data.toList.length = s.size := Array.length_toList
  have := congrArg List.length h0
  rw [List.length_drop, hl] at this
  simp at this
  omega
theorem rns_bad_at (s : ByteArray) (pos : Nat) (h : pos < s.size) (hb : (Utf8.decode s pos).1 = 65533 ∧ (Utf8.decode s pos).2 = 1) : rns (s.data.toList.drop pos) = [] :=
  rns_bad (drop_ne s pos h) (by unfold badD; rw [Lib.decodeL_drop]; exact hb)
theorem rns_cons_at (s : ByteArray) (pos : Nat) (h : pos < s.size) (hb : ¬ ((Utf8.decode s pos).1 = 65533 ∧ (Utf8.decode s pos).2 = 1)) : rns (s.data.toList.drop pos) = (Utf8.decode s pos).1 :: rns (s.data.toList.drop (pos + (Utf8.decode s pos).2)) := by
  rw [rns_cons (drop_ne s pos h) (by unfold badD; rw [Lib.decodeL_drop]; exact hb), Lib.decodeL_drop, List.drop_drop]
theorem valid_at (s : ByteArray) (pos : Nat) (h : pos < s.size) (hv : Lib.validD (s.data.toList.drop pos) = true) : ¬ ((Utf8.decode s pos).1 = 65533 ∧ (Utf8.decode s pos).2 = 1) ∧ Lib.validD (s.data.toList.drop (pos + (Utf8.decode s pos).2)) = true := by
  have := valid_not (drop_ne s pos h) hv
  unfold badD at this
  rw [Lib.decodeL_drop, List.drop_drop] at this
  exact this

set_option maxRecDepth 100000 in
set_option maxHeartbeats 4000000 in
theorem end_any (s : ByteArray) (w : World) (hs : s.size ≤ 140737488355328) (hT : Tabs w) :
    Calls Tryd.prog 13 #[.string s] w fun e w' => e = .returned (.tuple #[.int .i64 ((plc (1, 1) (rns s.data.toList)).1 : Int), .int .i64 ((plc (1, 1) (rns s.data.toList)).2 : Int)]) ∧ Below w.heap.size w w' := by
  obtain ⟨X, hX⟩ : ∃ X, X = plc (1, 1) (rns s.data.toList) := ⟨_, rfl⟩
  rw [← hX]
  have HX := Lib.hid hX
  have HT := Lib.hid hT
  have HBG := Lib.hid (beginning_any w)
  clear hX hT
  go_enter Tryd.func13, Tryd.ntmps13
  go_upto_region 2 with (go_at_call 17; (with_reducible refine HBG.out.mono ?_); rintro e w1 ⟨rfl, hb1⟩)
  clear HBG
  have hs1 := hb1.size
  have h2 := heap_alloc_new w1 (.cells #[.int .i64 1, .int .i64 1] 50)
  have hb2 : Below w.heap.size w (w1.alloc (.cells #[.int .i64 1, .int .i64 1] 50)) := hb1.alloc hs1 _
  have hs2 : (w1.alloc (.cells #[.int .i64 1, .int .i64 1] 50)).heap.size = w1.heap.size + 1 := by simp
  obtain ⟨b, hb⟩ : ∃ b, b = w1.heap.size := ⟨_, rfl⟩
  rw [← hb] at h2 hs2 ⊢
  generalize w1.alloc (.cells #[.int .i64 1, .int .i64 1] 50) = W at h2 hb2 hs2 ⊢
  have hbw : w.heap.size ≤ b := by omega
  clear hb1 hs1 hb
  have hit0 := World.iter_heap W s 0
  have h3 : (W.alloc (.stringIter s 0)).heap[b]? = some (.cells #[.int .i64 1, .int .i64 1] 50 (0, 0)) := (Below.heap_alloc _ _ _ (by omega)).trans h2
  have hb3 : Below w.heap.size w (W.alloc (.stringIter s 0)) := hb2.alloc (by omega) _
  have hsW : W.heap.size = b + 1 := hs2
  rw [hsW] at hit0
  clear h2 hb2 hs2
  go_wp2
  go_loopw [5] (fun _ wr => ∃ (pos : Nat) (p : Nat × Nat), wr.heap[b + 1]? = some (.stringIter s pos) ∧ wr.heap[b]? = some (.cells #[.int .i64 (p.1 : Int), .int .i64 (p.2 : Int)] 50 (0, 0)) ∧ Below w.heap.size w wr ∧ plc p (rns (s.data.toList.drop pos)) = X ∧ p.1 + p.2 ≤ 2 + pos ∧ 1 ≤ p.2 ∧ pos ≤ s.size) (fun _ wr => s.size - wr.iterPos (b + 1))
  case atStart => exact ⟨0, (1, 1), hit0, h3, hb3, by rw [List.drop_zero]; exact HX.out.symm, by simp, by simp, by omega⟩
  case round =>
    clear hit0 h3 hb3 hsW
    obtain ⟨pos, p, hit, hblk, hbl, hplc, hsm, hp1, hps⟩ := hrel
    have hszr : b + 1 < wr.heap.size := (Array.getElem?_eq_some_iff.1 hit).1
    by_cases hp : pos < s.size
    · have hnx : ∀ ty, (Instr.next (.pointer (some ⟨b + 1, 0, none⟩)) true ty).run Tryd.prog wr = _ := fun ty => Lib.run_next_any_at wr (b + 1) s pos ty hit hp
      have hwd := Lib.decode_width_pos s pos hp
      have hd1 : pos + (Utf8.decode s pos).2 ≤ s.size := by
        have := Lib.decodeL_le (s.data.toList.drop pos) (drop_ne s pos hp)
        rw [Lib.decodeL_drop, List.length_drop] at this
        have hl : s.data.toList.length = s.size := Array.length_toList
        omega
      have hit2 := Lib.iterAt_heap wr (b + 1) s pos (pos + (Utf8.decode s pos).2) hit
      have hbl2 := Lib.below_iterAt hbl (k := b + 1) (by omega) s (pos + (Utf8.decode s pos).2)
      have hsz2 : b + 1 < (wr.iterAt (b + 1) s (pos + (Utf8.decode s pos).2)).heap.size := by rw [Lib.iterAt_size]; omega
      have hblk2 : (wr.iterAt (b + 1) s (pos + (Utf8.decode s pos).2)).heap[b]? = some (.cells #[.int .i64 (p.1 : Int), .int .i64 (p.2 : Int)] 50 (0, 0)) := (Lib.iterAt_other wr (b + 1) b s _ (by omega)).trans hblk
      have hmea : s.size - (pos + (Utf8.decode s pos).2) < s.size - wr.iterPos (b + 1) := by simp only [World.iterPos, hit]; omega
      have HPLC := Lib.hid hplc
      have HMEA := Lib.hid hmea
      have hgo := decodeGo_tail s pos hp
      have hcons := rns_cons_at s pos hp
      have hbad := rns_bad_at s pos hp
      obtain ⟨⟨r, d⟩, hrd⟩ : ∃ x, x = Utf8.decode s pos := ⟨_, rfl⟩
      rw [← hrd] at hit2 hbl2 hsz2 hblk2 hmea hgo hcons hbad hwd hd1 hnx HMEA
      simp only at hit2 hbl2 hsz2 hblk2 hmea hgo hcons hbad hwd hd1 HMEA
      have HTW := Lib.hid (HT.out.below (lower hbl2 (Nat.le_refl _)))
      have HRD := Lib.hid hrd
      have HGO := Lib.hid hgo
      have HCN := Lib.hid hcons
      have HBD := Lib.hid hbad
      clear hit hblk hbl hplc hmea hgo hcons hbad hrd
      have hbb : (wr.iterAt (b + 1) s (pos + d)).cell? ⟨b, 0, none⟩ = some (.int .i64 (p.1 : Int)) := cell_of_row _ b 0 _ _ _ hblk2
      have hbc : (wr.iterAt (b + 1) s (pos + d)).cell? ⟨b, 1, none⟩ = some (.int .i64 (p.2 : Int)) := cell_of_row _ b 1 _ _ _ hblk2
      generalize wr.iterAt (b + 1) s (pos + d) = W2 at hnx hit2 hbl2 hsz2 hblk2 HTW hbb hbc
      have hpI : (pos : Int) ≤ (s.size : Int) := by omega
      have hsz3 : b < W2.heap.size := by omega
      have z0 : W2.frozen? ⟨b, 0, none⟩ = false := frozen_of_row _ b 0 _ _ hblk2
      have z1 : W2.frozen? ⟨b, 1, none⟩ = false := frozen_of_row _ b 1 _ _ hblk2
      have HPP := Lib.hid (And.intro hit2 (And.intro hblk2 (And.intro hbl2 (And.intro hsz2 (And.intro hwd hd1)))))
      clear hit2 hblk2 hbl2 hsz2
      by_cases hb : r = 65533 ∧ d = 1
      · obtain ⟨rfl, rfl⟩ := hb
        have hir := isRune_any (s.extract pos s.size) W2 HTW.out
        rw [HGO.out] at hir
        have HIR := Lib.hid hir
        have hE : X = p := by rw [← HPLC.out, HBD.out ⟨rfl, rfl⟩]; rfl
        have HE := Lib.hid hE
        clear hir hE
        go_wp2_with (go_at_call 21; (with_reducible refine HIR.out.mono ?_); rintro e w3 ⟨rfl, hb3⟩)
        have q0 := (hb3.cell (p := ⟨b, 0, none⟩) hsz3).trans hbb
        have q1 := (hb3.cell (p := ⟨b, 1, none⟩) hsz3).trans hbc
        go_quiet (fail)
        go_wp2_with (fail)
        go_ret2
        exact ⟨by rw [HE.out]; rfl, below_draws (HPP.out.2.2.1.trans (hb3.mono (by have := HPP.out.2.2.1.size; exact this))) _⟩
      · have hE : plc (bh p r) (rns (s.data.toList.drop (pos + d))) = X := by rw [← HPLC.out, HCN.out hb]; rfl
        have hbp := bh_le p r (2 + pos) hsm hp1
        have hbeh := fun W => behind_any p r W (by omega)
        obtain ⟨q, hq⟩ : ∃ q, q = bh p r := ⟨_, rfl⟩
        rw [← hq] at hE hbp hbeh
        have HBH := Lib.hid hbeh
        have HQQ := Lib.hid (And.intro hE hbp)
        clear hE hbp hbeh hq
        have HB := Lib.hid hb
        have hir := isRune_any (s.extract pos s.size) W2 HTW.out
        rw [HGO.out] at hir
        have hdI : ¬ (r = 65533 ∧ d = 1) := hb
        have key : ∀ w3 : World, Below W2.heap.size W2 w3 → (∃ pos' p', ((w3.setCell ⟨b, 0, none⟩ (.int .i64 (q.1 : Int))).setCell ⟨b, 1, none⟩ (.int .i64 (q.2 : Int))).heap[b + 1]? = some (.stringIter s pos') ∧ ((w3.setCell ⟨b, 0, none⟩ (.int .i64 (q.1 : Int))).setCell ⟨b, 1, none⟩ (.int .i64 (q.2 : Int))).heap[b]? = some (.cells #[.int .i64 ((p' : Nat × Nat).1 : Int), .int .i64 (p'.2 : Int)] 50 (0, 0)) ∧ Below w.heap.size w ((w3.setCell ⟨b, 0, none⟩ (.int .i64 (q.1 : Int))).setCell ⟨b, 1, none⟩ (.int .i64 (q.2 : Int))) ∧ plc p' (rns (s.data.toList.drop pos')) = X ∧ p'.1 + p'.2 ≤ 2 + pos' ∧ 1 ≤ p'.2 ∧ pos' ≤ s.size) ∧ s.size - ((w3.setCell ⟨b, 0, none⟩ (.int .i64 (q.1 : Int))).setCell ⟨b, 1, none⟩ (.int .i64 (q.2 : Int))).iterPos (b + 1) < s.size - wr.iterPos (b + 1) := by
          intro w3 hb3
          obtain ⟨i1, i2, i3, i4, i5, i6⟩ := HPP.out
          have j2 := (hb3.block b (by omega)).trans i2
          have j1 := (hb3.block (b + 1) i4).trans i1
          have e1 : ((w3.setCell ⟨b, 0, none⟩ (.int .i64 (q.1 : Int))).setCell ⟨b, 1, none⟩ (.int .i64 (q.2 : Int))).heap[b + 1]? = some (.stringIter s (pos + d)) :=
            (Below.heap_setCell _ _ _ _ (by show b + 1 ≠ b; omega)).trans ((Below.heap_setCell _ _ _ _ (by show b + 1 ≠ b; omega)).trans j1)
          refine ⟨⟨pos + d, q, e1, set2 j2 _ _, ((i3.trans (hb3.mono (by have := i3.size; exact this))).setCell (by show w.heap.size ≤ b; omega) _).setCell (by show w.heap.size ≤ b; omega) _, HQQ.out.1, by have := HQQ.out.2.1; omega, HQQ.out.2.2, i6⟩, ?_⟩
          have hm := HMEA.out
          simp only [World.iterPos, e1] at hm ⊢
          exact hm
        have HKEY := Lib.hid key
        clear key
        by_cases hr : r = 65533
        · have hd2 : (1 : Int) < (d : Int) := by have : d ≠ 1 := fun h => hb ⟨hr, h⟩; omega
          have hir2 : decide ((1 : Int) < (d : Int)) = true := decide_eq_true hd2
          simp only at hir
          rw [hir2] at hir
          have HIR := Lib.hid hir
          have hrb : ((r : Int) == 65533) = true := beq_iff_eq.2 (by omega)
          clear hir hir2 hr hb hdI hd2
          go_upto_region 6 with (go_at_call 21; (with_reducible refine HIR.out.mono ?_); rintro e w3 ⟨rfl, hb3⟩)
          have q0 := (hb3.cell (p := ⟨b, 0, none⟩) hsz3).trans hbb
          have q1 := (hb3.cell (p := ⟨b, 1, none⟩) hsz3).trans hbc
          go_wp2_with (fail)
          refine (HBH.out _).mono ?_
          rintro e w4 ⟨rfl, hb4⟩
          have y := (hb4.block b (by have := hb3.size; omega)).trans ((hb3.block b hsz3).trans HPP.out.2.1)
          have y0 := cell_of_row w4 b 0 _ _ _ y
          have y1 := cell_of_row w4 b 1 _ _ _ y
          have v0 := frozen_of_row w4 b 0 _ _ y
          have v1 := frozen_of_row w4 b 1 _ _ y
          have HK2 := Lib.hid (HKEY.out w4 (hb3.trans (hb4.mono hb3.size)))
          clear y q0 q1
          go_wp2
          go_roundw
          case rel => exact HK2.out.1
          case measure => exact HK2.out.2
        · have hrb : ((r : Int) == 65533) = false := by rw [beq_eq_false_iff_ne]; omega
          clear hir hr hb hdI
          go_upto_region 6 with (fail)
          go_wp2_with (fail)
          refine (HBH.out _).mono ?_
          rintro e w4 ⟨rfl, hb4⟩
          have y := (hb4.block b (by omega)).trans HPP.out.2.1
          have y0 := cell_of_row w4 b 0 _ _ _ y
          have y1 := cell_of_row w4 b 1 _ _ _ y
          have v0 := frozen_of_row w4 b 0 _ _ y
          have v1 := frozen_of_row w4 b 1 _ _ y
          have HK2 := Lib.hid (HKEY.out w4 hb4)
          clear y
          go_wp2
          go_roundw
          case rel => exact HK2.out.1
          case measure => exact HK2.out.2
    · have hnx : ∀ ty, (Instr.next (.pointer (some ⟨b + 1, 0, none⟩)) true ty).run Tryd.prog wr = _ := fun ty => Lib.run_next_end_at wr (b + 1) s pos ty hit hp
      rw [drop_end s pos (by omega)] at hplc
      have hE : X = p := hplc.symm
      have HE := Lib.hid hE
      have q0 := cell_of_row wr b 0 _ _ _ hblk
      have q1 := cell_of_row wr b 1 _ _ _ hblk
      clear hplc hE hit
      go_wp2
      go_quiet (fail)
      go_wp2_with (fail)
      go_ret2
      exact ⟨by rw [HE.out]; rfl, below_draws hbl _⟩
end Go.Proofs.YtfgojbfdjbochaaDoor
