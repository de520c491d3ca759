/- (*words.splitter).letter. -/
import Derived.Test.YtfgojbfdjbochaaDoorWdD
namespace Go.Proofs.YtfgojbfdjbochaaDoor
open Go.RowKit Go.Maps

theorem app_lists (a b : List UInt8) : (⟨a.toArray⟩ : ByteArray) ++ ⟨b.toArray⟩ = ⟨(a ++ b).toArray⟩ := by
  apply ByteArray.ext
  simp
theorem enc_let (r : Nat) (h : isLet r) : Utf8.encode (r : Int) = ⟨[UInt8.ofNat r].toArray⟩ := by
  obtain ⟨h1, h2⟩ := h
  have hv : Utf8.valid (r : Int) = true := by unfold Utf8.valid; simp; omega
  unfold Utf8.encode
  rw [if_pos hv, if_pos (by omega)]
  simp
/-- The cells of the last word. -/
theorem SB.last {w : World} {p lo : Nat} {o : List Wd} {c : Wd} {wi : Nat} {pl f : Nat × Nat} (h : SB w p lo (o ++ [c]) wi pl f) : ∃ g cp, lo ≤ g ∧ g < w.heap.size ∧ o.length + 1 ≤ cp ∧ cp ≤ maxLen ∧
    w.cell? ⟨p, 0, none⟩ = some (.slice (some ⟨g, 0, none⟩) (o.length + 1) cp) ∧ w.cell? ⟨g, o.length * 4 + 1, none⟩ = some (.string ⟨c.tx.toArray⟩) ∧ w.cell? ⟨g, o.length * 4 + 2, none⟩ = some (.int .i64 (c.ln : Int)) ∧ w.cell? ⟨g, o.length * 4 + 3, none⟩ = some (.int .i64 (c.co : Int)) ∧
    w.frozen? ⟨g, o.length * 4 + 1, none⟩ = false ∧ ∀ tx : List UInt8, SB (w.setCell ⟨g, o.length * 4 + 1, none⟩ (.string ⟨tx.toArray⟩)) p lo (o ++ [⟨c.nm, tx, c.ln, c.co⟩]) wi pl f := by
  obtain ⟨A, cp, h1, h2⟩ := h
  have hl : (o ++ [c]).length = o.length + 1 := by simp
  rw [hl] at h1 h2
  obtain ⟨g, cp', e, hg, hgw, hc1, hc2⟩ := own_form h2 (by omega)
  injection e with e1 e2 e3
  subst e1 e3
  have hx : wdsV (o ++ [c]) = wdsV o ++ wdV c := by rw [wdsV_append]; simp [wdsV]
  have hlo : (wdsV o).length = o.length * 4 := wdsV_len o
  have hcell : ∀ j, w.cell? ⟨g, o.length * 4 + j, none⟩ = w.cell? ⟨g, o.length * 4 + j, none⟩ := fun _ => rfl
  have hat : ∀ j, j < 4 → w.cell? ⟨g, o.length * 4 + j, none⟩ = (wdV c)[j]? := fun j hj => by
    have := World.ownsRow.cellAt h2 (o.length * 4 + j) (by omega)
    rw [this, hx, List.getElem?_append_right (by omega), hlo, Nat.add_sub_cancel_left]
  refine ⟨g, cp, hg, hgw, hc1, hc2, cell_of_row w _ 0 _ _ _ h1, hat 1 (by omega), hat 2 (by omega), hat 3 (by omega), World.ownsRow.frozenAt h2 _, fun tx => ?_⟩
  have hst := (World.ownsRow.stored h2 (o.length * 4 + 1) (.string ⟨tx.toArray⟩)).1
  have hpg : p ≠ g := by
    rintro rfl
    rcases h2.2 with ⟨hv, _⟩ | ⟨g2, cap, cur, hv, _, hgg, _⟩
    · cases hv
    · injection hv with hv
      injection hv with hv
      injection hv with hv
      subst hv
      rw [h1] at hgg
      injection hgg with hgg
      injection hgg with _ hgg
      cases hgg
  refine ⟨some ⟨g, 0, none⟩, cp, ?_, ?_⟩
  · rw [Below.heap_setCell _ _ _ _ (fun e => hpg e)]
    simpa using h1
  · have hy : wdsV (o ++ [⟨c.nm, tx, c.ln, c.co⟩]) = (wdsV (o ++ [c])).set (o.length * 4 + 1) (.string ⟨tx.toArray⟩) := by
      rw [hx, List.set_append_right _ _ (by omega), hlo, Nat.add_sub_cancel_left, wdsV_append]
      simp [wdsV, wdV]
    rw [hy]
    simpa using hst

set_option maxRecDepth 100000 in
set_option maxHeartbeats 4000000 in
theorem letter_any (p lo : Nat) (ws o : List Wd) (c : Wd) (wi : Nat) (pl f q : Nat × Nat) (r : Nat) (w : World) (hS : SB w p lo ws wi pl f) (hp : p < lo) (hlo : lo ≤ w.heap.size) (hn : ws.length ≤ 100000) (hr : isLet r)
    (hw : (wi = 1 ∧ ws = o ++ [c]) ∨ (wi ≠ 1 ∧ o = ws ∧ c = ⟨true, [], q.1, q.2⟩)) (hc : c.tx.length ≤ 16) :
    Calls Tryd.prog 26 #[.pointer (some ⟨p, 0, none⟩), .int .i32 (r : Int), .agg #[.int .i64 (q.1 : Int), .int .i64 (q.2 : Int)]] w fun e w' =>
      (if c.tx.length = 16 then e = .returned (.bool false) ∧ SB w' p lo (o ++ [c]) 1 pl (c.ln, c.co) else e = .returned (.bool true) ∧ SB w' p lo (o ++ [⟨c.nm, c.tx ++ [UInt8.ofNat r], c.ln, c.co⟩]) 1 pl f) ∧ Kp lo p w w' := by
  have g1 := heap_alloc_new w (.cells #[.int .i64 (q.1 : Int), .int .i64 (q.2 : Int)] 50)
  have hb : Below w.heap.size w (w.alloc (.cells #[.int .i64 (q.1 : Int), .int .i64 (q.2 : Int)] 50)) := (Below.refl _ _).alloc (Nat.le_refl _) _
  have HE := Lib.hid (enc_let r hr)
  have HP := Lib.hid (And.intro hp (And.intro hlo hn))
  have ho : o.length ≤ 100000 := by
    rcases hw with ⟨_, rfl⟩ | ⟨_, rfl, _⟩
    · simp at hn; omega
    · exact hn
  clear hr
  obtain ⟨Q, hQ⟩ : ∃ Q : Ending → World → Prop, Q = fun e w' => (if c.tx.length = 16 then e = .returned (.bool false) ∧ SB w' p lo (o ++ [c]) 1 pl (c.ln, c.co) else e = .returned (.bool true) ∧ SB w' p lo (o ++ [⟨c.nm, c.tx ++ [UInt8.ofNat r], c.ln, c.co⟩]) 1 pl f) ∧ Kp lo p w w' := ⟨_, rfl⟩
  rw [← hQ]
  have HQ := Lib.hid hQ
  clear hQ
  go_enter Tryd.func26, Tryd.ntmps26
  go_upto_region 1 with (fail)
  obtain ⟨n, hnn⟩ : ∃ n, n = w.heap.size := ⟨_, rfl⟩
  have hsz : (w.alloc (.cells #[.int .i64 (q.1 : Int), .int .i64 (q.2 : Int)] 50)).heap.size = w.heap.size + 1 := by simp
  rw [← hnn] at g1 ⊢
  generalize w.alloc (.cells #[.int .i64 (q.1 : Int), .int .i64 (q.2 : Int)] 50) = W at g1 hb hsz ⊢
  have hSW := hS.below hb
  obtain ⟨⟨z1, _, _, _, _⟩, ⟨_, f1, _, _, _, _⟩, hpW⟩ := hSW.cells
  have HS := Lib.hid (And.intro hSW (And.intro hb (And.intro hsz hnn)))
  obtain ⟨B, hB⟩ : ∃ B, ((wi : Int) != 1) = B := ⟨_, rfl⟩
  go_upto_if 12 with (fail)
  have HBB := Lib.hid hB
  clear hB
  go_cut [] from 8 to 19 (fun w' => SB w' p lo (o ++ [c]) 1 pl f ∧ Kp lo p w w' ∧ lo ≤ w'.heap.size)
  case first =>
    have c0 : W.cell? ⟨n, 0, none⟩ = some (.int .i64 (q.1 : Int)) := cell_of_row W n 0 _ _ _ g1
    have c1 : W.cell? ⟨n, 1, none⟩ = some (.int .i64 (q.2 : Int)) := cell_of_row W n 1 _ _ _ g1
    rcases hw with ⟨rfl, rfl⟩ | ⟨hwi, rfl, rfl⟩
    · obtain rfl : B = false := by rw [← HBB.out]; rfl
      clear hS hSW hb hsz hnn g1 hpW hp hlo hn
      go_wp2_with (fail)
      go_meet
      case rel => exact ⟨HS.out.1, Kp.of_below HS.out.2.1 HP.out.2.1, by have := HP.out.2.1; have := HS.out.2.2.1; omega⟩
    · obtain rfl : B = true := by rw [← HBB.out, bne_iff_ne]; omega
      have hnW : n < W.heap.size := by omega
      have d0 : (W.setCell ⟨p, 1, none⟩ (.int .i64 1)).cell? ⟨n, 0, none⟩ = some (.int .i64 (q.1 : Int)) := (World.cell?_setCell_other W _ _ _ (by intro e; have e2 := congrArg Addr.block e; simp at e2; have := HP.out.1; have := HP.out.2.1; omega)).trans c0
      have d1 : (W.setCell ⟨p, 1, none⟩ (.int .i64 1)).cell? ⟨n, 1, none⟩ = some (.int .i64 (q.2 : Int)) := (World.cell?_setCell_other W _ _ _ (by intro e; have e2 := congrArg Addr.block e; simp at e2; have := HP.out.1; have := HP.out.2.1; omega)).trans c1
      have hS1 : SB (W.setCell ⟨p, 1, none⟩ (.int .i64 1)) p lo o 1 pl f := hSW.within hp 1
      have HA := Lib.hid (add_any p lo o 1 pl f ⟨true, [], q.1, q.2⟩ (W.setCell ⟨p, 1, none⟩ (.int .i64 1)) hS1 hp (by simp; omega) hn)
      have HK := Lib.hid ((Kp.of_below (p := p) hb hlo).setP 1 (.int .i64 1))
      have HL := Lib.hid (show lo ≤ (W.setCell ⟨p, 1, none⟩ (.int .i64 1)).heap.size by simp; omega)
      clear hS hSW hb hsz hnn g1 hpW hp hlo hn hnW hS1 hwi
      go_wp2_with (go_at_call 30; (with_reducible refine HA.out.mono ?_); rintro e w' ⟨rfl, h1, h2⟩)
      go_meet
      case rel => exact ⟨h1, HK.out.trans h2, Nat.le_trans HL.out h2.size⟩
  case rest =>
    clear hS hSW hb hsz hnn g1 hpW hp hlo hn hw z1 f1
    obtain ⟨hS2, hK2, hlo2⟩ := hcut
    obtain ⟨g, cp, hg, hgw, hc1, hc2, k0, k1, k2, k3, kf, hset⟩ := hS2.last
    have hcI : (o.length : Int) + 1 - 1 = (o.length : Int) := by omega
    have hR := Lib.hid (And.intro hS2 (And.intro hK2 hset))
    clear hS2 hK2 hset
    go_upto_region 4 with (fail)
    go_quiet (fail)
    go_upto_region 5 with (fail)
    replace hR : Hid (SB (wc.drewN nq) p lo (o ++ [c]) 1 pl f ∧ Kp lo p w (wc.drewN nq) ∧ ∀ tx : List UInt8, SB ((wc.drewN nq).setCell ⟨g, o.length * 4 + 1, none⟩ (.string ⟨tx.toArray⟩)) p lo (o ++ [⟨c.nm, tx, c.ln, c.co⟩]) 1 pl f) := Lib.hid ⟨hR.out.1, hR.out.2.1.drewN nq, hR.out.2.2⟩
    replace k1 : (wc.drewN nq).cell? ⟨g, o.length * 4 + 1, none⟩ = some (.string ⟨c.tx.toArray⟩) := k1
    replace k2 : (wc.drewN nq).cell? ⟨g, o.length * 4 + 2, none⟩ = some (.int .i64 (c.ln : Int)) := k2
    replace k3 : (wc.drewN nq).cell? ⟨g, o.length * 4 + 3, none⟩ = some (.int .i64 (c.co : Int)) := k3
    replace kf : (wc.drewN nq).frozen? ⟨g, o.length * 4 + 1, none⟩ = false := kf
    have hgS : Kp lo p (wc.drewN nq) ((wc.drewN nq).setCell ⟨g, o.length * 4 + 1, none⟩ (.string ⟨(c.tx ++ [UInt8.ofNat r]).toArray⟩)) := Kp.of_below ((Below.refl _ _).setCell (B := lo) hg _) (Nat.le_refl _)
    clear k0 hgw hc1 hc2 hlo2
    generalize wc.drewN nq = W2 at hR k1 k2 k3 kf hgS ⊢
    obtain ⟨⟨_, _, _, z4, z5⟩, ⟨_, _, _, _, f4, f5⟩, hpW2⟩ := hR.out.1.cells
    by_cases h16 : c.tx.length = 16
    · have hl : (c.tx.length : Int) = 16 := by omega
      have HZ := Lib.hid (And.intro (hR.out.1.fault HP.out.1 (c.ln, c.co)) ((hR.out.2.1.setP 4 (.int .i64 (c.ln : Int))).setP 5 (.int .i64 (c.co : Int))))
      have H16 := Lib.hid h16
      clear hR HE hgS h16 HBB HS kf hpW2 ho hc hcI
      go_wp2_with (fail)
      go_region_with (fail)
      all_goals
        go_wp2_with (fail)
        rw [HQ.out]
        exact ⟨by rw [if_pos H16.out]; exact ⟨rfl, HZ.out.1.drew⟩, HZ.out.2.drew⟩
    · have hl : ((c.tx.length : Int) == 16) = false := by rw [beq_eq_false_iff_ne]; omega
      have hz : SB (W2.setCell ⟨g, o.length * 4 + 1, none⟩ (.string (⟨c.tx.toArray⟩ ++ ⟨[UInt8.ofNat r].toArray⟩))) p lo (o ++ [⟨c.nm, c.tx ++ [UInt8.ofNat r], c.ln, c.co⟩]) 1 pl f := by
        rw [app_lists]; exact hR.out.2.2 _
      have hz2 : Kp lo p w (W2.setCell ⟨g, o.length * 4 + 1, none⟩ (.string (⟨c.tx.toArray⟩ ++ ⟨[UInt8.ofNat r].toArray⟩))) := by
        rw [app_lists]; exact hR.out.2.1.trans hgS
      have HZ := Lib.hid (And.intro hz hz2)
      have H16 := Lib.hid h16
      have hcat : ¬ (9223372036854775807 < c.tx.length + 1) := by omega
      have hEE := HE.out
      clear hR HE hgS h16 HBB HS hpW2 ho hcI hz hz2
      go_wp2_with (fail)
      rw [HQ.out]
      exact ⟨by rw [if_neg H16.out]; exact ⟨rfl, HZ.out.1⟩, HZ.out.2⟩
end Go.Proofs.YtfgojbfdjbochaaDoor
