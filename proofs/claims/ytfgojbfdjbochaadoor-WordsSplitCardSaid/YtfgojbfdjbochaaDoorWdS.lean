/- The law's ref (layer 8), the document's Same on equal lists. -/
import Derived.Test.YtfgojbfdjbochaaDoorWdR
namespace Go.Proofs.YtfgojbfdjbochaaDoor
open Go.RowKit Go.Maps

theorem own_wordG {w : World} {base : Nat} {e : TypeId} {A : Option Addr} {c n : Nat} {L : List Wd} (h : w.ownsRow base e 4 (.slice A n c) n (wdsV L)) (hn : L.length = n) {i : Nat} {x : Wd} (hi : L[i]? = some x) :
    ∃ g, A = some ⟨g, 0, none⟩ ∧ g < w.heap.size ∧ n ≤ c ∧ c ≤ maxLen ∧ w.cell? ⟨g, i * 4, none⟩ = some (.bool x.nm) ∧ w.cell? ⟨g, i * 4 + 1, none⟩ = some (.string ⟨x.tx.toArray⟩) ∧ w.cell? ⟨g, i * 4 + 2, none⟩ = some (.int .i64 (x.ln : Int)) ∧ w.cell? ⟨g, i * 4 + 3, none⟩ = some (.int .i64 (x.co : Int)) := by
  have hlt := (List.getElem?_eq_some_iff.1 hi).1
  obtain ⟨g, c', e, h1, h2, h3, h4⟩ := own_form h (by omega)
  injection e with e1 _ e3
  subst e1 e3
  have hat : ∀ j, j < 4 → w.cell? ⟨g, i * 4 + j, none⟩ = (wdV x)[j]? := fun j hj => by
    rw [World.ownsRow.cellAt h (i * 4 + j) (by omega), wdsV_at hi hj]
  exact ⟨g, rfl, h2, h3, h4, hat 0 (by omega), hat 1 (by omega), hat 2 (by omega), hat 3 (by omega)⟩

set_option maxRecDepth 100000 in
set_option maxHeartbeats 4000000 in
theorem lawRef_any (A : Option Addr) (c base : Nat) (L : List Wd) (w : World) (hown : w.ownsRow base 46 4 (.slice A L.length c) L.length (wdsV L)) (hn : L.length ≤ 2000) :
    Calls Tryd.prog 12 #[.slice A L.length c] w fun e w' => ∃ A' c', e = .returned (.slice A' L.length c') ∧ w'.ownsRow w.heap.size 56 4 (.slice A' L.length c') L.length (wdsV L) ∧ Below w.heap.size w w' := by
  have HO := Lib.hid hown
  have hnI : (L.length : Int) ≤ 2000 := by omega
  clear hown hn
  go_enter Tryd.func12, Tryd.ntmps12
  go_wp2_with (fail)
  go_loopw [3, 7] (fun ov iv wr => ∃ (i : Nat) (Ao : Option Addr) (co : Nat), i ≤ L.length ∧ iv = .int .i64 (i : Int) ∧ ov = .slice Ao i co ∧ wr.ownsRow w.heap.size 56 4 (.slice Ao i co) i (wdsV (L.take i)) ∧ Below w.heap.size w wr) (fun _ iv _ => L.length - (intOf iv).toNat)
  case atStart => exact ⟨0, none, 0, by omega, rfl, rfl, World.ownsRow_nil _ _ _ _, Below.refl _ _⟩
  case round =>
    obtain ⟨i, Ao, co, hi, rfl, rfl, hrow, hbl⟩ := hrel
    by_cases hin : i < L.length
    · have hinI : (i : Int) < (L.length : Int) := by omega
      have hiI : (i : Int) ≤ 2000 := by omega
      obtain ⟨g, rfl, hg, hc1, hc2, x0, x1, x2, x3⟩ := own_wordG HO.out rfl (List.getElem?_eq_getElem hin)
      have htk := List.take_succ_eq_append_getElem hin
      have hll : (L.take i).length = i := by rw [List.length_take]; omega
      have hrow' : wr.drew.ownsRow w.heap.size 56 4 (.slice Ao (L.take i).length co) (L.take i).length (wdsV (L.take i)) := by rw [hll]; exact hrow
      obtain ⟨A', c', w3, hrun, hown3, hb3⟩ := app_wordR hrow' L[i] hbl.size (by rw [hll]; omega)
      rw [hll] at hrun
      have hl2 : (L.take (i + 1)).length = i + 1 := by rw [List.length_take]; omega
      rw [← htk, hl2] at hown3
      generalize L[i] = x at x0 x1 x2 x3 hrun
      replace hrun : (Builtin.append_ #[27, 27] 27 #[.slice Ao i co, .slice (some ⟨wr.heap.size, 0, none⟩) 1 1]).run Tryd.prog (wr.alloc (.cells #[.bool x.nm, .string ⟨x.tx.toArray⟩, .int .i64 (x.ln : Int), .int .i64 (x.co : Int)] 56)).drew = .ok (.slice A' (i + 1) c') w3 := hrun
      have hks : ∀ V, Below w.heap.size w V → (V.cell? ⟨g, i * 4, none⟩ = some (.bool x.nm) ∧ V.cell? ⟨g, i * 4 + 1, none⟩ = some (.string ⟨x.tx.toArray⟩) ∧ V.cell? ⟨g, i * 4 + 2, none⟩ = some (.int .i64 (x.ln : Int)) ∧ V.cell? ⟨g, i * 4 + 3, none⟩ = some (.int .i64 (x.co : Int))) := fun V h =>
        ⟨(h.cell (p := ⟨g, i * 4, none⟩) hg).trans x0, (h.cell (p := ⟨g, i * 4 + 1, none⟩) hg).trans x1, (h.cell (p := ⟨g, i * 4 + 2, none⟩) hg).trans x2, (h.cell (p := ⟨g, i * 4 + 3, none⟩) hg).trans x3⟩
      have KS := Lib.hid hks
      have HB := Lib.hid (And.intro hbl (And.intro hown3 (And.intro (hbl.drew.trans hb3) hin)))
      have hs0 := hks _ hbl.drew
      clear hks hbl hrow hrow' hown3 hb3 hin htk hll hl2 x0 x1 x2 x3 hg hi
      go_upto_region 5 with (fail)
      go_region_held3 (fun V => V.cell? ⟨g, i * 4, none⟩ = some (.bool x.nm) ∧ V.cell? ⟨g, i * 4 + 1, none⟩ = some (.string ⟨x.tx.toArray⟩) ∧ V.cell? ⟨g, i * 4 + 2, none⟩ = some (.int .i64 (x.ln : Int)) ∧ V.cell? ⟨g, i * 4 + 3, none⟩ = some (.int .i64 (x.co : Int)))
        (first
          | assumption
          | exact KS.out _ HB.out.1.drew
          | exact KS.out _ HB.out.2.2.1
          | exact KS.out _ (HB.out.1.alloc HB.out.1.size _).drew)
        (refine step_appK _ (by rfl) (.tmp 10) (.tmp 32) 27 rfl rfl _ _ _ _ rfl rfl hrun ?_)
      all_goals
        go_wp2_with (fail)
        exact ⟨⟨i + 1, A', c', HB.out.2.2.2, by simp, rfl, HB.out.2.1, HB.out.2.2.1⟩, by simp [intOf]; have := HB.out.2.2.2; omega⟩
    · obtain rfl : i = L.length := by omega
      rw [List.take_length] at hrow
      have HB := Lib.hid (And.intro hrow hbl)
      clear hrow hbl hin hi
      go_wp2_with (fail)
      go_ret
      exact ⟨Ao, co, rfl, HB.out.1, HB.out.2⟩

set_option maxRecDepth 100000 in
set_option maxHeartbeats 4000000 in
theorem refSame_any (A1 A2 : Option Addr) (c1 c2 b1 b2 : Nat) (L : List Wd) (w : World) (h1 : w.ownsRow b1 56 4 (.slice A1 L.length c1) L.length (wdsV L)) (h2 : w.ownsRow b2 56 4 (.slice A2 L.length c2) L.length (wdsV L)) (hn : L.length ≤ 2000) :
    Calls Tryd.prog 11 #[.slice A1 L.length c1, .slice A2 L.length c2] w fun e w' => e = .returned (.bool true) ∧ Below w.heap.size w w' := by
  have HO := Lib.hid (And.intro h1 h2)
  have hnI : (L.length : Int) ≤ 2000 := by omega
  clear h1 h2 hn
  go_enter Tryd.func11, Tryd.ntmps11
  go_wp2_with (fail)
  go_loopw [13] (fun iv wr => ∃ i : Nat, i ≤ L.length ∧ iv = .int .i64 (i : Int) ∧ Below w.heap.size w wr) (fun iv _ => L.length - (intOf iv).toNat)
  case atStart => exact ⟨0, by omega, rfl, Below.refl _ _⟩
  case round =>
    obtain ⟨i, hi, rfl, hbl⟩ := hrel
    by_cases hin : i < L.length
    · have hinI : (i : Int) < (L.length : Int) := by omega
      have hiI : (i : Int) ≤ 2000 := by omega
      obtain ⟨g, rfl, hg, hc1, hc2, x0, x1, x2, x3⟩ := own_wordG (own_below HO.out.1 hbl (Nat.le_refl _)) rfl (List.getElem?_eq_getElem hin)
      obtain ⟨g2, rfl, hg2, hc3, hc4, y0, y1, y2, y3⟩ := own_wordG (own_below HO.out.2 hbl (Nat.le_refl _)) rfl (List.getElem?_eq_getElem hin)
      generalize L[i] = x at x0 x1 x2 x3 y0 y1 y2 y3
      have HB := Lib.hid (And.intro hbl hin)
      clear hbl hin hi hg hg2
      go_upto_region 6 with (fail)
      go_quiet (fail)
      go_wp2_with (fail)
      exact ⟨⟨i + 1, HB.out.2, by simp, below_draws HB.out.1 _⟩, by simp [intOf]; have := HB.out.2; omega⟩
    · obtain rfl : i = L.length := by omega
      have HB := Lib.hid hbl
      clear hbl hin hi
      go_wp2_with (fail)
      go_ret
      exact ⟨rfl, HB.out⟩
end Go.Proofs.YtfgojbfdjbochaaDoor
