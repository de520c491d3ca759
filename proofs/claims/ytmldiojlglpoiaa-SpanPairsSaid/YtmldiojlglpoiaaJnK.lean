/- Joined: JoBI JoBC JoBD JoBS. -/
import Derived.Test.YtmldiojlglpoiaaJoOp
import Derived.Test.YtmldiojlglpoiaaJnE
import Derived.Test.YtmldiojlglpoiaaJoAD
import Derived.Test.YtmldiojlglpoiaaOrdM
import Derived.Test.YtmldiojlglpoiaaJnC
/- The document's Name. -/
namespace Go.Proofs.Ytmldiojlglpoiaa
open Go.RowKit Go.Maps

set_option maxRecDepth 100000 in
set_option maxHeartbeats 1000000 in
theorem name_ba (s : ByteArray) (w : World) (hz : s.size ≤ maxLen) : Calls Try.prog 41 #[.string s] w fun e w' => e = .returned (.bool (isNm s.data.toList)) ∧ w = w' := by
  have hl : s.data.toList.length = s.size := Array.length_toList
  have hzI : (s.size : Int) ≤ 9223372036854775807 := by simp only [maxLen] at hz; omega
  obtain ⟨R, hR⟩ : ∃ R, R = isNm s.data.toList := ⟨_, rfl⟩
  rw [← hR]
  have HR := Lib.hid (And.intro hl hR)
  clear hR hl hz
  go_enter Try.func41, Try.ntmps41
  go_wp2_with (fail)
  go_loop [3] (fun i => ∃ k : Nat, k ≤ s.size ∧ i = .int .i64 (k : Int) ∧ Hid (s.data.toList.all nmB = (s.data.toList.drop k).all nmB)) (fun i => s.size - (intOf i).toNat)
  case atStart => exact ⟨0, by omega, rfl, Lib.hid rfl⟩
  case round =>
    obtain ⟨k, hk, rfl, hrel⟩ := hrel
    by_cases hlt : k < s.size
    · have hd := List.drop_eq_getElem_cons (l := s.data.toList) (i := k) (by rw [HR.out.1]; exact hlt)
      have hrk := hrel.out
      rw [hd, List.all_cons, ← ba_get s k hlt] at hrk
      have hlI : (k : Int) < (s.size : Int) := by omega
      clear hd hrel
      by_cases ha : (s[k]'hlt).toNat < 97
      · have hf : s.data.toList.all nmB = false := by rw [hrk]; unfold nmB; rw [decide_eq_false (by omega)]; rfl
        have HF := Lib.hid (show R = false from by rw [HR.out.2]; unfold isNm; rw [hf, Bool.and_false])
        clear hf hrk
        have haI : ((s[k]'hlt).toNat : Int) < 97 := by omega
        go_wp2_with (fail)
        go_ret
        exact ⟨by rw [HF.out]; rfl, rfl⟩
      · by_cases hzz : 122 < (s[k]'hlt).toNat
        · have hf : s.data.toList.all nmB = false := by rw [hrk]; unfold nmB; rw [decide_eq_false (show ¬ (s[k]'hlt).toNat ≤ 122 by omega), Bool.and_false]; rfl
          have HF := Lib.hid (show R = false from by rw [HR.out.2]; unfold isNm; rw [hf, Bool.and_false])
          clear hf hrk
          have haI : ¬ ((s[k]'hlt).toNat : Int) < 97 := by omega
          have hzI2 : (122 : Int) < ((s[k]'hlt).toNat : Int) := by omega
          go_wp2_with (fail)
          go_ret
          exact ⟨by rw [HF.out]; rfl, rfl⟩
        · have hf : Hid (s.data.toList.all nmB = (s.data.toList.drop (k + 1)).all nmB) := Lib.hid (by rw [hrk]; unfold nmB; rw [decide_eq_true (show 97 ≤ (s[k]'hlt).toNat by omega), decide_eq_true (show (s[k]'hlt).toNat ≤ 122 by omega)]; rfl)
          clear hrk
          have haI : ¬ ((s[k]'hlt).toNat : Int) < 97 := by omega
          have hzI2 : ¬ (122 : Int) < ((s[k]'hlt).toNat : Int) := by omega
          go_wp2_with (fail)
          go_round
          case rel => exact ⟨k + 1, by omega, by go_num, hf⟩
          case measure => simp [intOf]; omega
    · have g0 : ¬ (k : Int) < (s.size : Int) := by omega
      have hrk := hrel.out
      rw [List.drop_of_length_le (by rw [HR.out.1]; omega), List.all_nil] at hrk
      have hR := HR.out.2
      unfold isNm at hR
      rw [hrk, HR.out.1, Bool.and_true] at hR
      clear hrk hrel
      by_cases h0 : 1 ≤ s.size
      · by_cases h1 : s.size ≤ 16
        · have HF := Lib.hid (show R = true from by rw [hR, decide_eq_true h0, decide_eq_true h1]; rfl)
          have i0 : (0 : Int) < (s.size : Int) := by omega
          have i1 : (s.size : Int) ≤ 16 := by omega
          clear hR
          go_wp2_with (fail)
          go_ret
          exact ⟨by rw [HF.out]; rfl, rfl⟩
        · have HF := Lib.hid (show R = false from by rw [hR, decide_eq_false h1, Bool.and_false])
          have i0 : (0 : Int) < (s.size : Int) := by omega
          have i1 : ¬ (s.size : Int) ≤ 16 := by omega
          clear hR
          go_wp2_with (fail)
          go_ret
          exact ⟨by rw [HF.out]; rfl, rfl⟩
      · have HF := Lib.hid (show R = false from by rw [hR, decide_eq_false h0, Bool.false_and])
        have i0 : ¬ (0 : Int) < (s.size : Int) := by omega
        clear hR
        go_wp2_with (fail)
        go_ret
        exact ⟨by rw [HF.out]; rfl, rfl⟩
theorem name_any (l : Nm) (w : World) (hz : l.length ≤ maxLen) : Calls Try.prog 41 #[.string ⟨l.toArray⟩] w fun e w' => e = .returned (.bool (isNm l)) ∧ w = w' :=
  name_ba ⟨l.toArray⟩ w (by rw [ba_size]; exact hz)
end Go.Proofs.Ytmldiojlglpoiaa
/- JoBC, what this seat can fill of it. -/
namespace Go.Proofs.Ytmldiojlglpoiaa
/- What the law JoinMore wants of rows, plainly. -/
theorem len_sub {α : Type} [DecidableEq α] : ∀ (l m : List α), l.Nodup → (∀ a ∈ l, a ∈ m) → l.length ≤ m.length
  | [], _, _, _ => Nat.zero_le _
  | a :: l, m, hn, hs => by
    rw [List.nodup_cons] at hn
    have h1 : a ∈ m := hs a (by simp)
    have h2 := len_sub l (m.erase a) hn.2 (fun b hb => (List.mem_erase_of_ne (fun (e : b = a) => hn.1 (e ▸ hb))).2 (hs b (List.mem_cons_of_mem _ hb)))
    rw [List.length_erase_of_mem h1] at h2
    have h3 := List.length_pos_of_mem h1
    simp only [List.length_cons]
    omega
theorem fit_sub {s : Stp} {es es' : List Ed} (h : ∀ e ∈ es, e ∈ es') : ∀ e ∈ fitL s es, e ∈ fitL s es' := by
  intro e he
  unfold fitL at he ⊢
  obtain ⟨x, hx, rfl⟩ := List.mem_map.1 he
  obtain ⟨h1, h2⟩ := List.mem_filter.1 hx
  exact List.mem_map.2 ⟨x, List.mem_filter.2 ⟨h x h1, h2⟩, rfl⟩
theorem with_sub {s : Stp} {rows rows' : List Tu} {es es' : List Ed} (h1 : ∀ r ∈ rows, r ∈ rows') (h2 : ∀ e ∈ es, e ∈ es') : ∀ r ∈ withL s rows es, r ∈ withL s rows' es' := by
  intro r hr
  unfold withL foundL at hr ⊢
  obtain ⟨q, hq, hr⟩ := List.mem_flatMap.1 hr
  obtain ⟨e, he, rfl⟩ := List.mem_map.1 hr
  obtain ⟨h3, h4⟩ := List.mem_filter.1 he
  exact List.mem_flatMap.2 ⟨q, h1 q hq, List.mem_map.2 ⟨e, List.mem_filter.2 ⟨fit_sub h2 e h3, h4⟩, rfl⟩⟩
theorem low_sub {es es' : List Ed} (he : es.Nodup) (h2 : ∀ e ∈ es, e ∈ es') : ∀ (ss : List Stp) (kn : Nat) (rows rows' : List Tu), ChainOk kn ss → (∀ r ∈ rows, r.length = kn) → rows.Nodup → (∀ r ∈ rows, r ∈ rows') → LowL es' ss rows' → LowL es ss rows
  | [], _, _, _, _, _, _, _, _ => trivial
  | s :: r, kn, rows, rows', hc, hl, hn, h1, hlow => by
    obtain ⟨rfl, c1, c2, c3⟩ := hc
    have hs := with_sub (s := s) h1 h2
    have hnw := nodup_with hl c1 c2 hn he
    exact ⟨Nat.le_trans (len_sub _ _ hnw hs) hlow.1, low_sub he h2 r s.next _ _ c3 (with_lens hl c1 c2) hnw hs hlow.2⟩
theorem lowP_sub {ats : List Atm} {es es' : List Ed} (h : ∀ e ∈ es, e ∈ es') (hl : LowP ats es') : LowP ats es :=
  low_sub (onceL_nodup es) (fun e he => onceL_mem.2 (h e (onceL_mem.1 he))) _ 0 _ _ (chain_ok ats) (by simp) (by simp) (fun _ h => h) hl
theorem code_more {v : Vw} {es es' : List Ed} (h : ∀ e ∈ es, e ∈ es') (h0 : rowsC v es ≠ 0 ∨ rowsC v es' ≠ 0) : rowsC v es = rowsC v es' ∨ rowsC v es' = 5 := by
  unfold rowsC at h0 ⊢
  by_cases hg : goodP v = true
  · simp only [if_pos hg] at h0 ⊢
    by_cases hl : (rowsOfL v.atoms es').length ≤ 3000
    · have := lowP_iff.1 (lowP_sub h (lowP_iff.2 hl))
      rw [if_pos this, if_pos hl] at h0
      simp at h0
    · rw [if_neg hl]; exact .inr rfl
  · rw [if_neg hg, if_neg hg]
    exact .inl rfl
theorem mem_rowsR {v : Vw} {es : List Ed} (h0 : rowsC v es = 0) {r : Tu} : r ∈ rowsR v es ↔ IsRow v.atoms es r := by
  have hg := rows_good h0
  unfold rowsC at h0
  rw [if_pos hg] at h0
  have hl : (rowsOfL v.atoms es).length ≤ 3000 := by
    by_cases hl : (rowsOfL v.atoms es).length ≤ 3000
    · exact hl
    · rw [if_neg hl] at h0; cases h0
  unfold rowsR
  rw [if_pos hg, if_pos hl, mem_set]
  unfold rowsOfL
  rw [rowsN_low _ _ (lowP_iff.2 hl)]
  exact mem_rows
theorem row_more {v : Vw} {es es' : List Ed} (h : ∀ e ∈ es, e ∈ es') (h0 : rowsC v es = 0) (h1 : rowsC v es' = 0) {r : Tu} (hr : r ∈ rowsR v es) : r ∈ rowsR v es' := by
  rw [mem_rowsR h0] at hr
  rw [mem_rowsR h1]
  exact ⟨hr.1, fun a ha => h _ (hr.2 a ha)⟩
/-- The edge that a row has at an atom. -/
def rowEd (ats : List Atm) (r : Tu) (a : Atm) : Ed := ⟨r.getD ((varsL ats).idxOf a.fr) 0, a.lab, r.getD ((varsL ats).idxOf a.to) 0⟩
theorem row_new {v : Vw} {es : List Ed} {m : Ed} (h0 : rowsC v es = 0) (h1 : rowsC v (es ++ [m]) = 0) {r : Tu} (hr : r ∈ rowsR v (es ++ [m])) (hn : r ∉ rowsR v es) : (v.atoms.any fun a => decide (m = rowEd v.atoms r a)) = true := by
  rw [mem_rowsR h0] at hn
  rw [mem_rowsR h1] at hr
  rw [List.any_eq_true]
  apply Classical.byContradiction
  intro hc
  refine hn ⟨hr.1, fun a ha => ?_⟩
  rcases List.mem_append.1 (hr.2 a ha) with h | h
  · exact h
  · exact absurd ⟨a, ha, decide_eq_true (List.mem_singleton.1 h).symm⟩ hc
end Go.Proofs.Ytmldiojlglpoiaa
/- JoBD, what this seat can fill of it. -/
namespace Go.Proofs.Ytmldiojlglpoiaa
/- append of a copy of edges and one more, in each order. -/
open Go.RowKit Go.Maps

section
variable {W W' : World} {B c : Nat} {A : Option Addr} {P : List Ed} {x : Ed} {g b : Nat}
/-- append of records onto an empty row. -/
theorem app_eds (hW : Below W.heap.size W W') (hown : W'.ownsRow W.heap.size 48 3 (.slice (some ⟨g, 0, none⟩) 0 0) 0 []) (hr : Rd W B A (edsC P)) (hB : B ≤ W.heap.size) (hn : P.length ≤ 1000) :
    ∃ A5 c5 w5, (Builtin.append_ #[22, 22] 22 #[.slice (some ⟨g, 0, none⟩) 0 0, .slice A P.length c]).run Try.prog W' = .ok (.slice A5 P.length c5) w5 ∧ w5.ownsRow W.heap.size 48 3 (.slice A5 P.length c5) P.length (edsC P) ∧ W'.grownBy w5 (some g) := by
  obtain ⟨i, hi, hz0, hz1, hz2⟩ := info_parts infoEdge
  obtain ⟨v', w', hrun, h1, h2, h3⟩ := run_appR (P := Try.prog) W' W.heap.size 22 22 48 i _ 3 32 Try.underlying22 hi hz0 hz1 hz2 rfl (by omega) _ 0 [] hown W'.heap.size A P.length c (edsC P) (edsC_len P) ((hr.below hW hB).more (Nat.le_trans hB hW.size)) (edsC_one P) (by omega) (by omega) hW.size
  rw [Nat.zero_add, List.nil_append] at h1
  obtain ⟨A', c', rfl, _, _, _⟩ := own_shape h1
  exact ⟨A', c', w', hrun, h1, h2⟩
/-- append of one record onto those. -/
theorem app_oneE (hW : Below W.heap.size W W') (hown : W'.ownsRow W.heap.size 48 3 (.slice A P.length c) P.length (edsC P)) (hx : Rd W' W'.heap.size (some ⟨b, 0, none⟩) (edsC [x])) (hn : P.length ≤ 1000) :
    ∃ A6 c6 w6, (Builtin.append_ #[22, 22] 22 #[.slice A P.length c, .slice (some ⟨b, 0, none⟩) 1 1]).run Try.prog W' = .ok (.slice A6 (P.length + 1) c6) w6 ∧ w6.ownsRow W.heap.size 48 3 (.slice A6 (P.length + 1) c6) (P.length + 1) (edsC (P ++ [x])) ∧ Below W.heap.size W w6 := by
  obtain ⟨i, hi, hz0, hz1, hz2⟩ := info_parts infoEdge
  obtain ⟨v', w', hrun, h1, h2, h3⟩ := run_appR (P := Try.prog) W' W.heap.size 22 22 48 i _ 3 32 Try.underlying22 hi hz0 hz1 hz2 rfl (by omega) _ P.length (edsC P) hown W'.heap.size (some ⟨b, 0, none⟩) 1 1 (edsC [x]) rfl hx (edsC_one [x]) (by omega) (by omega) hW.size
  obtain ⟨A', c', rfl, _, _, _⟩ := own_shape h1
  rw [← edsC_app] at h1
  exact ⟨A', c', w', hrun, h1, hW.trans (grown_below' h2 (fun z hz => (World.ownsRow.lt hown z hz).1) hW.size)⟩
theorem rd_ed_new (w : World) (x : Ed) : Rd (w.alloc (.cells #[.int .i64 x.f, .string ⟨x.lab.toArray⟩, .int .i64 x.t] 48)) (w.alloc (.cells #[.int .i64 x.f, .string ⟨x.lab.toArray⟩, .int .i64 x.t] 48)).heap.size (some ⟨w.heap.size, 0, none⟩) (edsC [x]) := by
  rw [alloc1_size]
  exact Rd.new w #[.int .i64 x.f, .string ⟨x.lab.toArray⟩, .int .i64 x.t] 48 (0, 0)
theorem rd_keptE {w w' : World} {r : Option Nat} {b : Nat} {xs : List Value} (h : Rd w w.heap.size (some ⟨b, 0, none⟩) xs) (hg : w.grownBy w' r) (hr : r ≠ some b) : Rd w' w'.heap.size (some ⟨b, 0, none⟩) xs := by
  intro hn
  obtain ⟨b', o, e, hb, hc⟩ := h hn
  cases e
  exact ⟨b, 0, rfl, Nat.lt_of_lt_of_le hb hg.size, fun j u hu => (World.cell?_of_block (hg.block b hb (fun e => hr e.symm))).trans (hc j u hu)⟩
/-- What both appends leave. -/
def BothE (W : World) (A : Option Addr) (c : Nat) (P : List Ed) (x : Ed) (g _ : Nat) (W1 : World) (mid : World → World) (bm : World → Nat) : Prop :=
  ∃ A5 c5 w5 A6 c6 w6, (Builtin.append_ #[22, 22] 22 #[.slice (some ⟨g, 0, none⟩) 0 0, .slice A P.length c]).run Try.prog W1 = .ok (.slice A5 P.length c5) w5 ∧ (Builtin.append_ #[22, 22] 22 #[.slice A5 P.length c5, .slice (some ⟨bm w5, 0, none⟩) 1 1]).run Try.prog (mid w5) = .ok (.slice A6 (P.length + 1) c6) w6 ∧ w6.ownsRow W.heap.size 48 3 (.slice A6 (P.length + 1) c6) (P.length + 1) (edsC (P ++ [x])) ∧ Below W.heap.size W w6 ∧ Below W.heap.size W w5
abbrev edO (x : Ed) : Obj := .cells #[.int .i64 x.f, .string ⟨x.lab.toArray⟩, .int .i64 x.t] 48
abbrev nlE : Obj := .cells #[] 48
/-- The empty row, the copy, the new one, the append. -/
theorem ordE1 (hr : Rd W B A (edsC P)) (hB : B ≤ W.heap.size) (hn : P.length ≤ 1000) (x : Ed) : BothE W A c P x W.heap.size 0 (W.alloc nlE) (fun w => w.alloc (edO x)) (fun w => w.heap.size) := by
  have hb1 : Below W.heap.size W (W.alloc nlE) := (Below.refl _ _).alloc (Nat.le_refl _) _
  obtain ⟨A5, c5, w5, hrun, hown, hg⟩ := app_eds (A := A) (c := c) hb1 (own_lit0 W (Nat.le_refl _)) hr hB hn
  have hb5 : Below W.heap.size W w5 := hb1.trans (grown_below' hg (fun k hk => by cases hk; exact Nat.le_refl _) hb1.size)
  obtain ⟨A6, c6, w6, hrun6, hown6, hb6⟩ := app_oneE (b := w5.heap.size) (x := x) (hb5.alloc hb5.size (edO x)) (World.ownsRow.alloc hown _) (rd_ed_new w5 x) hn
  exact ⟨A5, c5, w5, A6, c6, w6, hrun, hrun6, hown6, hb6, hb5⟩
/-- The empty row, the new one, the copy, the append. -/
theorem ordE2 (hr : Rd W B A (edsC P)) (hB : B ≤ W.heap.size) (hn : P.length ≤ 1000) (x : Ed) : BothE W A c P x W.heap.size 0 ((W.alloc nlE).alloc (edO x)) (fun w => w) (fun _ => (W.alloc nlE).heap.size) := by
  have hb1 : Below W.heap.size W ((W.alloc nlE).alloc (edO x)) := ((Below.refl _ _).alloc (Nat.le_refl _) _).alloc (by simp) _
  obtain ⟨A5, c5, w5, hrun, hown, hg⟩ := app_eds (A := A) (c := c) hb1 (World.ownsRow.alloc (own_lit0 W (Nat.le_refl _)) _) hr hB hn
  have hb5 : Below W.heap.size W w5 := hb1.trans (grown_below' hg (fun k hk => by cases hk; exact Nat.le_refl _) hb1.size)
  obtain ⟨A6, c6, w6, hrun6, hown6, hb6⟩ := app_oneE (b := (W.alloc nlE).heap.size) (x := x) hb5 hown (rd_keptE (rd_ed_new (W.alloc nlE) x) hg (by simp)) hn
  exact ⟨A5, c5, w5, A6, c6, w6, hrun, hrun6, hown6, hb6, hb5⟩
/-- The new one, the empty row, the copy, the append. -/
theorem ordE3 (hr : Rd W B A (edsC P)) (hB : B ≤ W.heap.size) (hn : P.length ≤ 1000) (x : Ed) : BothE W A c P x (W.alloc (edO x)).heap.size 0 ((W.alloc (edO x)).alloc nlE) (fun w => w) (fun _ => W.heap.size) := by
  have hb0 : Below W.heap.size W (W.alloc (edO x)) := (Below.refl _ _).alloc (Nat.le_refl _) _
  have hb1 : Below W.heap.size W ((W.alloc (edO x)).alloc nlE) := hb0.alloc (by simp) _
  have hrd := rd_ed_new W x
  have hrd1 : Rd ((W.alloc (edO x)).alloc nlE) ((W.alloc (edO x)).alloc nlE).heap.size (some ⟨W.heap.size, 0, none⟩) (edsC [x]) := (hrd.alloc (Nat.le_refl _) _).more (by simp)
  obtain ⟨A5, c5, w5, hrun, hown, hg⟩ := app_eds (A := A) (c := c) hb1 (own_lit0 (W.alloc (edO x)) (by simp)) hr hB hn
  have hb5 : Below W.heap.size W w5 := hb1.trans (grown_below' hg (fun k hk => by cases hk; simp) hb1.size)
  obtain ⟨A6, c6, w6, hrun6, hown6, hb6⟩ := app_oneE (b := W.heap.size) (x := x) hb5 hown (rd_keptE hrd1 hg (by simp)) hn
  exact ⟨A5, c5, w5, A6, c6, w6, hrun, hrun6, hown6, hb6, hb5⟩
/-- The same, of a world behind a draw, as a walk spells it. -/
theorem ordE1d (hr : Rd W B A (edsC P)) (hB : B ≤ W.heap.size) (hn : P.length ≤ 1000) (x : Ed) :
    ∃ A5 c5 w5 A6 c6 w6, (Builtin.append_ #[22, 22] 22 #[.slice (some ⟨W.heap.size, 0, none⟩) 0 0, .slice A P.length c]).run Try.prog (W.alloc (.cells #[] 48)).drew = .ok (.slice A5 P.length c5) w5 ∧ (Builtin.append_ #[22, 22] 22 #[.slice A5 P.length c5, .slice (some ⟨w5.heap.size, 0, none⟩) 1 1]).run Try.prog (w5.alloc (.cells #[.int .i64 x.f, .string ⟨x.lab.toArray⟩, .int .i64 x.t] 48)) = .ok (.slice A6 (P.length + 1) c6) w6 ∧ w6.ownsRow W.heap.size 48 3 (.slice A6 (P.length + 1) c6) (P.length + 1) (edsC (P ++ [x])) ∧ Below W.heap.size W w6 ∧ Below W.heap.size W w5 := by
  obtain ⟨A5, c5, w5, A6, c6, w6, h1, h2, h3, h4, h5⟩ := ordE1 (W := W.drew) (A := A) (c := c) hr hB hn x
  exact ⟨A5, c5, w5, A6, c6, w6, h1, h2, h3, ⟨h4.os, h4.tape, h4.output, h4.size, h4.block⟩, ⟨h5.os, h5.tape, h5.output, h5.size, h5.block⟩⟩
theorem ordE2d (hr : Rd W B A (edsC P)) (hB : B ≤ W.heap.size) (hn : P.length ≤ 1000) (x : Ed) :
    ∃ A5 c5 w5 A6 c6 w6, (Builtin.append_ #[22, 22] 22 #[.slice (some ⟨W.heap.size, 0, none⟩) 0 0, .slice A P.length c]).run Try.prog ((W.alloc (.cells #[] 48)).alloc (.cells #[.int .i64 x.f, .string ⟨x.lab.toArray⟩, .int .i64 x.t] 48)).drew = .ok (.slice A5 P.length c5) w5 ∧ (Builtin.append_ #[22, 22] 22 #[.slice A5 P.length c5, .slice (some ⟨W.heap.size + 1, 0, none⟩) 1 1]).run Try.prog w5 = .ok (.slice A6 (P.length + 1) c6) w6 ∧ w6.ownsRow W.heap.size 48 3 (.slice A6 (P.length + 1) c6) (P.length + 1) (edsC (P ++ [x])) ∧ Below W.heap.size W w6 ∧ Below W.heap.size W w5 := by
  obtain ⟨A5, c5, w5, A6, c6, w6, h1, h2, h3, h4, h5⟩ := ordE2 (W := W.drew) (A := A) (c := c) hr hB hn x
  have e : (W.drew.alloc nlE).heap.size = W.heap.size + 1 := alloc1_size W.drew nlE
  rw [e] at h2
  exact ⟨A5, c5, w5, A6, c6, w6, h1, h2, h3, ⟨h4.os, h4.tape, h4.output, h4.size, h4.block⟩, ⟨h5.os, h5.tape, h5.output, h5.size, h5.block⟩⟩
theorem ordE3d (hr : Rd W B A (edsC P)) (hB : B ≤ W.heap.size) (hn : P.length ≤ 1000) (x : Ed) :
    ∃ A5 c5 w5 A6 c6 w6, (Builtin.append_ #[22, 22] 22 #[.slice (some ⟨W.heap.size + 1, 0, none⟩) 0 0, .slice A P.length c]).run Try.prog ((W.alloc (.cells #[.int .i64 x.f, .string ⟨x.lab.toArray⟩, .int .i64 x.t] 48)).alloc (.cells #[] 48)).drew = .ok (.slice A5 P.length c5) w5 ∧ (Builtin.append_ #[22, 22] 22 #[.slice A5 P.length c5, .slice (some ⟨W.heap.size, 0, none⟩) 1 1]).run Try.prog w5 = .ok (.slice A6 (P.length + 1) c6) w6 ∧ w6.ownsRow W.heap.size 48 3 (.slice A6 (P.length + 1) c6) (P.length + 1) (edsC (P ++ [x])) ∧ Below W.heap.size W w6 ∧ Below W.heap.size W w5 := by
  obtain ⟨A5, c5, w5, A6, c6, w6, h1, h2, h3, h4, h5⟩ := ordE3 (W := W.drew) (A := A) (c := c) hr hB hn x
  have e : (W.drew.alloc (edO x)).heap.size = W.heap.size + 1 := alloc1_size W.drew (edO x)
  rw [e] at h1
  exact ⟨A5, c5, w5, A6, c6, w6, h1, h2, h3, ⟨h4.os, h4.tape, h4.output, h4.size, h4.block⟩, ⟨h5.os, h5.tape, h5.output, h5.size, h5.block⟩⟩
end
end Go.Proofs.Ytmldiojlglpoiaa
/- What the document's Sorted wants: a list's two parts, the merge's steps. -/
namespace Go.Proofs.Ytmldiojlglpoiaa
open Go.RowKit Go.Maps

theorem LV.Ok.part {w : World} {b o c : Nat} {ts : List TV} (h : LV.Ok w ⟨some ⟨b, o, none⟩, ts, c⟩) (k : Nat) (hk : k ≤ ts.length) : LV.Ok w ⟨some ⟨b, o, none⟩, ts.take k, c⟩ ∧ LV.Ok w ⟨some ⟨b, o + k, none⟩, ts.drop k, c - k⟩ := by
  have hc := h.cap
  have hs := h.sm
  dsimp only at hc hs
  refine ⟨⟨fun hn => ?_, fun t ht => h.ok t (List.mem_of_mem_take ht), by dsimp only; rw [List.length_take]; omega, by dsimp only; rw [List.length_take]; omega⟩, ⟨fun hn => ?_, fun t ht => h.ok t (List.mem_of_mem_drop ht), by dsimp only; rw [List.length_drop]; omega, by dsimp only; rw [List.length_drop]; omega⟩⟩
  · have hne : vals ts ≠ [] := fun e => hn (by have := congrArg List.length e; rw [vals_len] at this; dsimp only; have h0 : ts = [] := List.length_eq_zero_iff.1 this; rw [h0]; simp [vals])
    obtain ⟨b', o', e, hb, hcl⟩ := h.rd hne
    injection e with e
    injection e with e1 e2
    subst e1 e2
    refine ⟨b, o, rfl, hb, fun j u hu => hcl j u ?_⟩
    dsimp only at hu
    unfold vals at hu ⊢
    rw [List.map_take, List.getElem?_take] at hu
    split at hu
    · exact hu
    · cases hu
  · have hne : vals ts ≠ [] := fun e => hn (by have := congrArg List.length e; rw [vals_len] at this; dsimp only; have h0 : ts = [] := List.length_eq_zero_iff.1 this; rw [h0]; simp [vals])
    obtain ⟨b', o', e, hb, hcl⟩ := h.rd hne
    injection e with e
    injection e with e1 e2
    subst e1 e2
    refine ⟨b, o + k, rfl, hb, fun j u hu => ?_⟩
    dsimp only at hu
    unfold vals at hu hcl
    rw [List.map_drop, List.getElem?_drop] at hu
    rw [Nat.add_assoc]
    exact hcl (k + j) u hu
theorem mrg_drop_a {a : List Tu} {i : Nat} (h : i < a.length) : mrg2 (a.drop i) [] = a[i] :: mrg2 (a.drop (i + 1)) [] := by
  rw [mrg2_nil_right, mrg2_nil_right, List.drop_eq_getElem_cons h]
theorem mrg_drop_b {b : List Tu} {k : Nat} (h : k < b.length) : mrg2 [] (b.drop k) = b[k] :: mrg2 [] (b.drop (k + 1)) := by
  rw [mrg2_nil_left, mrg2_nil_left, List.drop_eq_getElem_cons h]
theorem mrg_drop {a b : List Tu} {i k : Nat} (h : i < a.length) (h' : k < b.length) : mrg2 (a.drop i) (b.drop k) = if cmpI a[i] b[k] < 0 then a[i] :: mrg2 (a.drop (i + 1)) (b.drop k) else if cmpI a[i] b[k] = 0 then mrg2 (a.drop (i + 1)) (b.drop k) else b[k] :: mrg2 (a.drop i) (b.drop (k + 1)) := by
  rw [List.drop_eq_getElem_cons h, List.drop_eq_getElem_cons h', mrg2_cons, ← List.drop_eq_getElem_cons h, ← List.drop_eq_getElem_cons h']
end Go.Proofs.Ytmldiojlglpoiaa
