/- The document's Span. -/
import Derived.Test.YtmldiojlglpoiaaJnI
namespace Go.Proofs.Ytmldiojlglpoiaa
open Go.RowKit Go.Maps Go.Sort

/-- Where Span is. -/
structure SpJ (E S : List Pr) (i j : Nat) : Prop where
  nd : S.Nodup
  ld : ∀ a b, (a, b) ∈ S → Lead (InE E) a b
  ed : ∀ e ∈ E, e ∈ S
  cl : ∀ p ∈ S.take i, ∀ e ∈ E, e.2 = p.1 → (e.1, p.2) ∈ S
  cj : ∀ p, S[i]? = some p → ∀ e ∈ E.take j, e.2 = p.1 → (e.1, p.2) ∈ S
theorem SpJ.start {E : List Pr} (h : E.Nodup) : SpJ E E 0 0 := ⟨h, fun _ _ h => .one h, fun _ h => h, by simp, by simp⟩
theorem SpJ.len {E S : List Pr} {i j : Nat} (h : SpJ E S i j) (hE : E.length ≤ 30) : S.length ≤ 900 := by
  have h1 : (S.map tupOf).length ≤ (spanL E).length := nodup_len (tups_nodup h.nd) fun t ht => by
    obtain ⟨⟨a, b⟩, hp, rfl⟩ := List.mem_map.1 ht
    exact mem_spanL.2 ⟨a, b, rfl, h.ld a b hp⟩
  rw [List.length_map] at h1
  exact Nat.le_trans h1 (Nat.le_trans (spanL_few E) (Nat.le_trans (Nat.mul_le_mul hE hE) (by omega)))
theorem SpJ.keep {E S : List Pr} {i j : Nat} {p : Pr} (h : SpJ E S i j) (hj : j < E.length) (hi : S[i]? = some p) (hk : E[j].2 = p.1 → (E[j].1, p.2) ∈ S) : SpJ E S i (j + 1) :=
  ⟨h.nd, h.ld, h.ed, h.cl, fun q hq e he hep => by
    rw [hi] at hq
    cases hq
    rcases (mem_take_succ hj e).1 he with h1 | rfl
    · exact h.cj p hi e h1 hep
    · exact hk hep⟩
theorem SpJ.more {E S : List Pr} {i j : Nat} {p : Pr} (h : SpJ E S i j) (hj : j < E.length) (hi : S[i]? = some p) (he : E[j].2 = p.1) (hn : (E[j].1, p.2) ∉ S) : SpJ E (S ++ [(E[j].1, p.2)]) i (j + 1) := by
  have hil : i < S.length := (List.getElem?_eq_some_iff.1 hi).1
  have hup : ∀ q, q ∈ S → q ∈ S ++ [(E[j].1, p.2)] := fun q hq => List.mem_append.2 (.inl hq)
  refine ⟨?_, ?_, fun e h1 => hup e (h.ed e h1), fun q hq e h1 h2 => hup _ (h.cl q (by rwa [List.take_append_of_le_length (by omega)] at hq) e h1 h2), fun q hq e h1 h2 => ?_⟩
  · rw [List.nodup_append]
    exact ⟨h.nd, by simp, fun a ha b hb => by rw [List.mem_singleton.1 hb]; rintro rfl; exact hn ha⟩
  · intro a b hab
    rcases List.mem_append.1 hab with h1 | h1
    · exact h.ld a b h1
    · have h2 := List.mem_singleton.1 h1
      have h3 := Prod.mk.inj h2
      rw [h3.1, h3.2]
      refine .cons (b := E[j].2) (List.getElem_mem hj) ?_
      rw [he]
      exact h.ld _ _ (List.mem_of_getElem? hi)
  · rw [List.getElem?_append_left hil, hi] at hq
    cases hq
    rcases (mem_take_succ hj e).1 h1 with h3 | rfl
    · exact hup _ (h.cj p hi e h3 h2)
    · exact List.mem_append.2 (.inr (List.mem_singleton.2 rfl))
theorem SpJ.next {E S : List Pr} {i : Nat} (h : SpJ E S i E.length) (hi : i < S.length) : SpJ E S (i + 1) 0 :=
  ⟨h.nd, h.ld, h.ed, fun p hp e he hep => by
    rcases (mem_take_succ hi p).1 hp with h1 | rfl
    · exact h.cl p h1 e he hep
    · exact h.cj _ (List.getElem?_eq_getElem hi) e (by rwa [List.take_of_length_le (Nat.le_refl _)]) hep, by simp⟩
theorem SpJ.done {E S : List Pr} {i j : Nat} (h : SpJ E S i j) (hi : S.length ≤ i) : ClosOk E S :=
  clos_of h.nd h.ld h.ed fun e he p hp hep => h.cl p (by rwa [List.take_of_length_le hi]) e he hep
theorem PrRow.drewN {lo : Nat} {w : World} {v : Value} {l : List Pr} (h : PrRow lo w v l) (n : Nat) : PrRow lo (w.drewN n) v l := h.kept (Below.drewN' (Below.refl _ _) n)
theorem PrRow.lit0 (w : World) : PrRow w.heap.size (w.alloc (.cells #[] 83)) (.slice (some ⟨w.heap.size, 0, none⟩) 0 0) [] := own_lit0 w (Nat.le_refl _)
/-- What Span answers. -/
def RsPost (w : World) (E : List Pr) (e : Ending) (w' : World) : Prop := ∃ A c S, e = .returned (.slice A S.length c) ∧ Prs w' A c S ∧ ClosOk E S ∧ S.length ≤ 900 ∧ Below w.heap.size w w'
set_option maxRecDepth 100000 in
set_option maxHeartbeats 8000000 in
theorem rspan_any (A : Option Addr) (c : Nat) (E : List Pr) (w : World) (h : Prs w A c E) (hE : E.Nodup) (hl : E.length ≤ 30) : Calls Try.prog 42 #[.slice A E.length c] w (RsPost w E) := by
  have hb0 : Below w.heap.size w (w.alloc (.cells #[] 83)) := (Below.refl _ _).alloc (Nat.le_refl _) _
  obtain ⟨v5, w5, hrun, h5, b5⟩ := (PrRow.lit0 w).app (m := E) (k := E.length) (c := c) rfl (h.below hb0).rd (by simp; omega) hb0.size
  rw [List.nil_append] at h5
  have HA := Lib.hid (And.intro h (And.intro hE hl))
  have H5 := Lib.hid (And.intro h5 (hb0.trans b5))
  clear h hE h5 b5 hb0
  go_enter Try.func42, Try.ntmps42
  go_wp2_with (at_builtin; refine wpL_appK _ rfl (.tmp 7) (.tmp 8) 79 rfl rfl _ _ _ _ rfl rfl hrun ?_)
  clear hrun
  go_loopw [3, 4] (fun v3 v4 wr => ∃ (i : Nat) (S : List Pr), v4 = .int .i64 (i : Int) ∧ Hid (PrRow w.heap.size wr v3 S ∧ SpJ E S i 0 ∧ i ≤ S.length ∧ Below w.heap.size w wr)) (fun _ v4 _ => 1000 - (intOf v4).toNat)
  case atStart => exact ⟨0, E, rfl, Lib.hid ⟨H5.out.1, SpJ.start HA.out.2.1, Nat.zero_le _, H5.out.2⟩⟩
  case round =>
    clear H5
    obtain ⟨i, S, rfl, hrel⟩ := hrel
    rename World => wr
    have hsl := hrel.out.2.1.len hl
    obtain ⟨A5, c5, rfl, hP⟩ := hrel.out.1.prs (by omega)
    by_cases hlt : i < S.length
    · have hlI : (i : Int) < (S.length : Int) := by omega
      have HO := Lib.hid hrel.out
      have HLT := Lib.hid (And.intro hlt hsl)
      clear hrel hP
      go_wp2_with (fail)
      go_loopw [3, 18] (fun v3 v18 wq => ∃ (j : Nat) (S' : List Pr), j ≤ E.length ∧ v18 = .int .i64 (j : Int) ∧ Hid (PrRow w.heap.size wq v3 S' ∧ SpJ E S' i j ∧ i < S'.length ∧ Below w.heap.size w wq)) (fun _ v18 _ => E.length - (intOf v18).toNat)
      case atStart => exact ⟨0, S, by omega, rfl, Lib.hid ⟨HO.out.1, HO.out.2.1, HLT.out.1, HO.out.2.2.2⟩⟩
      case round =>
        clear HO hlI
        obtain ⟨j, S', hj, rfl, hrel⟩ := hrel
        rename World => wq
        have hsl := hrel.out.2.1.len hl
        have hil := hrel.out.2.2.1
        have hiI : (i : Int) < (S'.length : Int) := by omega
        obtain ⟨A6, c6, rfl, hP⟩ := hrel.out.1.prs (by omega)
        by_cases hjl : j < E.length
        · have hjI : (j : Int) < (E.length : Int) := by omega
          obtain ⟨b, o, hA, hbl, x0, x1⟩ := (HA.out.1.below hrel.out.2.2.2).cell hjl
          obtain ⟨b2, o2, hA6, hbl2, y0, y1⟩ := hP.cell hil
          have HK := Lib.hid (fun hk => hrel.out.2.1.keep hjl (List.getElem?_eq_getElem hil) hk)
          have HM := Lib.hid (fun he hn => hrel.out.2.1.more hjl (List.getElem?_eq_getElem hil) he hn)
          rw [hA]
          have HRW := Lib.hid hrel.out.1
          have HBQ := Lib.hid hrel.out.2.2.2
          have HH0 := Lib.hid (fun (pa pb : Int) W' (h : Below wq.heap.size wq W') => has13_any A6 c6 S' pa pb W' (hP.below h))
          clear hrel hP
          subst hA6
          generalize E[j] = x at x0 x1 HK HM
          generalize S'[i] = y at y0 y1 HK HM
          obtain ⟨ea, eb⟩ := x
          obtain ⟨pa, pb⟩ := y
          dsimp only at x0 x1 y0 y1
          go_upto_region 8 with (fail)
          have KS := Lib.hid fun W' (h : Below wq.heap.size wq W') => (⟨(h.cell (p := ⟨b, o + j * 2, none⟩) hbl).trans x0, (h.cell (p := ⟨b2, o2 + i * 2 + 1, none⟩) hbl2).trans y1⟩ : W'.cell? ⟨b, o + j * 2, none⟩ = some (.int .i64 ea) ∧ W'.cell? ⟨b2, o2 + i * 2 + 1, none⟩ = some (.int .i64 pb))
          have KX := Lib.hid fun W' (h : Below wq.heap.size wq W') => (⟨(h.cell (p := ⟨b, o + j * 2 + 1, none⟩) hbl).trans x1, (h.cell (p := ⟨b2, o2 + i * 2, none⟩) hbl2).trans y0⟩ : W'.cell? ⟨b, o + j * 2 + 1, none⟩ = some (.int .i64 eb) ∧ W'.cell? ⟨b2, o2 + i * 2, none⟩ = some (.int .i64 pa))
          go_region_held3 (fun W => W.cell? ⟨b, o + j * 2, none⟩ = some (.int .i64 ea) ∧ W.cell? ⟨b2, o2 + i * 2 + 1, none⟩ = some (.int .i64 pb)) (first | with_reducible assumption | exact KS.out _ (Below.refl _ _).drew | exact KS.out _ ((Below.refl _ _).alloc (Nat.le_refl _) _).drew) (fail)
          have hb1 : Below wq.heap.size wq (wq.alloc (.cells #[.int .i64 ea, .int .i64 pb] 83)).drew := ((Below.refl _ _).alloc (Nat.le_refl _) _).drew
          have hg1 : (wq.alloc (.cells #[.int .i64 ea, .int .i64 pb] 83)).drew.heap[wq.heap.size]? = some (.cells #[.int .i64 ea, .int .i64 pb] 83) := heap_alloc_new wq _
          generalize (wq.alloc (.cells #[.int .i64 ea, .int .i64 pb] 83)).drew = w1 at hb1 hg1 ⊢
          have HD := Lib.hid fun W' (h : Below w1.heap.size w1 W') => (⟨cell_of_row W' wq.heap.size 0 _ _ _ ((h.block _ (heap_lt hg1)).trans hg1), cell_of_row W' wq.heap.size 1 _ _ _ ((h.block _ (heap_lt hg1)).trans hg1)⟩ : W'.cell? ⟨wq.heap.size, 0, none⟩ = some (.int .i64 ea) ∧ W'.cell? ⟨wq.heap.size, 1, none⟩ = some (.int .i64 pb))
          have KS2 := Lib.hid fun W' (h : Below w1.heap.size w1 W') => And.intro (KX.out W' (hb1.trans (lower' h hb1.size))) (HD.out W' h)
          have HB1 := Lib.hid (HBQ.out.trans (lower' hb1 HBQ.out.size))
          have HR1 := Lib.hid (HRW.out.kept hb1)
          have HH1 := Lib.hid (fun W' (h : Below w1.heap.size w1 W') => HH0.out ea pb W' (hb1.trans (lower' h hb1.size)))
          clear KS KX x0 x1 y0 y1 hb1 hg1 HBQ HRW HH0 hbl hbl2
          by_cases hg : eb = pa
          · subst hg
            cases hm : decide ((ea, pb) ∈ S') with
            | true =>
              rw [hm] at HH1
              have HK1 := Lib.hid (HK.out fun _ => of_decide_eq_true hm)
              clear hm HK HM
              go_upto_region 9 with (fail)
              go_region_held3 (fun W => (W.cell? ⟨b, o + j * 2 + 1, none⟩ = some (.int .i64 eb) ∧ W.cell? ⟨b2, o2 + i * 2, none⟩ = some (.int .i64 eb)) ∧ (W.cell? ⟨wq.heap.size, 0, none⟩ = some (.int .i64 ea) ∧ W.cell? ⟨wq.heap.size, 1, none⟩ = some (.int .i64 pb)))
                (first | with_reducible assumption | exact KS2.out _ (Below.refl _ _).drew | exact KS2.out _ B6.out)
                (first | (go_at_call 50; (with_reducible refine (HH1.out _ (Below.refl _ _).drew).mono ?_); rintro e w6 ⟨rfl, b6⟩; have B6 := Lib.hid ((Below.refl w1.heap.size w1).drew.trans (b6 : Below w1.heap.size _ _)); clear b6))
              all_goals
                go_wp2_with (fail)
                go_roundw
                case rel => exact ⟨j + 1, S', by omega, by go_num, Lib.hid ⟨HR1.out.kept B6.out, HK1.out, hil, HB1.out.trans (lower' B6.out HB1.out.size)⟩⟩
                case measure => simp [intOf]; omega
            | false =>
              rw [hm] at HH1
              have HK1 := Lib.hid (HM.out rfl (of_decide_eq_false hm))
              have HP := Lib.hid fun W' (h : Below w1.heap.size w1 W') => (HR1.out.kept h).push (ea, pb) (by omega) (HB1.out.trans (lower' h HB1.out.size)).size
              clear hm HK HM
              go_upto_region 9 with (fail)
              go_region_held3 (fun W => (W.cell? ⟨b, o + j * 2 + 1, none⟩ = some (.int .i64 eb) ∧ W.cell? ⟨b2, o2 + i * 2, none⟩ = some (.int .i64 eb)) ∧ (W.cell? ⟨wq.heap.size, 0, none⟩ = some (.int .i64 ea) ∧ W.cell? ⟨wq.heap.size, 1, none⟩ = some (.int .i64 pb)))
                (first | with_reducible assumption | exact KS2.out _ (Below.refl _ _).drew | exact KS2.out _ B6.out)
                (first | (go_at_call 50; (with_reducible refine (HH1.out _ (Below.refl _ _).drew).mono ?_); rintro e w6 ⟨rfl, b6⟩; have B6 := Lib.hid ((Below.refl w1.heap.size w1).drew.trans (b6 : Below w1.heap.size _ _)); clear b6))
              all_goals
                obtain ⟨v5, w7, hrun, p7, b7⟩ := HP.out _ B6.out
                obtain ⟨d0, d1⟩ := HD.out _ B6.out
                have H7 := Lib.hid (And.intro p7 ((HB1.out.trans (lower' B6.out HB1.out.size)).trans b7))
                clear p7 b7
                go_wp2_with (at_builtin; refine wpL_appK _ rfl (.tmp 49) (.tmp 51) 79 rfl rfl _ _ _ _ rfl rfl hrun ?_)
                go_roundw
                case rel => exact ⟨j + 1, S' ++ [(ea, pb)], by omega, by go_num, Lib.hid ⟨H7.out.1, HK1.out, by rw [List.length_append]; omega, H7.out.2⟩⟩
                case measure => simp [intOf]; omega
          · have HK1 := Lib.hid (HK.out fun h => absurd h hg)
            obtain ⟨⟨x1, y0⟩, -, -⟩ := KS2.out w1 (Below.refl _ _)
            clear HK HM
            go_upto_region 9 with (fail)
            go_quiet (fail)
            clear hg
            go_wp2_with (fail)
            go_roundw
            case rel => exact ⟨j + 1, S', by omega, by go_num, Lib.hid ⟨HR1.out.drewN _, HK1.out, hil, Below.drewN' HB1.out _⟩⟩
            case measure => simp [intOf]; omega
        · obtain rfl : j = E.length := by omega
          have hjI : ¬ (E.length : Int) < (E.length : Int) := by omega
          have HN := Lib.hid (And.intro hrel.out.1 (And.intro (hrel.out.2.1.next hil) hrel.out.2.2.2))
          clear hrel hP
          go_wp2_with (fail)
          go_roundw
          case rel => exact ⟨i + 1, S', by go_num, Lib.hid ⟨HN.out.1, HN.out.2.1, by omega, HN.out.2.2⟩⟩
          case measure => have := HLT.out; simp [intOf]; omega
    · have hlI : ¬ (i : Int) < (S.length : Int) := by omega
      have HF := Lib.hid (And.intro hP (And.intro (hrel.out.2.1.done (by omega)) hrel.out.2.2.2))
      clear hrel hP
      go_wp2_with (fail)
      go_ret
      exact ⟨A5, c5, S, rfl, HF.out.1, HF.out.2.1, hsl, HF.out.2.2⟩
end Go.Proofs.Ytmldiojlglpoiaa
