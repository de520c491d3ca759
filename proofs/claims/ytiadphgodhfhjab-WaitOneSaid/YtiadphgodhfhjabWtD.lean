/- Layer 17: ring. -/
import Derived.Test.YtiadphgodhfhjabWtC
import Derived.Test.YtiadphgodhfhjabIntZ
import Derived.Deep.LoopGhost
namespace Go.Proofs.Ytiadphgodhfhjab
open Go.RowKit

/-- A row of masks, as values. -/
def maskV (M : List Nat) : Array Value := (M.map fun (m : Nat) => Value.int .u32 (m : Int)).toArray
/-- Masks of the sessions. -/
structure MkOk (M : List Nat) : Prop where
  len : M.length = 17
  lt : ∀ a, M.getD a 0 < 131072
  ed : ∀ a b, MkR M a b → (1 ≤ a ∧ a ≤ 16) ∧ (1 ≤ b ∧ b ≤ 16)
def natZ (l : List Nat) : List Int := l.map fun (n : Nat) => (n : Int)
theorem natZ_len (l : List Nat) : (natZ l).length = l.length := by simp [natZ]
theorem natZ_app (l : List Nat) (x : Nat) : natZ (l ++ [x]) = natZ l ++ [(x : Int)] := by simp [natZ]
theorem natZ_drop (l : List Nat) : natZ l.dropLast = (natZ l).dropLast := by simp [natZ, List.map_dropLast]
theorem natZ_at {l : List Nat} {k : Nat} (h : k < (natZ l).length) : (natZ l)[k] = ((l.getD k 0 : Nat) : Int) := by
  have h' : k < l.length := by rw [natZ_len] at h; exact h
  simp [natZ, List.getD_eq_getElem?_getD, h']
theorem mask_cell {w : World} {b : Nat} {M : List Nat} (h : w.heap[b]? = some (.cells (maskV M) 48 (0, 0))) {k : Nat} (hk : k < M.length) : w.cell? ⟨b, k, none⟩ = some (.int .u32 (M.getD k 0 : Nat)) := by
  rw [cell_of_row w b k _ _ _ h]
  simp [maskV, List.getD_eq_getElem?_getD, hk]
/-- What ring answers, where there is one. -/
def RgYes (M : List Nat) (s : Nat) (w : World) (e : Ending) (w' : World) : Prop := ∃ (A : Option Addr) (c : Nat) (l : List Nat), e = .returned (.slice A l.length c) ∧ OwnZ w' w.heap.size (.slice A l.length c) (natZ l) ∧ RingOf (MkR M) s l ∧ l.length ≤ 16 ∧ (∀ x ∈ l, 1 ≤ x ∧ x ≤ 16) ∧ Below w.heap.size w w'
def RgPost (M : List Nat) (s : Nat) (w : World) (e : Ending) (w' : World) : Prop := RgYes M s w e w' ∨ (¬ InRing (MkR M) s ∧ e = .returned (.slice none 0 0) ∧ Below w.heap.size w w')
/-- The search in memory. -/
structure RgS (M : List Nat) (s : Nat) (w wr : World) (A : Option Addr) (c : Nat) (l : List Nat) (m : Nat) (C : List Nat) : Prop where
  own : OwnZ wr w.heap.size (.slice A l.length c) (natZ l)
  srch : Srch (MkR M) s l (fun x => x ∈ C)
  nd : C.Nodup
  bnd : ∀ y ∈ C, 1 ≤ y ∧ y ≤ 16
  bits : ∀ y, m.testBit y = true ↔ y ∈ C
  mlt : m < 131072
  bel : Below w.heap.size w wr
  box : wr.heap[w.heap.size]? = some (.cells (maskV M) 48 (0, 0))
theorem RgS.len {M : List Nat} {s : Nat} {w wr : World} {A : Option Addr} {c : Nat} {l : List Nat} {m : Nat} {C : List Nat} (h : RgS M s w wr A c l m C) : C.length ≤ 16 ∧ l.length ≤ 16 := by
  have k : ∀ {l : List Nat}, l.Nodup → (∀ y ∈ l, 1 ≤ y ∧ y ≤ 16) → l.length ≤ 16 := fun {l} hn hb => by
    have := nodup_lenW (m := (List.range 16).map (· + 1)) hn fun x hx => List.mem_map.2 ⟨x - 1, List.mem_range.2 (by have := hb x hx; omega), by have := hb x hx; omega⟩
    simpa using this
  exact ⟨k h.nd h.bnd, k h.srch.nd fun y hy => h.bnd y (h.srch.sub y hy)⟩
set_option maxRecDepth 100000 in
set_option maxHeartbeats 4000000 in
theorem ring_any (M : List Nat) (hM : MkOk M) (s : Nat) (h1 : 1 ≤ s) (h16 : s ≤ 16) (w : World) :
    Calls Try.prog 26 #[.agg (maskV M), .int .i64 (s : Int)] w (RgPost M s w) := by
  have HB := Lib.hid (fun (x : Nat) (hx : x ≤ 16) w => bit_any x w hx)
  have hb0 : Below w.heap.size w (w.alloc (.cells (maskV M) 48)) := (Below.refl _ _).alloc (Nat.le_refl _) _
  have hg := heap_alloc_new w (.cells (maskV M) 48)
  have H0 := Lib.hid (And.intro hb0 hg)
  have HM := Lib.hid (And.intro hM (And.intro h1 h16))
  clear hb0 hg hM
  go_enter Try.func26, Try.ntmps26
  go_wp2
  go_step3
  go_wp2_with (go_at_call 30; (with_reducible refine (HB.out s HM.out.2.2 _).mono ?_); rintro e w2 ⟨rfl, rfl⟩)
  go_step3
  go_wp2
  have HS : Hid (RgS M s w ((w.alloc (.cells (maskV M) 48)).alloc (.cells #[.int .i64 (s : Int)] 3)) (some ⟨w.heap.size + 1, 0, none⟩) 1 [s] (pw s) [s]) := by
    have hb2 : Below (w.alloc (.cells (maskV M) 48)).heap.size (w.alloc (.cells (maskV M) 48)) ((w.alloc (.cells (maskV M) 48)).alloc (.cells #[.int .i64 (s : Int)] 3)) := (Below.refl _ _).alloc (Nat.le_refl _) _
    refine Lib.hid ⟨OwnZ.new (g := w.heap.size + 1) (by rw [← alloc1_size w (.cells (maskV M) 48)]; exact heap_alloc_new _ _) (by omega), ?_, List.pairwise_singleton _ _, fun y hy => by rw [List.mem_singleton.1 hy]; exact HM.out.2, fun y => ?_, pw_lt HM.out.2.2, H0.out.1.trans (lower' hb2 (by simp)), (hb2.block _ (by simp)).trans H0.out.2⟩
    · have := Srch.start (MkR M) s
      rwa [show (fun x => x ∈ [s]) = fun x => x = s from by funext x; simp]
    · unfold pw
      rw [Nat.testBit_two_pow, decide_eq_true_iff, List.mem_singleton]
      exact eq_comm
  generalize ((w.alloc (.cells (maskV M) 48)).alloc (.cells #[.int .i64 (s : Int)] 3)) = W0 at HS ⊢
  go_loopg [5, 6] 40 (fun gk v5 v6 wr => ∃ (A : Option Addr) (c : Nat) (l : List Nat) (m : Nat) (C : List Nat), v5 = .slice A l.length c ∧ v6 = .int .u32 (m : Int) ∧ 2 * (16 - C.length) + l.length ≤ gk ∧ Hid (RgS M s w wr A c l m C))
  case atStart => exact ⟨_, 1, [s], pw s, [s], rfl, rfl, by simp, HS⟩
  case round =>
    clear HS
    obtain ⟨A, c, l, m, C, rfl, rfl, hgk, hrel⟩ := hrel
    by_cases hl : 0 < l.length
    · obtain ⟨k, hk⟩ : ∃ k, l.length = k + 1 := ⟨l.length - 1, by omega⟩
      obtain ⟨g, rfl, hgw, hgl, hgc, hcl⟩ := hrel.out.own.at (by rw [natZ_len]; omega)
      rw [natZ_len] at hgc
      obtain ⟨x, hx⟩ : ∃ x, x = l.getD (l.length - 1) 0 := ⟨_, rfl⟩
      have hxm : x ∈ l := by rw [hx]; exact getD_mem0 (by omega)
      have hxb := hrel.out.bnd x (hrel.out.srch.sub x hxm)
      have hc0 := hcl k (by rw [natZ_len]; omega)
      rw [natZ_at, show l.getD k 0 = x from by rw [hx, hk]; rfl] at hc0
      have hc1 := mask_cell hrel.out.box (k := x) (by rw [HM.out.1.len]; omega)
      obtain ⟨mx, hmx⟩ : ∃ mx, mx = M.getD x 0 := ⟨_, rfl⟩
      rw [← hmx] at hc1
      have hml : mx < 131072 := by rw [hmx]; exact HM.out.1.lt x
      have hll := hrel.out.len
      have hpos := hrel.out.mlt
      have HH := Lib.hid (fun (m y : Nat) (hm : m < 131072) (hy : y ≤ 16) (b : Bool) (hb : m.testBit y = b) w => has_any m y w hy (by omega) b hb)
      have hxI : (x : Int) ≤ 16 := by omega
      have hkI : (k : Int) ≤ 16 := by omega
      have HX := Lib.hid (And.intro hx (And.intro hmx (And.intro hxm (And.intro hk (And.intro hll (And.intro hgw (And.intro hgl hgk)))))))
      have HQ := Lib.hid (And.intro hml hpos)
      clear hx hmx hxm hll hpos hml hcl hgw hgl hgk
      rw [hk]
      clear hk hl
      cases e : mx.testBit s
      · have he := Lib.hid e
        clear e
        go_wp2_with (go_at_call 31; (with_reducible refine (HH.out mx s HQ.out.1 HM.out.2.2 false he.out _).mono ?_); rintro e w2 ⟨rfl, rfl⟩)
        go_loopg [5, 6, 8] 17 (fun g2 v5 v6 v8 wy => ∃ j : Nat, j ≤ 16 ∧ j + g2 = 17 ∧ v5 = .slice (some ⟨g, 0, none⟩) (k + 1) c ∧ v6 = .int .u32 (m : Int) ∧ v8 = .int .i64 ((j : Int) + 1) ∧ w2 = wy ∧ Hid (∀ y, 1 ≤ y → y ≤ j → mx.testBit y = true → y ∈ C))
        case atStart => exact ⟨0, by omega, by omega, rfl, rfl, rfl, rfl, Lib.hid fun y h1 h2 => by omega⟩
        case round =>
          rename Nat => g2
          obtain ⟨j, hj, hjg, rfl, rfl, rfl, rfl, hall⟩ := hrel
          by_cases hlt : j < 16
          · have hjI : (j : Int) + 1 ≤ 16 := by omega
            have hj2 : (j : Int) ≤ 15 := by omega
            have c1 := fun (b : Bool) (hb : mx.testBit (j + 1) = b) W => (show Calls Try.prog 31 #[.int .u32 (mx : Int), .int .i64 ((j : Int) + 1)] W fun e w' => e = .returned (.bool b) ∧ w' = W from HH.out mx (j + 1) HQ.out.1 (by omega) b hb W)
            have c2 := fun (b : Bool) (hb : m.testBit (j + 1) = b) W => (show Calls Try.prog 31 #[.int .u32 (m : Int), .int .i64 ((j : Int) + 1)] W fun e w' => e = .returned (.bool b) ∧ w' = W from HH.out m (j + 1) HQ.out.2 (by omega) b hb W)
            have HC := Lib.hid (And.intro c1 c2)
            have HJ := Lib.hid (And.intro hlt (And.intro hjg hall.out))
            have hnext : (mx.testBit (j + 1) = true → (j + 1) ∈ C) → ∀ y, 1 ≤ y → y ≤ j + 1 → mx.testBit y = true → y ∈ C := fun h y h1 h2 h3 => by
              by_cases e : y = j + 1
              · subst e; exact h h3
              · exact HJ.out.2.2 y h1 (by omega) h3
            have HN := Lib.hid hnext
            clear c1 c2 hlt hjg hall hnext
            cases e1 : mx.testBit (j + 1)
            · have he1 := Lib.hid e1
              clear e1
              go_wp2_with (go_at_call 31; (with_reducible refine (HC.out.1 false he1.out _).mono ?_); rintro e w2 ⟨rfl, rfl⟩)
              go_roundg (g2 - 1)
              case rel => exact ⟨j + 1, by omega, by have := HJ.out.2.1; omega, rfl, rfl, by go_num, rfl, Lib.hid (HN.out fun h => by rw [he1.out] at h; cases h)⟩
              case measure => have := HJ.out; omega
            · have he1 := Lib.hid e1
              clear e1
              cases e2 : m.testBit (j + 1)
              · have he2 := Lib.hid e2
                clear e2
                obtain ⟨A5, c5, w5, hrun, hown, hfr, hbl, hb5⟩ := app_intZ w2 w.heap.size (.slice (some ⟨g, 0, none⟩) l.length c) (natZ l) hrel.out.own hrel.out.bel.size ((j : Int) + 1) (by rw [natZ_len]; have := HX.out.2.2.2.2.1; omega)
                rw [natZ_len, HX.out.2.2.2.1] at hrun
                have hbit := fun W => (show Calls Try.prog 30 #[.int .i64 ((j : Int) + 1)] W fun e w' => e = .returned (.int .u32 (pw (j + 1) : Int)) ∧ w' = W from HB.out (j + 1) (by omega) W)
                have HBI := Lib.hid hbit
                have hor : bits BinOp.or IntKind.u32 (m : Int) (pw (j + 1) : Int) = ((m ||| 2 ^ (j + 1) : Nat) : Int) := or_bits (by omega) HQ.out.2
                obtain ⟨m', hm'⟩ : ∃ m', m' = m ||| 2 ^ (j + 1) := ⟨_, rfl⟩
                have hnC : (j + 1) ∉ C := fun h => by
                  have := (hrel.out.bits (j + 1)).2 h
                  rw [he2.out] at this
                  cases this
                have hgo : Srch (MkR M) s (l ++ [j + 1]) (fun y => y ∈ (j + 1) :: C) := hrel.out.srch.go (x := j + 1) (by have := HX.out.2.2.2.1; omega) (by rw [← HX.out.1]; unfold MkR; rw [← HX.out.2.1]; exact he1.out) hnC fun y => by simp [or_comm]
                have HNX : Hid (RgS M s w w5 A5 c5 (l ++ [j + 1]) m' ((j + 1) :: C)) := by
                  refine Lib.hid ⟨?_, hgo, List.nodup_cons.2 ⟨hnC, hrel.out.nd⟩, fun y hy => ?_, fun y => ?_, ?_, hrel.out.bel.trans hb5, (hfr.block _ (heap_lt hrel.out.box) ?_).trans hrel.out.box⟩
                  · rw [natZ_app, List.length_append]
                    rw [natZ_len] at hown
                    exact hown
                  · rcases List.mem_cons.1 hy with rfl | hy
                    · exact ⟨by omega, by have := HJ.out.1; omega⟩
                    · exact hrel.out.bnd y hy
                  · rw [hm', testBit_or2, Bool.or_eq_true, decide_eq_true_iff, hrel.out.bits y, List.mem_cons]
                    exact ⟨fun h => h.elim .inr (fun e => .inl e.symm), fun h => h.elim (fun e => .inr e.symm) .inl⟩
                  · rw [hm']; exact or_lt (by have := HJ.out.1; omega) HQ.out.2
                  · exact hrel.out.own.apart hrel.out.box (by decide)
                rw [← hm'] at hor
                have hlen : (l ++ [j + 1]).length = k + 1 + 1 := by rw [List.length_append, HX.out.2.2.2.1]; rfl
                have hcl := (HNX.out.len).1
                have hcl2 : ((j + 1) :: C).length = C.length + 1 := rfl
                have hgk := HX.out.2.2.2.2.2.2.2
                have hmeas : 2 * (16 - ((j + 1) :: C).length) + (l ++ [j + 1]).length ≤ gk - 1 ∧ gk - 1 < gk := by
                  have := HX.out.2.2.2.1
                  omega
                have HME := Lib.hid (And.intro hmeas hlen)
                clear hown hfr hbl hb5 hbit hm' hnC hgo hlen hcl hcl2 hgk hmeas
                go_wp2_with (first
                  | (go_at_call 31; (with_reducible refine (HC.out.1 true he1.out _).mono ?_); rintro e w2 ⟨rfl, rfl⟩)
                  | (go_at_call 31; (with_reducible refine (HC.out.2 false he2.out _).mono ?_); rintro e w2 ⟨rfl, rfl⟩)
                  | (go_at_call 30; (with_reducible refine (HBI.out _).mono ?_); rintro e w2 ⟨rfl, rfl⟩)
                  | (at_builtin; refine wpL_appK _ rfl (.tmp 43) (.tmp 45) 25 rfl rfl _ _ _ _ rfl rfl hrun ?_))
                go_roundg (gk - 1)
                case rel => exact ⟨A5, c5, l ++ [j + 1], m', (j + 1) :: C, by rw [HME.out.2], rfl, HME.out.1.1, HNX⟩
                case measure => exact HME.out.1.2
              · have he2 := Lib.hid e2
                clear e2
                go_wp2_with (first
                  | (go_at_call 31; (with_reducible refine (HC.out.1 true he1.out _).mono ?_); rintro e w2 ⟨rfl, rfl⟩)
                  | (go_at_call 31; (with_reducible refine (HC.out.2 true he2.out _).mono ?_); rintro e w2 ⟨rfl, rfl⟩))
                go_roundg (g2 - 1)
                case rel => exact ⟨j + 1, by omega, by have := HJ.out.2.1; omega, rfl, rfl, by go_num, rfl, Lib.hid (HN.out fun _ => (hrel.out.bits _).1 he2.out)⟩
                case measure => have := HJ.out; omega
          · obtain rfl : j = 16 := by omega
            have hpop := hrel.out.own
            rw [HX.out.2.2.2.1] at hpop
            have hlv := hrel.out.srch.leave (by have := HX.out.2.2.2.1; omega) (by rw [← HX.out.1]; unfold MkR; rw [← HX.out.2.1]; rw [he.out]; exact Bool.false_ne_true) (fun d hd => by
              rw [← HX.out.1] at hd
              have hdb := HM.out.1.ed _ _ hd
              unfold MkR at hd
              rw [← HX.out.2.1] at hd
              exact hall.out d hdb.2.1 hdb.2.2 hd)
            have hdl : l.dropLast.length = k := by rw [List.length_dropLast, HX.out.2.2.2.1]; rfl
            have HNX : Hid (RgS M s w w2 (some ⟨g, 0, none⟩) c l.dropLast m C) := Lib.hid ⟨by rw [natZ_drop, hdl]; exact hpop.pop, hlv, hrel.out.nd, hrel.out.bnd, hrel.out.bits, hrel.out.mlt, hrel.out.bel, hrel.out.box⟩
            have hme : 2 * (16 - C.length) + l.dropLast.length ≤ gk - 1 ∧ gk - 1 < gk := by
              have h1 := HX.out.2.2.2.2.2.2.2
              have := HX.out.2.2.2.1
              rw [hdl]
              omega
            have hkc : (k : Int) + 1 ≤ (c : Int) := by have := HX.out.2.2.2.1; omega
            have HME := Lib.hid (And.intro hme hdl)
            clear hpop hlv hdl hme hall hjg
            go_wp2_with (fail)
            go_roundg (gk - 1)
            case rel => exact ⟨some ⟨g, 0, none⟩, c, l.dropLast, m, C, by rw [HME.out.2], rfl, HME.out.1.1, HNX⟩
            case measure => exact HME.out.1.2
      · have he := Lib.hid e
        clear e
        go_wp2_with (go_at_call 31; (with_reducible refine (HH.out mx s HQ.out.1 HM.out.2.2 true he.out _).mono ?_); rintro e w2 ⟨rfl, rfl⟩)
        rw [Exit.noGoto_ret]
        go_ret
        exact .inl ⟨some ⟨g, 0, none⟩, c, l, by rw [HX.out.2.2.2.1]; rfl, hrel.out.own, hrel.out.srch.found (by have := HX.out.2.2.2.1; omega) (by rw [← HX.out.1]; unfold MkR; rw [← HX.out.2.1]; exact he.out), HX.out.2.2.2.2.1.2, fun y hy => hrel.out.bnd y (hrel.out.srch.sub y hy), hrel.out.bel⟩
    · have hl0 : l.length = 0 := by omega
      have HE := Lib.hid (show l = [] from List.eq_nil_of_length_eq_zero hl0)
      go_wp2
      rw [Exit.noGoto_ret]
      go_ret
      exact .inr ⟨by have h := hrel.out.srch; rw [HE.out] at h; exact h.none, rfl, hrel.out.bel⟩
end Go.Proofs.Ytiadphgodhfhjab
