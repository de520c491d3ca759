/- TupK, what this seat can fill of it. -/
import Derived.Test.YtobieolonlddlaaJnA
namespace Go.Proofs.Ytobieolonlddlaa
/- The document's order of tuples, Has, Rises, Same. -/
open Go.RowKit Go.Maps

theorem rd_at {w : World} {t : TV} (h : t.Ok w) {b o : Nat} (e : t.A = some ⟨b, o, none⟩) {k : Nat} (hk : k < t.l.length) : w.cell? ⟨b, o + k, none⟩ = some (.int .i64 t.l[k]) := by
  obtain ⟨b', o', e', _, hc⟩ := h.cell hk
  rw [e] at e'
  injection e' with e'
  injection e' with e1 e2
  subst e1 e2
  exact hc
set_option maxRecDepth 100000 in
set_option maxHeartbeats 2000000 in
/-- The document's Cmp. -/
theorem rcmp_any (a b : TV) (w : World) (ha : a.Ok w) (hb : b.Ok w) : Calls Try.prog 36 #[.slice a.A a.l.length a.c, .slice b.A b.l.length b.c] w fun e w' => e = .returned (.int .i64 (cmpI a.l b.l)) ∧ ∃ n, w' = w.drewN n := by
  obtain ⟨R, hR⟩ : ∃ R, R = cmpI a.l b.l := ⟨_, rfl⟩
  rw [← hR]
  have hal := ha.sm
  have hbl := hb.sm
  obtain ⟨la, hla⟩ : ∃ n, n = a.l.length := ⟨_, rfl⟩
  obtain ⟨lb, hlb⟩ : ∃ n, n = b.l.length := ⟨_, rfl⟩
  rw [← hla] at hal ⊢
  rw [← hlb] at hbl ⊢
  have HA := Lib.hid (And.intro ha (And.intro hb (And.intro hR (And.intro hla hlb))))
  clear ha hb hR hla hlb
  go_enter Try.func36, Try.ntmps36
  go_wp2_with (fail)
  go_loopw [5] (fun i wr => ∃ k : Nat, k ≤ la ∧ k ≤ lb ∧ i = .int .i64 k ∧ Hid (cmpI (a.l.drop k) (b.l.drop k) = R ∧ a.Ok wr ∧ b.Ok wr ∧ ∃ n, wr = w.drewN n)) (fun i _ => la - (intOf i).toNat)
  case atStart => exact ⟨0, by omega, by omega, rfl, Lib.hid ⟨by rw [HA.out.2.2.1]; rfl, HA.out.1, HA.out.2.1, 0, rfl⟩⟩
  case round =>
    obtain ⟨k, hk, hkb, rfl, HR⟩ := hrel
    have hrel := HR.out.1
    by_cases hlt : k < la
    · have hlt' : k < a.l.length := by rw [← HA.out.2.2.2.1]; exact hlt
      obtain ⟨xb, xo, hxa, _, hxc⟩ := HR.out.2.1.cell hlt'
      rw [drop_cons hlt'] at hrel
      rw [hxa]
      have hI : (k : Int) < (la : Int) := by omega
      have h00 : (0 : Int) ≤ (k : Int) := by omega
      by_cases hlb : k < lb
      · have hlb' : k < b.l.length := by rw [← HA.out.2.2.2.2]; exact hlb
        obtain ⟨yb, yo, hya, _, hyc⟩ := HR.out.2.2.1.cell hlb'
        rw [drop_cons hlb', cmpI_cons] at hrel
        generalize a.l[k] = x at *
        generalize b.l[k] = y at *
        rw [hya]
        have hJ : (k : Int) < (lb : Int) := by omega
        by_cases h1 : x < y
        · rw [if_pos h1] at hrel
          have HE := Lib.hid hrel
          clear hrel
          go_wp2_with (fail)
          go_quiet (fail)
          go_wp2_with (fail)
          go_ret
          exact ⟨ret_int HE.out, drew_more HR.out.2.2.2 _⟩
        · rw [if_neg h1] at hrel
          by_cases h2 : y < x
          · rw [if_pos h2] at hrel
            have HE := Lib.hid hrel
            clear hrel
            go_wp2_with (fail)
            go_quiet (fail)
            go_wp2_with (fail)
            go_quiet (fail)
            go_wp2_with (fail)
            go_ret
            exact ⟨ret_int HE.out, drew_more (drew_more HR.out.2.2.2 _) _⟩
          · rw [if_neg h2] at hrel
            have HE := Lib.hid hrel
            clear hrel
            go_wp2_with (fail)
            go_quiet (fail)
            go_wp2_with (fail)
            go_quiet (fail)
            go_wp2_with (fail)
            go_roundw
            case rel => exact ⟨k + 1, by omega, by omega, by go_num, Lib.hid ⟨HE.out, HR.out.2.1.drewN _, HR.out.2.2.1.drewN _, drew_more HR.out.2.2.2 _⟩⟩
            case measure => simp [intOf]; omega
      · have g0 : ¬ (k : Int) < (lb : Int) := by omega
        have g1 : ¬ (la : Int) < (lb : Int) := by omega
        have g2 : (lb : Int) < (la : Int) := by omega
        rw [List.drop_of_length_le (show b.l.length ≤ k by rw [← HA.out.2.2.2.2]; omega), cmpI] at hrel
        have HE := Lib.hid hrel
        clear hrel hxc
        go_wp2_with (fail)
        go_ret
        exact ⟨ret_int HE.out, HR.out.2.2.2⟩
    · have g0 : ¬ (k : Int) < (la : Int) := by omega
      rw [List.drop_of_length_le (show a.l.length ≤ k by rw [← HA.out.2.2.2.1]; omega)] at hrel
      by_cases hlb : la < lb
      · have g1 : (la : Int) < (lb : Int) := by omega
        rw [drop_cons (show k < b.l.length by rw [← HA.out.2.2.2.2]; omega), cmpI] at hrel
        have HE := Lib.hid hrel
        clear hrel
        go_wp2_with (fail)
        go_ret
        exact ⟨ret_int HE.out, HR.out.2.2.2⟩
      · have g1 : ¬ (la : Int) < (lb : Int) := by omega
        have g2 : ¬ (lb : Int) < (la : Int) := by omega
        rw [List.drop_of_length_le (show b.l.length ≤ k by rw [← HA.out.2.2.2.2]; omega), cmpI] at hrel
        have HE := Lib.hid hrel
        clear hrel
        go_wp2_with (fail)
        go_ret
        exact ⟨ret_int HE.out, HR.out.2.2.2⟩
theorem hasL_snoc (l : List Tu) (u t : Tu) : hasL (l ++ [u]) t = (hasL l t || decide (cmpI u t = 0)) := by
  unfold hasL
  rw [List.any_append]
  simp
set_option maxRecDepth 100000 in
set_option maxHeartbeats 2000000 in
/-- The document's Has. -/
theorem rhas_any (x : LV) (t : TV) (w : World) (hx : x.Ok w) (ht : t.Ok w) : Calls Try.prog 22 #[.slice x.A x.ts.length x.c, .slice t.A t.l.length t.c] w fun e w' => e = .returned (.bool (hasL (tus x.ts) t.l)) ∧ ∃ n, w' = w.drewN n := by
  obtain ⟨R, hR⟩ : ∃ R, R = hasL (tus x.ts) t.l := ⟨_, rfl⟩
  rw [← hR]
  have hs := hx.sm
  have HA := Lib.hid (And.intro hx (And.intro ht hR))
  clear hx ht hR
  go_enter Try.func22, Try.ntmps22
  go_wp2_with (fail)
  go_loopw [8] (fun i wr => ∃ k n : Nat, k ≤ x.ts.length ∧ i = .int .i64 k ∧ wr = w.drewN n ∧ Hid (hasL ((tus x.ts).take k) t.l = false)) (fun i _ => x.ts.length - (intOf i).toNat)
  case atStart => exact ⟨0, 0, by omega, rfl, rfl, Lib.hid rfl⟩
  case round =>
    obtain ⟨k, n, hk, rfl, rfl, HF⟩ := hrel
    by_cases hlt : k < x.ts.length
    · obtain ⟨b, o, hxa, _, hc⟩ := HA.out.1.cell hlt
      have hcall := fun n => rcmp_any x.ts[k] t (w.drewN n) ((HA.out.1.at hlt).drewN n) (HA.out.2.1.drewN n)
      have hsn : hasL ((tus x.ts).take (k + 1)) t.l = decide (cmpI x.ts[k].l t.l = 0) := by
        rw [List.take_succ_eq_append_getElem (by rw [tus_len]; exact hlt), hasL_snoc, HF.out, Bool.false_or, tus_at x.ts k hlt]
      have hfin : cmpI x.ts[k].l t.l = 0 → R = true := fun h => by rw [HA.out.2.2]; exact hasL_at (i := k) (by rw [tus_len]; exact hlt) (by rw [tus_at x.ts k hlt]; exact h)
      rw [hxa]
      generalize x.ts[k] = y at *
      obtain ⟨K, hK⟩ : ∃ K, K = cmpI y.l t.l := ⟨_, rfl⟩
      rw [← hK] at hcall hsn hfin
      have HC := Lib.hid hcall
      clear hcall hK
      by_cases hz : K = 0
      · have HS := Lib.hid (hfin hz)
        clear hfin hsn
        subst hz
        go_wp2_with (go_at_call 36; (with_reducible refine (HC.out _).mono ?_); rintro e w' ⟨rfl, n', rfl⟩)
        go_ret
        exact ⟨by rw [HS.out]; rfl, n + n', rfl⟩
      · have hz' : (K == 0) = false := beq_eq_false_iff_ne.2 hz
        have HS := Lib.hid (hsn.trans (decide_eq_false hz))
        clear hfin hsn
        go_wp2_with (go_at_call 36; (with_reducible refine (HC.out _).mono ?_); rintro e w' ⟨rfl, n', rfl⟩)
        go_roundw
        case rel => exact ⟨k + 1, n + n', by omega, by go_num, rfl, HS⟩
        case measure => simp [intOf]; omega
    · have g0 : ¬ (k : Int) < (x.ts.length : Int) := by omega
      have hf := HF.out
      rw [List.take_of_length_le (by rw [tus_len]; omega), ← HA.out.2.2] at hf
      have HFF := Lib.hid hf
      clear hf
      go_wp2_with (fail)
      go_ret
      exact ⟨by rw [HFF.out]; rfl, n, rfl⟩
end Go.Proofs.Ytobieolonlddlaa
