/- Joined: JoTK JoTL JoTM JoTQ JoTR. -/
import Derived.Test.YtgldcahhliokeaaJnA
/- TupK, what this seat can fill of it. -/
namespace Go.Proofs.Ytgldcahhliokeaa
/- The document's order of tuples, Has, Rises, Same. -/
open Go.RowKit Go.Maps

theorem rd_at {w : World} {t : TV} (h : t.Ok w) {b o : Nat} (e : t.A = some ⟨b, o, none⟩) {k : Nat} (hk : k < t.l.length) : w.cell? ⟨b, o + k, none⟩ = some (.int .i64 t.l[k]) := by
  obtain ⟨b', o', e', _, hc⟩ := h.cell hk
  rw [e] at e'
  injection e' with e'
  injection e' with e1 e2
  subst e1 e2
  exact hc
set_option maxRecDepth 100000 in
set_option maxHeartbeats 2000000 in
/-- The document's Cmp. -/
theorem rcmp_any (a b : TV) (w : World) (ha : a.Ok w) (hb : b.Ok w) : Calls Try.prog 42 #[.slice a.A a.l.length a.c, .slice b.A b.l.length b.c] w fun e w' => e = .returned (.int .i64 (cmpI a.l b.l)) ∧ ∃ n, w' = w.drewN n := by
  obtain ⟨R, hR⟩ : ∃ R, R = cmpI a.l b.l := ⟨_, rfl⟩
  rw [← hR]
  have hal := ha.sm
  have hbl := hb.sm
  obtain ⟨la, hla⟩ : ∃ n, n = a.l.length := ⟨_, rfl⟩
  obtain ⟨lb, hlb⟩ : ∃ n, n = b.l.length := ⟨_, rfl⟩
  rw [← hla] at hal ⊢
  rw [← hlb] at hbl ⊢
  have HA := Lib.hid (And.intro ha (And.intro hb (And.intro hR (And.intro hla hlb))))
  clear ha hb hR hla hlb
  go_enter Try.func42, Try.ntmps42
  go_wp2_with (fail)
  go_loopw [5] (fun i wr => ∃ k : Nat, k ≤ la ∧ k ≤ lb ∧ i = .int .i64 k ∧ Hid (cmpI (a.l.drop k) (b.l.drop k) = R ∧ a.Ok wr ∧ b.Ok wr ∧ ∃ n, wr = w.drewN n)) (fun i _ => la - (intOf i).toNat)
  case atStart => exact ⟨0, by omega, by omega, rfl, Lib.hid ⟨by rw [HA.out.2.2.1]; rfl, HA.out.1, HA.out.2.1, 0, rfl⟩⟩
  case round =>
    obtain ⟨k, hk, hkb, rfl, HR⟩ := hrel
    have hrel := HR.out.1
    by_cases hlt : k < la
    · have hlt' : k < a.l.length := by rw [← HA.out.2.2.2.1]; exact hlt
      obtain ⟨xb, xo, hxa, _, hxc⟩ := HR.out.2.1.cell hlt'
      rw [drop_cons hlt'] at hrel
      rw [hxa]
      have hI : (k : Int) < (la : Int) := by omega
      have h00 : (0 : Int) ≤ (k : Int) := by omega
      by_cases hlb : k < lb
      · have hlb' : k < b.l.length := by rw [← HA.out.2.2.2.2]; exact hlb
        obtain ⟨yb, yo, hya, _, hyc⟩ := HR.out.2.2.1.cell hlb'
        rw [drop_cons hlb', cmpI_cons] at hrel
        generalize a.l[k] = x at *
        generalize b.l[k] = y at *
        rw [hya]
        have hJ : (k : Int) < (lb : Int) := by omega
        by_cases h1 : x < y
        · rw [if_pos h1] at hrel
          have HE := Lib.hid hrel
          clear hrel
          go_wp2_with (fail)
          go_quiet (fail)
          go_wp2_with (fail)
          go_ret
          exact ⟨ret_int HE.out, drew_more HR.out.2.2.2 _⟩
        · rw [if_neg h1] at hrel
          by_cases h2 : y < x
          · rw [if_pos h2] at hrel
            have HE := Lib.hid hrel
            clear hrel
            go_wp2_with (fail)
            go_quiet (fail)
            go_wp2_with (fail)
            go_quiet (fail)
            go_wp2_with (fail)
            go_ret
            exact ⟨ret_int HE.out, drew_more (drew_more HR.out.2.2.2 _) _⟩
          · rw [if_neg h2] at hrel
            have HE := Lib.hid hrel
            clear hrel
            go_wp2_with (fail)
            go_quiet (fail)
            go_wp2_with (fail)
            go_quiet (fail)
            go_wp2_with (fail)
            go_roundw
            case rel => exact ⟨k + 1, by omega, by omega, by go_num, Lib.hid ⟨HE.out, HR.out.2.1.drewN _, HR.out.2.2.1.drewN _, drew_more HR.out.2.2.2 _⟩⟩
            case measure => simp [intOf]; omega
      · have g0 : ¬ (k : Int) < (lb : Int) := by omega
        have g1 : ¬ (la : Int) < (lb : Int) := by omega
        have g2 : (lb : Int) < (la : Int) := by omega
        rw [List.drop_of_length_le (show b.l.length ≤ k by rw [← HA.out.2.2.2.2]; omega), cmpI] at hrel
        have HE := Lib.hid hrel
        clear hrel hxc
        go_wp2_with (fail)
        go_ret
        exact ⟨ret_int HE.out, HR.out.2.2.2⟩
    · have g0 : ¬ (k : Int) < (la : Int) := by omega
      rw [List.drop_of_length_le (show a.l.length ≤ k by rw [← HA.out.2.2.2.1]; omega)] at hrel
      by_cases hlb : la < lb
      · have g1 : (la : Int) < (lb : Int) := by omega
        rw [drop_cons (show k < b.l.length by rw [← HA.out.2.2.2.2]; omega), cmpI] at hrel
        have HE := Lib.hid hrel
        clear hrel
        go_wp2_with (fail)
        go_ret
        exact ⟨ret_int HE.out, HR.out.2.2.2⟩
      · have g1 : ¬ (la : Int) < (lb : Int) := by omega
        have g2 : ¬ (lb : Int) < (la : Int) := by omega
        rw [List.drop_of_length_le (show b.l.length ≤ k by rw [← HA.out.2.2.2.2]; omega), cmpI] at hrel
        have HE := Lib.hid hrel
        clear hrel
        go_wp2_with (fail)
        go_ret
        exact ⟨ret_int HE.out, HR.out.2.2.2⟩
theorem hasL_snoc (l : List Tu) (u t : Tu) : hasL (l ++ [u]) t = (hasL l t || decide (cmpI u t = 0)) := by
  unfold hasL
  rw [List.any_append]
  simp
set_option maxRecDepth 100000 in
set_option maxHeartbeats 2000000 in
/-- The document's Has. -/
theorem rhas_any (x : LV) (t : TV) (w : World) (hx : x.Ok w) (ht : t.Ok w) : Calls Try.prog 29 #[.slice x.A x.ts.length x.c, .slice t.A t.l.length t.c] w fun e w' => e = .returned (.bool (hasL (tus x.ts) t.l)) ∧ ∃ n, w' = w.drewN n := by
  obtain ⟨R, hR⟩ : ∃ R, R = hasL (tus x.ts) t.l := ⟨_, rfl⟩
  rw [← hR]
  have hs := hx.sm
  have HA := Lib.hid (And.intro hx (And.intro ht hR))
  clear hx ht hR
  go_enter Try.func29, Try.ntmps29
  go_wp2_with (fail)
  go_loopw [8] (fun i wr => ∃ k n : Nat, k ≤ x.ts.length ∧ i = .int .i64 k ∧ wr = w.drewN n ∧ Hid (hasL ((tus x.ts).take k) t.l = false)) (fun i _ => x.ts.length - (intOf i).toNat)
  case atStart => exact ⟨0, 0, by omega, rfl, rfl, Lib.hid rfl⟩
  case round =>
    obtain ⟨k, n, hk, rfl, rfl, HF⟩ := hrel
    by_cases hlt : k < x.ts.length
    · obtain ⟨b, o, hxa, _, hc⟩ := HA.out.1.cell hlt
      have hcall := fun n => rcmp_any x.ts[k] t (w.drewN n) ((HA.out.1.at hlt).drewN n) (HA.out.2.1.drewN n)
      have hsn : hasL ((tus x.ts).take (k + 1)) t.l = decide (cmpI x.ts[k].l t.l = 0) := by
        rw [List.take_succ_eq_append_getElem (by rw [tus_len]; exact hlt), hasL_snoc, HF.out, Bool.false_or, tus_at x.ts k hlt]
      have hfin : cmpI x.ts[k].l t.l = 0 → R = true := fun h => by rw [HA.out.2.2]; exact hasL_at (i := k) (by rw [tus_len]; exact hlt) (by rw [tus_at x.ts k hlt]; exact h)
      rw [hxa]
      generalize x.ts[k] = y at *
      obtain ⟨K, hK⟩ : ∃ K, K = cmpI y.l t.l := ⟨_, rfl⟩
      rw [← hK] at hcall hsn hfin
      have HC := Lib.hid hcall
      clear hcall hK
      by_cases hz : K = 0
      · have HS := Lib.hid (hfin hz)
        clear hfin hsn
        subst hz
        go_wp2_with (go_at_call 42; (with_reducible refine (HC.out _).mono ?_); rintro e w' ⟨rfl, n', rfl⟩)
        go_ret
        exact ⟨by rw [HS.out]; rfl, n + n', rfl⟩
      · have hz' : (K == 0) = false := beq_eq_false_iff_ne.2 hz
        have HS := Lib.hid (hsn.trans (decide_eq_false hz))
        clear hfin hsn
        go_wp2_with (go_at_call 42; (with_reducible refine (HC.out _).mono ?_); rintro e w' ⟨rfl, n', rfl⟩)
        go_roundw
        case rel => exact ⟨k + 1, n + n', by omega, by go_num, rfl, HS⟩
        case measure => simp [intOf]; omega
    · have g0 : ¬ (k : Int) < (x.ts.length : Int) := by omega
      have hf := HF.out
      rw [List.take_of_length_le (by rw [tus_len]; omega), ← HA.out.2.2] at hf
      have HFF := Lib.hid hf
      clear hf
      go_wp2_with (fail)
      go_ret
      exact ⟨by rw [HFF.out]; rfl, n, rfl⟩
end Go.Proofs.Ytgldcahhliokeaa
/- TupL, what this seat can fill of it. -/
namespace Go.Proofs.Ytgldcahhliokeaa
/- The document's Rises, Same, SameDelta. -/
open Go.RowKit Go.Maps

theorem cmp_m1 {a b : Tu} : cmpI a b = -1 ↔ cmpI a b < 0 := by
  have := cmpI_rng a b
  omega
theorem list_same {a b : List Tu} (hl : a.length = b.length) (h : ∀ i, (ha : i < a.length) → (hb : i < b.length) → cmpI a[i] b[i] = 0) : a = b :=
  List.ext_getElem hl fun i ha hb => cmpI_eq (h i ha hb)
set_option maxRecDepth 100000 in
set_option maxHeartbeats 2000000 in
/-- The document's Same. -/
theorem same10_any (x y : LV) (w : World) (hx : x.Ok w) (hy : y.Ok w) : Calls Try.prog 17 #[.slice x.A x.ts.length x.c, .slice y.A y.ts.length y.c] w fun e w' => e = .returned (.bool (decide (tus x.ts = tus y.ts))) ∧ ∃ n, w' = w.drewN n := by
  obtain ⟨R, hR⟩ : ∃ R, R = decide (tus x.ts = tus y.ts) := ⟨_, rfl⟩
  rw [← hR]
  obtain ⟨nx, hnx⟩ : ∃ n, n = x.ts.length := ⟨_, rfl⟩
  obtain ⟨ny, hny⟩ : ∃ n, n = y.ts.length := ⟨_, rfl⟩
  have hs := hx.sm
  rw [← hnx] at hs ⊢
  rw [← hny]
  have HA := Lib.hid (And.intro hx (And.intro hy (And.intro hR (And.intro hnx hny))))
  clear hx hy hR hnx hny
  by_cases hn : nx = ny
  · subst hn
    go_enter Try.func17, Try.ntmps17
    go_wp2_with (fail)
    go_loopw [13] (fun i wr => ∃ k : Nat, k ≤ nx ∧ i = .int .i64 k ∧ Hid (x.Ok wr ∧ y.Ok wr ∧ ∃ n, wr = w.drewN n) ∧ Hid (∀ i, (h1 : i < x.ts.length) → (h2 : i < y.ts.length) → i < k → cmpI x.ts[i].l y.ts[i].l = 0)) (fun i _ => nx - (intOf i).toNat)
    case atStart => exact ⟨0, by omega, rfl, Lib.hid ⟨HA.out.1, HA.out.2.1, 0, rfl⟩, Lib.hid fun i _ _ h => absurd h (Nat.not_lt_zero _)⟩
    case round =>
      obtain ⟨k, hk, rfl, HW, HF⟩ := hrel
      by_cases hlt : k < nx
      · have h1 : k < x.ts.length := by rw [← HA.out.2.2.2.1]; exact hlt
        have h2 : k < y.ts.length := by rw [← HA.out.2.2.2.2]; exact hlt
        obtain ⟨bx, ox, hxa, _, cx⟩ := HW.out.1.cell h1
        obtain ⟨by', oy, hya, _, cy⟩ := HW.out.2.1.cell h2
        have hc := fun n => rcmp_any x.ts[k] y.ts[k] (wr.drewN n) ((HW.out.1.at h1).drewN n) ((HW.out.2.1.at h2).drewN n)
        have hz : cmpI x.ts[k].l y.ts[k].l = 0 → Hid (∀ i, (h1 : i < x.ts.length) → (h2 : i < y.ts.length) → i < k + 1 → cmpI x.ts[i].l y.ts[i].l = 0) := fun h => Lib.hid fun i g1 g2 gi => by
          by_cases e : i = k
          · subst e; exact h
          · exact HF.out i g1 g2 (by omega)
        have hnz : cmpI x.ts[k].l y.ts[k].l ≠ 0 → R = false := fun h => by
          rw [HA.out.2.2.1, decide_eq_false_iff_not]
          intro e
          apply h
          have g1 := tus_at x.ts k h1
          have g2 := tus_at y.ts k h2
          rw [← g1, ← g2]
          simp only [e, cmpI_refl]
        have g0 : (k : Int) < (nx : Int) := by omega
        have g1 : (0 : Int) ≤ (k : Int) := by omega
        rw [hxa, hya]
        generalize x.ts[k] = a at *
        generalize y.ts[k] = c at *
        obtain ⟨K, hK⟩ : ∃ K, K = cmpI a.l c.l := ⟨_, rfl⟩
        rw [← hK] at hc hz hnz
        have HC := Lib.hid hc
        clear hc hK
        by_cases h0 : K = 0
        · have HZ := hz h0
          clear hz hnz
          subst h0
          go_wp2_with (fail)
          go_quiet ((go_at_call 42; with_reducible exact Calls.quiet_of (HC.out _)))
          go_wp2_with (fail)
          go_roundw
          case rel => exact ⟨k + 1, by omega, by go_num, Lib.hid ⟨HW.out.1.drewN _, HW.out.2.1.drewN _, drew_more HW.out.2.2 _⟩, HZ⟩
          case measure => simp [intOf]; omega
        · have HZ := Lib.hid (hnz h0)
          have h0' : (K == 0) = false := beq_eq_false_iff_ne.2 h0
          clear hz hnz
          go_wp2_with (fail)
          go_quiet ((go_at_call 42; with_reducible exact Calls.quiet_of (HC.out _)))
          go_wp2_with (fail)
          go_ret
          exact ⟨by rw [HZ.out]; rfl, drew_more HW.out.2.2 _⟩
      · have g0 : ¬ (k : Int) < (nx : Int) := by omega
        have hR : R = true := by
          rw [HA.out.2.2.1, decide_eq_true_eq]
          refine list_same (by rw [tus_len, tus_len, ← HA.out.2.2.2.1, ← HA.out.2.2.2.2]) fun i ha hb => ?_
          rw [tus_len] at ha hb
          rw [tus_at x.ts i ha, tus_at y.ts i hb]
          exact HF.out i ha hb (by have := HA.out.2.2.2.1; omega)
        have HR := Lib.hid hR
        clear hR
        go_wp2_with (fail)
        go_ret
        exact ⟨by rw [HR.out]; rfl, HW.out.2.2⟩
  · have hR : R = false := by
      rw [HA.out.2.2.1, decide_eq_false_iff_not]
      intro e
      have := congrArg List.length e
      rw [tus_len, tus_len, ← HA.out.2.2.2.1, ← HA.out.2.2.2.2] at this
      exact hn this
    have hne : ((nx : Int) == (ny : Int)) = false := by rw [beq_eq_false_iff_ne]; omega
    have HR := Lib.hid hR
    clear hR
    go_enter Try.func17, Try.ntmps17
    go_wp2_with (fail)
    go_ret
    exact ⟨by rw [HR.out]; rfl, 0, rfl⟩
end Go.Proofs.Ytgldcahhliokeaa
/- TupM, what this seat can fill of it. -/
namespace Go.Proofs.Ytgldcahhliokeaa
/- The document's Without, meet, Set. -/
open Go.RowKit Go.Maps

/-- append of one tuple, out of a row just made. -/
theorem wpList_app1 (wr : World) {ops : Array Oper} {rest : List Oper} {o : Oper} {a : Act} {Q : Exit → Act → World → Prop} (hgd : o.guard = none) (s x : Operand)
    (ho : o.op = .call { callee := .builtin .append, args := #[s, x], argTypes := #[30, 30] })
    (base : Nat) (v : Value) (O : List TV) (hs : a.eval s = v) (hown : OwnT wr base v O) (t : TV) (hx : a.eval x = .slice (some ⟨wr.heap.size, 0, none⟩) 1 1) (hlen : O.length ≤ 15000) (hbase : base ≤ wr.heap.size)
    (h : ∀ v' w', OwnT w' base v' (O ++ [t]) → Below base wr w' → wpList Try.prog ops Q rest (a.put o.dst v') w') : wpList Try.prog ops Q (o :: rest) a (wr.alloc (.cells #[.slice t.A t.l.length t.c] 43)) := by
  have hown' := World.ownsRow.alloc hown (.cells #[.slice t.A t.l.length t.c] 43)
  have hb' : base ≤ (wr.alloc (.cells #[.slice t.A t.l.length t.c] 43)).heap.size := by simp; omega
  refine wpList_appT _ hgd s x ho base v O hs hown' (wr.heap.size + 1) _ 1 [t] 1 hx rfl (Rd.new wr #[.slice t.A t.l.length t.c] 43 (0, 0)) (by simp; omega) hb' ?_
  intro v' w' h1 h2
  exact h v' w' h1 (((Below.refl _ wr).alloc hbase _).trans (OwnT.low hown' h2 hb'))
theorem below_drawn {w w' : World} (h : ∃ n, w' = w.drewN n) : Below w.heap.size w w' := by
  obtain ⟨n, rfl⟩ := h
  exact below_draws (Below.refl _ _) n
theorem OwnT.drawn {w w' : World} {base : Nat} {v : Value} {O : List TV} (ho : OwnT w base v O) (h : ∃ n, w' = w.drewN n) : OwnT w' base v O := by
  obtain ⟨n, rfl⟩ := h
  exact ho
set_option maxRecDepth 100000 in
set_option maxHeartbeats 2000000 in
/-- The document's Without. -/
theorem rwithout_any (a b : LV) (w : World) (ha : a.Ok w) (hb : b.Ok w) :
    Calls Try.prog 30 #[.slice a.A a.ts.length a.c, .slice b.A b.ts.length b.c] w (WoPost w a.ts b.ts) := by
  have hs := ha.sm
  have HA := Lib.hid (And.intro ha hb)
  clear ha hb
  go_enter Try.func30, Try.ntmps30
  go_wp2_with (fail)
  go_loopw [5, 9] (fun out i wr => ∃ (k : Nat) (O : List TV), k ≤ a.ts.length ∧ i = .int .i64 k ∧ Hid (OwnT wr w.heap.size out O ∧ tus O = woL ((tus a.ts).take k) (tus b.ts) ∧ (∀ t ∈ O, t ∈ a.ts) ∧ Below w.heap.size w wr)) (fun _ i _ => a.ts.length - (intOf i).toNat)
  case atStart => exact ⟨0, [], by omega, rfl, Lib.hid ⟨World.ownsRow_nil w _ _ _, rfl, fun _ ht => (nomatch ht), Below.refl _ _⟩⟩
  case round =>
    obtain ⟨k, O, hk, rfl, HO⟩ := hrel
    by_cases hlt : k < a.ts.length
    · obtain ⟨xb, xo, hxa, hxl, hxc⟩ := HA.out.1.cell hlt
      have kc := fun W (h : Below w.heap.size w W) => (h.cell (p := ⟨xb, xo + k, none⟩) hxl).trans hxc
      have hcall := rhas_any b a.ts[k] wr (HA.out.2.below HO.out.2.2.2) ((HA.out.1.at hlt).below HO.out.2.2.2)
      have htk := wo_take (a := tus a.ts) (b := tus b.ts) (k := k) (by rw [tus_len]; exact hlt)
      rw [tus_at a.ts k hlt] at htk
      have hxm : a.ts[k] ∈ a.ts := List.getElem_mem hlt
      have hol : O.length ≤ 5000 := by
        have h1 := congrArg List.length HO.out.2.1
        have h2 := wo_len ((tus a.ts).take k) (tus b.ts)
        rw [tus_len] at h1
        rw [List.length_take, tus_len] at h2
        omega
      have c1 := kc wr HO.out.2.2.2
      have KC := Lib.hid kc
      have g0 : (k : Int) < (a.ts.length : Int) := by omega
      rw [hxa]
      clear hxc kc
      generalize a.ts[k] = x at *
      cases hh : hasL (tus b.ts) x.l with
      | true =>
        rw [hh] at hcall htk
        have HC := Lib.hid hcall
        have HT := Lib.hid htk
        clear hcall htk hh hxm
        go_wp2_with (go_at_call 29; (with_reducible refine HC.out.mono ?_); rintro e w' ⟨rfl, n', rfl⟩)
        go_roundw
        case rel => exact ⟨k + 1, O, by omega, by go_num, Lib.hid ⟨HO.out.1, by rw [HT.out, HO.out.2.1]; simp, HO.out.2.2.1, below_draws HO.out.2.2.2 _⟩⟩
        case measure => simp [intOf]; omega
      | false =>
        rw [hh] at hcall htk
        have HC := Lib.hid hcall
        have HT := Lib.hid (And.intro htk hxm)
        clear hcall htk hh hxm
        go_wp2_with (first
          | (go_at_call 29; (with_reducible refine HC.out.mono ?_); rintro e w6 ⟨rfl, hn6⟩; have B6 := Lib.hid (HO.out.2.2.2.trans (lower (below_drawn hn6) HO.out.2.2.2.size)); have c3 := KC.out w6 B6.out; have O6 := Lib.hid (HO.out.1.drawn hn6); clear hn6)
          | (at_builtin; refine wpList_app1 w6 rfl (.tmp 19) (.tmp 24) rfl w.heap.size _ O (by rfl) O6.out x (by rfl) (by omega) B6.out.size ?_; intro v5 w5 o5 b5))
        go_roundw
        case rel =>
          refine ⟨k + 1, O ++ [x], by omega, by go_num, Lib.hid ⟨o5, by rw [HT.out.1, tus_app, HO.out.2.1]; rfl, fun t ht => ?_, B6.out.trans b5⟩⟩
          rcases List.mem_append.1 ht with ht | ht
          · exact HO.out.2.2.1 t ht
          · rw [List.mem_singleton.1 ht]; exact HT.out.2
        case measure => simp [intOf]; omega
    · have g0 : ¬ (k : Int) < (a.ts.length : Int) := by omega
      go_wp2_with (fail)
      go_ret
      refine ⟨_, O, rfl, HO.out.1, ?_, HO.out.2.2⟩
      rw [HO.out.2.1, List.take_of_length_le (by rw [tus_len]; omega)]
theorem rwithout_l (a b : LV) (w : World) (ha : a.Ok w) (hb : b.Ok w) :
    Calls Try.prog 30 #[.slice a.A a.ts.length a.c, .slice b.A b.ts.length b.c] w (WoL w (woL (tus a.ts) (tus b.ts))) := by
  refine (rwithout_any a b w ha hb).mono ?_
  rintro e w' ⟨v, O, rfl, h1, h2, h3, h4⟩
  have hl : O.length ≤ 5000 := by
    have e1 := congrArg List.length h2
    have e2 := wo_len (tus a.ts) (tus b.ts)
    have e3 := ha.sm
    rw [tus_len] at e1 e2
    omega
  obtain ⟨A, c, rfl, hL⟩ := h1.lst (fun t ht => ((ha.ok t (h3 t ht)).below h4)) hl
  exact ⟨⟨A, O, c⟩, rfl, hL, h2, h4⟩
/-- What the document's Set answers. -/
def SePost (w : World) (l : List TV) (e : Ending) (w' : World) : Prop :=
  ∃ v O, e = .returned v ∧ OwnT w' w.heap.size v O ∧ tus O = setL (tus l) ∧ (∀ t ∈ O, t ∈ l) ∧ Below w.heap.size w w'
/-- Where a tuple is put in: behind j ones. -/
def InsAt (O N : List TV) (x : TV) (j : Nat) (b : Bool) : Prop :=
  (b = false ∧ N = O.take j ∧ ∀ q ∈ O.take j, ¬ cmpI x.l q.l < 0) ∨ (b = true ∧ tus N ++ tus (O.drop j) = insS x.l (tus O) ∧ N.length = j + 1)
theorem InsAt.len {O N : List TV} {x : TV} {j : Nat} {b : Bool} (h : InsAt O N x j b) : N.length ≤ j + 1 := by
  rcases h with ⟨_, rfl, _⟩ | ⟨_, _, h⟩
  · rw [List.length_take]; omega
  · omega
theorem InsAt.on {O N : List TV} {x : TV} {j : Nat} (h : InsAt O N x j true) (hj : j < O.length) : InsAt O (N ++ [O[j]]) x (j + 1) true := by
  rcases h with ⟨h, _⟩ | ⟨_, h, hl⟩
  · cases h
  · refine .inr ⟨rfl, ?_, by rw [List.length_append, hl]; rfl⟩
    rw [← h, drop_tus hj, tus_app, List.append_assoc]
    rfl
theorem InsAt.skip {O N : List TV} {x : TV} {j : Nat} (h : InsAt O N x j false) (hj : j < O.length) (hc : ¬ cmpI x.l O[j].l < 0) : InsAt O (N ++ [O[j]]) x (j + 1) false := by
  rcases h with ⟨_, rfl, h⟩ | ⟨h, _⟩
  · refine .inl ⟨rfl, by rw [List.take_succ_eq_append_getElem hj], fun q hq => ?_⟩
    rw [List.take_succ_eq_append_getElem hj] at hq
    rcases List.mem_append.1 hq with hq | hq
    · exact h q hq
    · rw [List.mem_singleton.1 hq]; exact hc
  · cases h
theorem InsAt.here {O N : List TV} {x : TV} {j : Nat} (h : InsAt O N x j false) (hj : j < O.length) (hc : cmpI x.l O[j].l < 0) : InsAt O (N ++ [x] ++ [O[j]]) x (j + 1) true := by
  rcases h with ⟨_, rfl, h⟩ | ⟨h, _⟩
  · refine .inr ⟨rfl, ?_, by simp; omega⟩
    have hO : tus O = tus (O.take j) ++ O[j].l :: tus (O.drop (j + 1)) := by
      rw [← drop_tus hj, ← tus_app, List.take_append_drop]
    rw [hO, insS_here hc _ (fun q hq => by obtain ⟨t, ht, rfl⟩ := List.mem_map.1 hq; exact h t ht)]
    simp [tus]
  · cases h
theorem InsAt.endF {O N : List TV} {x : TV} {j : Nat} (h : InsAt O N x j false) (hj : O.length ≤ j) : tus (N ++ [x]) = insS x.l (tus O) := by
  rcases h with ⟨_, rfl, h⟩ | ⟨h, _⟩
  · rw [List.take_of_length_le hj] at h ⊢
    rw [insS_end _ (fun q hq => by obtain ⟨t, ht, rfl⟩ := List.mem_map.1 hq; exact h t ht), tus_app]
    rfl
  · cases h
theorem InsAt.endT {O N : List TV} {x : TV} {j : Nat} (h : InsAt O N x j true) (hj : O.length ≤ j) : tus N = insS x.l (tus O) := by
  rcases h with ⟨h, _⟩ | ⟨_, h, _⟩
  · cases h
  · rw [List.drop_of_length_le hj] at h
    simpa [tus] using h
end Go.Proofs.Ytgldcahhliokeaa
/- TupQ, what this seat can fill of it. -/
namespace Go.Proofs.Ytgldcahhliokeaa
/- The law's awake, few, Own, spoil. -/
open Go.RowKit Go.Maps

theorem rd_lit {W : World} {b : Nat} {xs : List Value} {t : TypeId} {fr : Nat × Nat} (h : W.heap[b]? = some (.cells xs.toArray t fr)) : Rd W W.heap.size (some ⟨b, 0, none⟩) xs := fun _ =>
  ⟨b, 0, rfl, heap_lt h, fun j u hu => by rw [Nat.zero_add, cell_of_row W b j _ _ _ h, ← hu, List.getElem?_toArray]⟩
theorem tv_lit {W : World} {b : Nat} {l : Tu} (h : W.heap[b]? = some (.cells (intsV l).toArray 3 (0, 0))) (hl : l.length ≤ 5000) : TV.Ok W ⟨some ⟨b, 0, none⟩, l, l.length⟩ := ⟨rd_lit h, Nat.le_refl _, hl⟩
theorem lv_lit {W : World} {b : Nat} {ts : List TV} (h : W.heap[b]? = some (.cells (vals ts).toArray 43 (0, 0))) (hk : ∀ t ∈ ts, t.Ok W) (hs : ts.length ≤ 5000) : LV.Ok W ⟨some ⟨b, 0, none⟩, ts, ts.length⟩ := ⟨rd_lit h, hk, Nat.le_refl _, hs⟩
/-- A list of one tuple of one number. -/
theorem one_num {W : World} {x : LV} {n : Int} (h : x.Ok W) (e : tus x.ts = [[n]]) : ∃ b o b' o' c', x.A = some ⟨b, o, none⟩ ∧ x.ts.length = 1 ∧ b < W.heap.size ∧ b' < W.heap.size ∧ W.cell? ⟨b, o, none⟩ = some (.slice (some ⟨b', o', none⟩) 1 c') ∧ W.cell? ⟨b', o', none⟩ = some (.int .i64 n) := by
  obtain ⟨A, ts, c⟩ := x
  rcases ts with _ | ⟨t, r⟩
  · cases e
  · injection e with e1 e2
    have hr : r = [] := List.map_eq_nil_iff.1 e2
    subst hr
    obtain ⟨b, o, hA, hb, hc⟩ := Lst.cell h (k := 0) (by simp)
    obtain ⟨b', o', hA', hb', hc'⟩ := (Lst.at h (k := 0) (by simp)).cell (k := 0) (by simp [e1])
    simp only [List.getElem_cons_zero] at hc hA' hc'
    refine ⟨b, o, b', o', t.c, hA, rfl, hb, hb', ?_, ?_⟩
    · rw [hA', e1] at hc
      exact hc
    · simp only [e1, List.getElem_cons_zero] at hc'
      exact hc'
theorem keepA {W : World} {k : Nat} {o o' : Obj} (h : W.heap[k]? = some o) : (W.alloc o').heap[k]? = some o := (Below.heap_alloc _ _ _ (heap_lt h)).trans h
theorem newA {W : World} {n : Nat} {o : Obj} (h : W.heap.size = n) : (W.alloc o).heap[n]? = some o := by
  subst h
  exact heap_alloc_new W o
theorem at6 (w : World) (o0 o1 o2 o3 o4 o5 : Obj) : let W := (((((w.alloc o0).alloc o1).alloc o2).alloc o3).alloc o4).alloc o5
    W.heap[w.heap.size]? = some o0 ∧ W.heap[w.heap.size + 1]? = some o1 ∧ W.heap[w.heap.size + 1 + 1]? = some o2 ∧ W.heap[w.heap.size + 1 + 1 + 1]? = some o3 ∧ W.heap[w.heap.size + 1 + 1 + 1 + 1]? = some o4 ∧ W.heap[w.heap.size + 1 + 1 + 1 + 1 + 1]? = some o5 ∧ Below w.heap.size w W := by
  have s1 := alloc1_size w o0
  have s2 := (alloc1_size (w.alloc o0) o1).trans (congrArg (· + 1) s1)
  have s3 := (alloc1_size ((w.alloc o0).alloc o1) o2).trans (congrArg (· + 1) s2)
  have s4 := (alloc1_size (((w.alloc o0).alloc o1).alloc o2) o3).trans (congrArg (· + 1) s3)
  have s5 := (alloc1_size ((((w.alloc o0).alloc o1).alloc o2).alloc o3) o4).trans (congrArg (· + 1) s4)
  refine ⟨keepA (keepA (keepA (keepA (keepA (newA rfl))))), keepA (keepA (keepA (keepA (newA s1)))), keepA (keepA (keepA (newA s2))), keepA (keepA (newA s3)), keepA (newA s4), newA s5, ?_⟩
  exact (((((((Below.refl w.heap.size w).alloc (Nat.le_refl _) _).alloc (by simp) _).alloc (by simp; omega) _).alloc (by simp; omega) _).alloc (by simp; omega) _).alloc (by simp; omega) _)
theorem diff_lit : diffP [[1], [2]] [[2], [3]] = (0, [[3]], [[1]]) := by decide +kernel
theorem then_lit : thenP [[3]] [] [[4]] [[3]] = (0, [[4]], []) := by decide +kernel
end Go.Proofs.Ytgldcahhliokeaa
/- TupR, what this seat can fill of it. -/
namespace Go.Proofs.Ytgldcahhliokeaa
/- The law's few and Own. -/
open Go.RowKit Go.Maps

/-- A list of whatever length. -/
structure LV.Raw (w : World) (x : LV) : Prop where
  rd : Rd w w.heap.size x.A (vals x.ts)
  tup : ∀ t ∈ x.ts, Rd w w.heap.size t.A (intsV t.l) ∧ t.l.length ≤ t.c
  cap : x.ts.length ≤ x.c
def fewL (x : LV) : Bool := decide (x.ts.length ≤ 40) && x.ts.all fun t => decide (t.l.length ≤ 40)
def fewB (ls : List LV) : Bool := ls.all fewL
theorem LV.Raw.ok {w : World} {x : LV} (h : x.Raw w) (hf : fewL x = true) : x.Ok w ∧ x.ts.length ≤ 40 := by
  unfold fewL at hf
  rw [Bool.and_eq_true, decide_eq_true_eq, List.all_eq_true] at hf
  refine ⟨⟨h.rd, fun t ht => ?_, h.cap, by omega⟩, hf.1⟩
  have h1 := h.tup t ht
  have h2 := hf.2 t ht
  rw [decide_eq_true_eq] at h2
  exact ⟨h1.1, h1.2, by omega⟩
theorem LV.Raw.below {w w' : World} {x : LV} (h : x.Raw w) (hb : Below w.heap.size w w') : x.Raw w' :=
  ⟨(h.rd.below hb (Nat.le_refl _)).more hb.size, fun t ht => ⟨((h.tup t ht).1.below hb (Nat.le_refl _)).more hb.size, (h.tup t ht).2⟩, h.cap⟩
theorem LV.Raw.cell {w : World} {x : LV} (h : x.Raw w) {k : Nat} (hk : k < x.ts.length) : ∃ b o, x.A = some ⟨b, o, none⟩ ∧ b < w.heap.size ∧ w.cell? ⟨b, o + k, none⟩ = some (.slice x.ts[k].A x.ts[k].l.length x.ts[k].c) := by
  obtain ⟨b, o, e, hb, hc⟩ := h.rd.get (k := k) (by rw [vals_len]; exact hk)
  refine ⟨b, o, e, hb, hc.trans ?_⟩
  simp [vals, TV.val]
/-- append of a tuple onto an empty one just made. -/
theorem run_appI0 (W : World) (x : TV) (hx : x.Ok W) :
    ∃ u : TV, ∃ w', (Builtin.append_ #[43, 43] 43 #[.slice (some ⟨W.heap.size, 0, none⟩) 0 0, .slice x.A x.l.length x.c]).run Try.prog (W.alloc (.cells #[] 3)) = .ok (.slice u.A u.l.length u.c) w' ∧ u.l = x.l ∧ OwnI w' W.heap.size u ∧ Below W.heap.size W w' := by
  obtain ⟨i0, hi, hz0, hz1, hz2⟩ := info_parts infoInt
  have hb1 : Below W.heap.size W (W.alloc (.cells #[] 3)) := (Below.refl _ _).alloc (Nat.le_refl _) _
  have h0 : (W.alloc (.cells #[] 3)).ownsRow W.heap.size 3 1 (.slice (some ⟨W.heap.size, 0, none⟩) 0 0) 0 [] := own_lit0 W (Nat.le_refl _)
  obtain ⟨v', w', h1, h2, h3, _⟩ := run_appR (P := Try.prog) (W.alloc (.cells #[] 3)) W.heap.size 43 43 3 i0 _ 1 8 Try.underlying43 hi hz0 hz1 hz2 rfl (by omega) _ 0 [] h0 (W.alloc (.cells #[] 3)).heap.size x.A x.l.length x.c (intsV x.l) (by rw [intsV_len]; omega) (hx.below hb1).rd (intsV_one _) (by have := hx.sm; omega) (by omega) hb1.size
  rw [Nat.zero_add, List.nil_append] at h2
  obtain ⟨A, c, rfl, _, _, _⟩ := own_shape h2
  exact ⟨⟨A, x.l, c⟩, w', h1, rfl, h2, append0_below h3⟩
/-- Own's state behind k tuples. -/
structure OwAt (w wr : World) (ts us : List TV) (k : Nat) (out : Value) : Prop where
  len : us.length = k
  row : OwnT wr w.heap.size out us
  eq : tus us = (tus ts).take k
  tup : ∀ u ∈ us, OwnI wr w.heap.size u
  off : us.Pairwise Off
  below : Below w.heap.size w wr
theorem OwAt.next {w wr w5 w6 : World} {ts us : List TV} {k : Nat} {u : TV} {out out' : Value} (h : OwAt w wr ts us k out) (hk : k < ts.length) (hu : u.l = ts[k].l) (ho : OwnI w5 wr.heap.size u) (hb : Below wr.heap.size wr w5)
    (hr : OwnT w6 w.heap.size out' (us ++ [u])) (hg : (w5.alloc (.cells #[.slice u.A u.l.length u.c] 43)).grownBy w6 out.ownBlock) : OwAt w w6 ts (us ++ [u]) (k + 1) out' := by
  have hsz := h.below.size
  have hr5 := own_below h.row hb (Nat.le_refl _)
  have hb6 : Below w5.heap.size w5 (w5.alloc (.cells #[.slice u.A u.l.length u.c] 43)) := (Below.refl _ _).alloc (Nat.le_refl _) _
  have hr6 := own_below hr5 hb6 (Nat.le_refl _)
  have hfr : Fr (w5.alloc (.cells #[.slice u.A u.l.length u.c] 43)) w6 out.ownBlock.toList := by
    rcases ho' : out.ownBlock with _ | g
    · rw [ho'] at hg; exact Fr.of_grown0 hg _
    · rw [ho'] at hg; exact Fr.of_grown hg
  have hapart : ∀ t : TV, OwnI (w5.alloc (.cells #[.slice u.A u.l.length u.c] 43)) w.heap.size t → ∀ a, t.A = some a → a.block ∉ out.ownBlock.toList := fun t ht a ha hm =>
    own_apart ht hr6 (by decide) a.block (by unfold TV.val; rw [ha]; simp [Value.ownBlock]) hm
  have tu : OwnI (w5.alloc (.cells #[.slice u.A u.l.length u.c] 43)) w.heap.size u := own_mono (OwnI.below ho hb6) hsz
  have tt : ∀ t ∈ us, OwnI (w5.alloc (.cells #[.slice u.A u.l.length u.c] 43)) w.heap.size t := fun t ht => ((h.tup t ht).below hb).below hb6
  refine ⟨by rw [List.length_append, h.len]; rfl, hr, ?_, fun t ht => ?_, ?_, ?_⟩
  · rw [tus_app, h.eq, List.take_succ_eq_append_getElem (by rw [tus_len]; exact hk), tus_at ts k hk]
    show _ ++ [u.l] = _
    rw [hu]
  · rcases List.mem_append.1 ht with ht | ht
    · exact (tt t ht).fr hfr (hapart t (tt t ht))
    · rw [List.mem_singleton.1 ht]
      exact tu.fr hfr (hapart u tu)
  · rw [List.pairwise_append]
    refine ⟨h.off, List.pairwise_singleton _ _, fun x hx y hy a b ha hb' e => ?_⟩
    rw [List.mem_singleton.1 hy] at hb'
    have h1 := OwnI.lo ho b hb'
    have h2 := (h.tup x hx).lo a ha
    omega
  · refine (h.below.trans (lower hb hsz)).trans ((lower hb6 (Nat.le_trans hsz hb.size)).trans (hfr.below (Nat.le_trans (Nat.le_trans hsz hb.size) hb6.size) fun x hx => ?_))
    exact own_ge h.row x hx
end Go.Proofs.Ytgldcahhliokeaa
