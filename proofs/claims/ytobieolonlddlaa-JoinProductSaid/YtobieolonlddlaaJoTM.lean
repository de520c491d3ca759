/- TupM, what this seat can fill of it. -/
import Derived.Test.YtobieolonlddlaaJoTL
namespace Go.Proofs.Ytobieolonlddlaa
/- The document's Without, meet, Set. -/
open Go.RowKit Go.Maps

/-- append of one tuple, out of a row just made. -/
theorem wpList_app1 (wr : World) {ops : Array Oper} {rest : List Oper} {o : Oper} {a : Act} {Q : Exit → Act → World → Prop} (hgd : o.guard = none) (s x : Operand)
    (ho : o.op = .call { callee := .builtin .append, args := #[s, x], argTypes := #[30, 30] })
    (base : Nat) (v : Value) (O : List TV) (hs : a.eval s = v) (hown : OwnT wr base v O) (t : TV) (hx : a.eval x = .slice (some ⟨wr.heap.size, 0, none⟩) 1 1) (hlen : O.length ≤ 15000) (hbase : base ≤ wr.heap.size)
    (h : ∀ v' w', OwnT w' base v' (O ++ [t]) → Below base wr w' → wpList Try.prog ops Q rest (a.put o.dst v') w') : wpList Try.prog ops Q (o :: rest) a (wr.alloc (.cells #[.slice t.A t.l.length t.c] 43)) := by
  have hown' := World.ownsRow.alloc hown (.cells #[.slice t.A t.l.length t.c] 43)
  have hb' : base ≤ (wr.alloc (.cells #[.slice t.A t.l.length t.c] 43)).heap.size := by simp; omega
  refine wpList_appT _ hgd s x ho base v O hs hown' (wr.heap.size + 1) _ 1 [t] 1 hx rfl (Rd.new wr #[.slice t.A t.l.length t.c] 43 (0, 0)) (by simp; omega) hb' ?_
  intro v' w' h1 h2
  exact h v' w' h1 (((Below.refl _ wr).alloc hbase _).trans (OwnT.low hown' h2 hb'))
theorem below_drawn {w w' : World} (h : ∃ n, w' = w.drewN n) : Below w.heap.size w w' := by
  obtain ⟨n, rfl⟩ := h
  exact below_draws (Below.refl _ _) n
theorem OwnT.drawn {w w' : World} {base : Nat} {v : Value} {O : List TV} (ho : OwnT w base v O) (h : ∃ n, w' = w.drewN n) : OwnT w' base v O := by
  obtain ⟨n, rfl⟩ := h
  exact ho
set_option maxRecDepth 100000 in
set_option maxHeartbeats 2000000 in
/-- The document's Without. -/
theorem rwithout_any (a b : LV) (w : World) (ha : a.Ok w) (hb : b.Ok w) :
    Calls Try.prog 24 #[.slice a.A a.ts.length a.c, .slice b.A b.ts.length b.c] w (WoPost w a.ts b.ts) := by
  have hs := ha.sm
  have HA := Lib.hid (And.intro ha hb)
  clear ha hb
  go_enter Try.func24, Try.ntmps24
  go_wp2_with (fail)
  go_loopw [5, 9] (fun out i wr => ∃ (k : Nat) (O : List TV), k ≤ a.ts.length ∧ i = .int .i64 k ∧ Hid (OwnT wr w.heap.size out O ∧ tus O = woL ((tus a.ts).take k) (tus b.ts) ∧ (∀ t ∈ O, t ∈ a.ts) ∧ Below w.heap.size w wr)) (fun _ i _ => a.ts.length - (intOf i).toNat)
  case atStart => exact ⟨0, [], by omega, rfl, Lib.hid ⟨World.ownsRow_nil w _ _ _, rfl, fun _ ht => (nomatch ht), Below.refl _ _⟩⟩
  case round =>
    obtain ⟨k, O, hk, rfl, HO⟩ := hrel
    by_cases hlt : k < a.ts.length
    · obtain ⟨xb, xo, hxa, hxl, hxc⟩ := HA.out.1.cell hlt
      have kc := fun W (h : Below w.heap.size w W) => (h.cell (p := ⟨xb, xo + k, none⟩) hxl).trans hxc
      have hcall := rhas_any b a.ts[k] wr (HA.out.2.below HO.out.2.2.2) ((HA.out.1.at hlt).below HO.out.2.2.2)
      have htk := wo_take (a := tus a.ts) (b := tus b.ts) (k := k) (by rw [tus_len]; exact hlt)
      rw [tus_at a.ts k hlt] at htk
      have hxm : a.ts[k] ∈ a.ts := List.getElem_mem hlt
      have hol : O.length ≤ 5000 := by
        have h1 := congrArg List.length HO.out.2.1
        have h2 := wo_len ((tus a.ts).take k) (tus b.ts)
        rw [tus_len] at h1
        rw [List.length_take, tus_len] at h2
        omega
      have c1 := kc wr HO.out.2.2.2
      have KC := Lib.hid kc
      have g0 : (k : Int) < (a.ts.length : Int) := by omega
      rw [hxa]
      clear hxc kc
      generalize a.ts[k] = x at *
      cases hh : hasL (tus b.ts) x.l with
      | true =>
        rw [hh] at hcall htk
        have HC := Lib.hid hcall
        have HT := Lib.hid htk
        clear hcall htk hh hxm
        go_wp2_with (go_at_call 22; (with_reducible refine HC.out.mono ?_); rintro e w' ⟨rfl, n', rfl⟩)
        go_roundw
        case rel => exact ⟨k + 1, O, by omega, by go_num, Lib.hid ⟨HO.out.1, by rw [HT.out, HO.out.2.1]; simp, HO.out.2.2.1, below_draws HO.out.2.2.2 _⟩⟩
        case measure => simp [intOf]; omega
      | false =>
        rw [hh] at hcall htk
        have HC := Lib.hid hcall
        have HT := Lib.hid (And.intro htk hxm)
        clear hcall htk hh hxm
        go_wp2_with (first
          | (go_at_call 22; (with_reducible refine HC.out.mono ?_); rintro e w6 ⟨rfl, hn6⟩; have B6 := Lib.hid (HO.out.2.2.2.trans (lower (below_drawn hn6) HO.out.2.2.2.size)); have c3 := KC.out w6 B6.out; have O6 := Lib.hid (HO.out.1.drawn hn6); clear hn6)
          | (at_builtin; refine wpList_app1 w6 rfl (.tmp 19) (.tmp 24) rfl w.heap.size _ O (by rfl) O6.out x (by rfl) (by omega) B6.out.size ?_; intro v5 w5 o5 b5))
        go_roundw
        case rel =>
          refine ⟨k + 1, O ++ [x], by omega, by go_num, Lib.hid ⟨o5, by rw [HT.out.1, tus_app, HO.out.2.1]; rfl, fun t ht => ?_, B6.out.trans b5⟩⟩
          rcases List.mem_append.1 ht with ht | ht
          · exact HO.out.2.2.1 t ht
          · rw [List.mem_singleton.1 ht]; exact HT.out.2
        case measure => simp [intOf]; omega
    · have g0 : ¬ (k : Int) < (a.ts.length : Int) := by omega
      go_wp2_with (fail)
      go_ret
      refine ⟨_, O, rfl, HO.out.1, ?_, HO.out.2.2⟩
      rw [HO.out.2.1, List.take_of_length_le (by rw [tus_len]; omega)]
theorem rwithout_l (a b : LV) (w : World) (ha : a.Ok w) (hb : b.Ok w) :
    Calls Try.prog 24 #[.slice a.A a.ts.length a.c, .slice b.A b.ts.length b.c] w (WoL w (woL (tus a.ts) (tus b.ts))) := by
  refine (rwithout_any a b w ha hb).mono ?_
  rintro e w' ⟨v, O, rfl, h1, h2, h3, h4⟩
  have hl : O.length ≤ 5000 := by
    have e1 := congrArg List.length h2
    have e2 := wo_len (tus a.ts) (tus b.ts)
    have e3 := ha.sm
    rw [tus_len] at e1 e2
    omega
  obtain ⟨A, c, rfl, hL⟩ := h1.lst (fun t ht => ((ha.ok t (h3 t ht)).below h4)) hl
  exact ⟨⟨A, O, c⟩, rfl, hL, h2, h4⟩
/-- What the document's Set answers. -/
def SePost (w : World) (l : List TV) (e : Ending) (w' : World) : Prop :=
  ∃ v O, e = .returned v ∧ OwnT w' w.heap.size v O ∧ tus O = setL (tus l) ∧ (∀ t ∈ O, t ∈ l) ∧ Below w.heap.size w w'
/-- Where a tuple is put in: behind j ones. -/
def InsAt (O N : List TV) (x : TV) (j : Nat) (b : Bool) : Prop :=
  (b = false ∧ N = O.take j ∧ ∀ q ∈ O.take j, ¬ cmpI x.l q.l < 0) ∨ (b = true ∧ tus N ++ tus (O.drop j) = insS x.l (tus O) ∧ N.length = j + 1)
theorem InsAt.len {O N : List TV} {x : TV} {j : Nat} {b : Bool} (h : InsAt O N x j b) : N.length ≤ j + 1 := by
  rcases h with ⟨_, rfl, _⟩ | ⟨_, _, h⟩
  · rw [List.length_take]; omega
  · omega
theorem InsAt.on {O N : List TV} {x : TV} {j : Nat} (h : InsAt O N x j true) (hj : j < O.length) : InsAt O (N ++ [O[j]]) x (j + 1) true := by
  rcases h with ⟨h, _⟩ | ⟨_, h, hl⟩
  · cases h
  · refine .inr ⟨rfl, ?_, by rw [List.length_append, hl]; rfl⟩
    rw [← h, drop_tus hj, tus_app, List.append_assoc]
    rfl
theorem InsAt.skip {O N : List TV} {x : TV} {j : Nat} (h : InsAt O N x j false) (hj : j < O.length) (hc : ¬ cmpI x.l O[j].l < 0) : InsAt O (N ++ [O[j]]) x (j + 1) false := by
  rcases h with ⟨_, rfl, h⟩ | ⟨h, _⟩
  · refine .inl ⟨rfl, by rw [List.take_succ_eq_append_getElem hj], fun q hq => ?_⟩
    rw [List.take_succ_eq_append_getElem hj] at hq
    rcases List.mem_append.1 hq with hq | hq
    · exact h q hq
    · rw [List.mem_singleton.1 hq]; exact hc
  · cases h
theorem InsAt.here {O N : List TV} {x : TV} {j : Nat} (h : InsAt O N x j false) (hj : j < O.length) (hc : cmpI x.l O[j].l < 0) : InsAt O (N ++ [x] ++ [O[j]]) x (j + 1) true := by
  rcases h with ⟨_, rfl, h⟩ | ⟨h, _⟩
  · refine .inr ⟨rfl, ?_, by simp; omega⟩
    have hO : tus O = tus (O.take j) ++ O[j].l :: tus (O.drop (j + 1)) := by
      rw [← drop_tus hj, ← tus_app, List.take_append_drop]
    rw [hO, insS_here hc _ (fun q hq => by obtain ⟨t, ht, rfl⟩ := List.mem_map.1 hq; exact h t ht)]
    simp [tus]
  · cases h
theorem InsAt.endF {O N : List TV} {x : TV} {j : Nat} (h : InsAt O N x j false) (hj : O.length ≤ j) : tus (N ++ [x]) = insS x.l (tus O) := by
  rcases h with ⟨_, rfl, h⟩ | ⟨h, _⟩
  · rw [List.take_of_length_le hj] at h ⊢
    rw [insS_end _ (fun q hq => by obtain ⟨t, ht, rfl⟩ := List.mem_map.1 hq; exact h t ht), tus_app]
    rfl
  · cases h
theorem InsAt.endT {O N : List TV} {x : TV} {j : Nat} (h : InsAt O N x j true) (hj : O.length ≤ j) : tus N = insS x.l (tus O) := by
  rcases h with ⟨h, _⟩ | ⟨_, h, _⟩
  · cases h
  · rw [List.drop_of_length_le hj] at h
    simpa [tus] using h
end Go.Proofs.Ytobieolonlddlaa
