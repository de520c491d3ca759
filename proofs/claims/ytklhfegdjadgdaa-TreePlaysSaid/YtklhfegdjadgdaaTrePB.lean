/- The document's pairs (layer 6): contracts of its calls. -/
import Derived.Test.YtklhfegdjadgdaaTrePA
import Derived.Test.YtklhfegdjadgdaaTreU
namespace Go.Proofs.Ytklhfegdjadgdaa
open Go.RowKit Go.Maps

def strV (l : List UInt8) : Value := .string ⟨l.toArray⟩
def prS (L : List Pr) : List Value := L.flatMap fun p => [.string ⟨p.1.toArray⟩, .string ⟨p.2.toArray⟩]
theorem prS_len (L : List Pr) : (prS L).length = L.length * 2 := by
  induction L with
  | nil => rfl
  | cons p L ih => simp only [prS, List.flatMap_cons] at ih ⊢; simp [ih]; omega
theorem prS_append (L R : List Pr) : prS (L ++ R) = prS L ++ prS R := by simp [prS]
theorem prS_two : ∀ (P : List Pr) (i : Nat) (h : i < P.length), (prS P)[i * 2]? = some (.string ⟨P[i].1.toArray⟩) ∧ (prS P)[i * 2 + 1]? = some (.string ⟨P[i].2.toArray⟩)
  | [], _, h => by cases h
  | p :: P, 0, _ => ⟨rfl, rfl⟩
  | p :: P, i + 1, h => by
    have ih := prS_two P i (by simpa using h)
    simp only [prS, List.flatMap_cons] at ih ⊢
    rw [show (i + 1) * 2 = i * 2 + 1 + 1 by omega]
    simpa using ih
theorem infoRp : (Try.prog.info? 58).map (fun i => (i.zero, i.size, i.bytes)) = some (some (.agg #[.string .empty, .string .empty]), 2, 32) := by kernel_rfl
/-- A row of the document's pairs that was made from some block on. -/
def RowS (w : World) (base : Nat) (A : Option Addr) (c : Nat) (L : List Pr) : Prop := w.ownsRow base 58 2 (.slice A L.length c) L.length (prS L)
theorem RowS.rd {w : World} {base : Nat} {A : Option Addr} {c : Nat} {L : List Pr} (h : RowS w base A c L) : Rd w w.heap.size A (prS L) := by
  obtain ⟨A', c', e, _, _, h3⟩ := own_shape h
  cases e
  exact h3
theorem RowS.below {w w' : World} {base : Nat} {A : Option Addr} {c : Nat} {L : List Pr} (h : RowS w base A c L) (hb : Below w.heap.size w w') : RowS w' base A c L := own_below h hb (Nat.le_refl _)
theorem rowS_nil (w : World) (base : Nat) : RowS w base none 0 [] := World.ownsRow_nil w base 58 2
/-- The cells of a pair. -/
theorem prS_at {w : World} {B : Nat} {A : Option Addr} {L : List Pr} (h : Rd w B A (prS L)) {k : Nat} (hk : k < L.length) : ∃ ab ao, A = some ⟨ab, ao, none⟩ ∧ ab < B ∧ w.cell? ⟨ab, ao + k * 2, none⟩ = some (.string ⟨L[k].1.toArray⟩) ∧ w.cell? ⟨ab, ao + k * 2 + 1, none⟩ = some (.string ⟨L[k].2.toArray⟩) := by
  obtain ⟨ab, ao, rfl, hab, hc⟩ := h (by intro e; have := congrArg List.length e; rw [prS_len] at this; have h9 : L.length * 2 = 0 := this; omega)
  obtain ⟨t1, t2⟩ := prS_two L k hk
  have := hc _ _ t2
  rw [← Nat.add_assoc] at this
  exact ⟨ab, ao, rfl, hab, hc _ _ t1, this⟩
/-- append of a pair. -/
theorem app_pair {W : World} {base : Nat} {A : Option Addr} {c : Nat} {L : List Pr} (hown : RowS W base A c L) (k x : List UInt8) (hB : base ≤ W.heap.size) (hn : L.length ≤ 1000000) :
    ∃ (A' : Option Addr) (c' : Nat) (w' : World), (Builtin.append_ #[26, 26] 26 #[.slice A L.length c, .slice (some ⟨W.heap.size, 0, none⟩) 1 1]).run Try.prog (W.alloc (.cells #[.string ⟨k.toArray⟩, .string ⟨x.toArray⟩] 58)) = .ok (.slice A' (L.length + 1) c') w' ∧ w'.ownsRow base 58 2 (.slice A' (L.length + 1) c') (L.length + 1) (prS (L ++ [(k, x)])) ∧ Below base W w' := by
  obtain ⟨i, hi, hz0, hz1, hz2⟩ := info_parts infoRp
  have hb : Below base W (W.alloc (.cells #[.string ⟨k.toArray⟩, .string ⟨x.toArray⟩] 58)) := (Below.refl _ _).alloc hB _
  obtain ⟨v', w', hrun, h1, h2, h3⟩ := run_appR (P := Try.prog) (W.alloc (.cells #[.string ⟨k.toArray⟩, .string ⟨x.toArray⟩] 58)) base 26 26 58 i _ 2 32 Try.underlying26 hi hz0 hz1 hz2 rfl (by omega) (.slice A L.length c) L.length (prS L) (World.ownsRow.alloc hown _) (W.heap.size + 1) (some ⟨W.heap.size, 0, none⟩) 1 1 [.string ⟨k.toArray⟩, .string ⟨x.toArray⟩] rfl (Rd.new W #[.string ⟨k.toArray⟩, .string ⟨x.toArray⟩] 58 (0, 0)) (by simp [Value.oneCell']) (by omega) (by omega) (by simp; omega)
  obtain ⟨A', c', rfl, _, _, _⟩ := own_shape h1
  refine ⟨A', c', w', hrun, ?_, hb.trans (grown_below' h2 (fun z hz => (World.ownsRow.lt hown z hz).1) (by simp; omega))⟩
  rw [prS_append]
  exact h1
theorem wpL_appK {ops : Array Oper} {rest : List Oper} {o : Oper} {a : Act} {Q : Exit → Act → World → Prop} (w : World) (hgd : o.guard = none) (s x : Operand) (t : TypeId)
    (ho : o.op = .call { callee := .builtin .append, args := #[s, x], argTypes := #[t, t] }) (hty : o.type = t) (v y v' : Value) (w' : World) (hs : a.eval s = v) (hx : a.eval x = y)
    (hrun : (Builtin.append_ #[t, t] t #[v, y]).run Try.prog w = .ok v' w') (h : wpList Try.prog ops Q rest (a.put o.dst v') w') : wpList Try.prog ops Q (o :: rest) a w := by
  refine wpList_plain hgd fun K hK => ?_
  exact step_appK' w s x t ho hty v y v' w' hs hx hrun (hK _ _ h)
theorem str_ord (a b : List UInt8) : (Op.bytesLess a b = true ∧ cmpB a b < 0) ∨ (Op.bytesLess a b = false ∧ ¬ cmpB a b < 0) := by
  rw [less_cmp]
  by_cases h : cmpB a b < 0
  · exact .inl ⟨decide_eq_true h, h⟩
  · exact .inr ⟨decide_eq_false h, h⟩
theorem fold_take {α : Type} (f : α → Pr → α) (s : α) (L : List Pr) (k : Nat) (h : k < L.length) : (L.take (k + 1)).foldl f s = f ((L.take k).foldl f s) L[k] := by
  rw [List.take_succ_eq_append_getElem h, List.foldl_append]
  rfl
set_option maxRecDepth 100000 in
set_option maxHeartbeats 1000000 in
theorem refPut_any (L : List Pr) (hri : Rises L) (hn : L.length ≤ 1000) (A : Option Addr) (c : Nat) (key value : List UInt8) (w : World) (B : Nat) (hr : Rd w B A (prS L)) (hB : B ≤ w.heap.size) :
    Calls Try.prog 13 #[.slice A L.length c, .string ⟨key.toArray⟩, .string ⟨value.toArray⟩] w fun e w' => ∃ A' c', e = .returned (.tuple #[.slice A' (insL key value L).length c', .bool (getL key L).isNone]) ∧ RowS w' w.heap.size A' c' (insL key value L) ∧ Below w.heap.size w w' := by
  have HR := Lib.hid (And.intro hr (And.intro hB (And.intro hri hn)))
  have hlI : (L.length : Int) ≤ 1000 := by omega
  clear hr hB hri hn
  go_enter Try.func13, Try.ntmps13
  go_wp2_with (fail)
  go_loopw [8, 9, 10, 14] (fun o f d i wr => ∃ (k : Nat) (s : List Pr × Bool × Bool) (Ao : Option Addr) (co : Nat), k ≤ L.length ∧ i = .int .i64 (k : Int) ∧ s = (L.take k).foldl (stP key value) ([], true, false) ∧ s.1.length ≤ 2 * k ∧ o = .slice Ao s.1.length co ∧ f = .bool s.2.1 ∧ d = .bool s.2.2 ∧ RowS wr w.heap.size Ao co s.1 ∧ Below w.heap.size w wr)
    (fun _ _ _ i _ => L.length - (intOf i).toNat)
  case atStart => exact ⟨0, ([], true, false), none, 0, by omega, rfl, rfl, by simp, rfl, rfl, rfl, rowS_nil _ _, Below.refl _ _⟩
  case round =>
    obtain ⟨k, ⟨out, f, d⟩, Ao, co, hk, rfl, hs, hl2, rfl, rfl, rfl, hrow, hb⟩ := hrel
    simp only at hl2 hrow
    obtain ⟨NO, hNO⟩ : ∃ NO, NO = out.length := ⟨_, rfl⟩
    simp only
    by_cases hkl : k < L.length
    · have hkI : (k : Int) < (L.length : Int) := by omega
      obtain ⟨ab, ao, rfl, hab, c0, c1⟩ := prS_at HR.out.1 hkl
      have d0 := (hb.cell (p := ⟨ab, ao + k * 2, none⟩) (Nat.lt_of_lt_of_le hab HR.out.2.1)).trans c0
      have d1 := (hb.cell (p := ⟨ab, ao + k * 2 + 1, none⟩) (Nat.lt_of_lt_of_le hab HR.out.2.1)).trans c1
      have hst := fold_take (stP key value) ([], true, false) L k hkl
      rw [← hs] at hst
      generalize L[k] = p at d0 d1 hst c0 c1
      obtain ⟨x, y⟩ := p
      simp only at d0 d1
      obtain ⟨A1, c1', w1, hrun1, hown1, hb1⟩ := app_pair hrow key value hb.size (by omega)
      have hown1' : RowS w1 w.heap.size A1 c1' (out ++ [(key, value)]) := by unfold RowS; rw [List.length_append]; exact hown1
      obtain ⟨A2, c2', w2, hrun2, hown2, hb2⟩ := app_pair hown1' x y (Nat.le_trans hb.size hb1.size) (by rw [List.length_append]; simp; omega)
      obtain ⟨A3, c3', w3, hrun3, hown3, hb3⟩ := app_pair hrow x y hb.size (by omega)
      rw [List.length_append, ← hNO] at hrun2 hown2
      rw [← hNO] at hrun1 hrun3 hown3
      have e0 := (hb1.cell (p := ⟨ab, ao + k * 2, none⟩) (Nat.lt_of_lt_of_le hab HR.out.2.1)).trans d0
      have e1 := (hb1.cell (p := ⟨ab, ao + k * 2 + 1, none⟩) (Nat.lt_of_lt_of_le hab HR.out.2.1)).trans d1
      have HX := Lib.hid (And.intro hst (And.intro hkl (And.intro hl2 (And.intro hrow (And.intro hb (And.intro hNO (And.intro hown2 (And.intro hown3 (And.intro hb1 (And.intro hb2 hb3))))))))))
      rw [← hNO]
      clear hst hkl hl2 hrow hb hs c0 c1 hown1 hown1' hown2 hown3 hb1 hb2 hb3 hNO hab hk
      by_cases hx : x = key
      · have hq : (x == key) = true := by rw [hx]; simp
        have hs' : stP key value (out, f, d) (x, y) = (out, false, d) := by unfold stP; rw [if_pos hx]
        rw [hs'] at HX
        clear hx hs' hrun1 hrun2 hrun3
        go_wp2_with (fail)
        exact ⟨⟨k + 1, (out, false, d), Ao, co, HX.out.2.1, by simp, HX.out.1.symm, by have := HX.out.2.2.1; simp; omega, by rw [HX.out.2.2.2.2.2.1], rfl, rfl, HX.out.2.2.2.1, HX.out.2.2.2.2.1⟩, by simp [intOf]; have := HX.out.2.1; omega⟩
      · have hq : (x == key) = false := beq_eq_false_iff_ne.2 hx
        have hafter : d = true ∨ ¬ cmpB key x < 0 → stP key value (out, f, d) (x, y) = (out ++ [(x, y)], f, d) := fun h => by
          unfold stP
          rw [if_neg hx, if_neg (by rcases h with h | h <;> simp [h])]
        have hins : d = false → cmpB key x < 0 → stP key value (out, f, d) (x, y) = (out ++ [(key, value)] ++ [(x, y)], f, true) := fun h1 h2 => by
          unfold stP
          rw [if_neg hx, if_pos ⟨h1, h2⟩]
        have hend : stP key value (out, f, d) (x, y) = (out ++ [(x, y)], f, d) → RowS w3 w.heap.size A3 c3' (out ++ [(x, y)]) ∧ (out ++ [(x, y)]).length ≤ 2 * (k + 1) := fun _ => by
          unfold RowS
          rw [List.length_append, ← HX.out.2.2.2.2.2.1]
          have := HX.out.2.2.1
          have := HX.out.2.2.2.2.2.1
          exact ⟨HX.out.2.2.2.2.2.2.2.1, by simp; omega⟩
        have HE := Lib.hid hend
        have HA := Lib.hid hafter
        have HI := Lib.hid hins
        clear hx hafter hins hend
        cases d with
        | true =>
          have hs' := HA.out (.inl rfl)
          have HS := Lib.hid (And.intro (hs' ▸ HX.out.1) (HE.out hs'))
          clear hs' hrun1 hrun2 e0 e1
          go_wp2_with (at_builtin; refine wpL_appK _ rfl (.tmp 41) (.tmp 46) _ rfl rfl _ _ _ _ rfl rfl hrun3 ?_)
          exact ⟨⟨k + 1, (out ++ [(x, y)], f, true), A3, c3', HX.out.2.1, by simp, HS.out.1.symm, HS.out.2.2, by rw [List.length_append, HX.out.2.2.2.2.2.1]; rfl, rfl, rfl, HS.out.2.1, HX.out.2.2.2.2.1.trans HX.out.2.2.2.2.2.2.2.2.2.2⟩, by simp [intOf]; have := HX.out.2.1; omega⟩
        | false =>
          rcases str_ord key x with ⟨g1, g2⟩ | ⟨g1, g2⟩
          · have hs' := HI.out rfl g2
            have HS := Lib.hid (hs' ▸ HX.out.1)
            clear hs' g2 hrun3
            go_wp2_with (first
              | (at_builtin; refine wpL_appK _ rfl (.tmp 35) (.tmp 39) _ rfl rfl _ _ _ _ rfl rfl hrun1 ?_)
              | (at_builtin; refine wpL_appK _ rfl (.tmp 41) (.tmp 46) _ rfl rfl _ _ _ _ rfl rfl hrun2 ?_))
            have hlen : (out ++ [(key, value)] ++ [(x, y)]).length = NO + 1 + 1 := by rw [List.length_append, List.length_append, HX.out.2.2.2.2.2.1]; rfl
            refine ⟨⟨k + 1, (out ++ [(key, value)] ++ [(x, y)], f, true), A2, c2', HX.out.2.1, by simp, HS.out.symm, by have := HX.out.2.2.1; have := HX.out.2.2.2.2.2.1; simp only [hlen]; omega, by simp only [hlen], rfl, rfl, ?_, (HX.out.2.2.2.2.1.trans HX.out.2.2.2.2.2.2.2.2.1).trans HX.out.2.2.2.2.2.2.2.2.2.1⟩, by simp [intOf]; have := HX.out.2.1; omega⟩
            unfold RowS
            rw [hlen]
            exact HX.out.2.2.2.2.2.2.1
          · have hs' := HA.out (.inr g2)
            have HS := Lib.hid (And.intro (hs' ▸ HX.out.1) (HE.out hs'))
            clear hs' g2 hrun1 hrun2 e0 e1
            go_wp2_with (at_builtin; refine wpL_appK _ rfl (.tmp 41) (.tmp 46) _ rfl rfl _ _ _ _ rfl rfl hrun3 ?_)
            exact ⟨⟨k + 1, (out ++ [(x, y)], f, false), A3, c3', HX.out.2.1, by simp, HS.out.1.symm, HS.out.2.2, by rw [List.length_append, HX.out.2.2.2.2.2.1]; rfl, rfl, rfl, HS.out.2.1, HX.out.2.2.2.2.1.trans HX.out.2.2.2.2.2.2.2.2.2.2⟩, by simp [intOf]; have := HX.out.2.1; omega⟩
    · have hkI : ¬ (k : Int) < (L.length : Int) := by omega
      obtain rfl : k = L.length := by omega
      rw [List.take_length] at hs
      have hfin := stP_ins key value L [] true HR.out.2.2.1
      rw [← hs] at hfin
      unfold endP at hfin
      obtain ⟨A1, c1', w1, hrun1, hown1, hb1⟩ := app_pair hrow key value hb.size (by have := HR.out.2.2.2; omega)
      rw [← hNO] at hrun1 hown1 ⊢
      have HX := Lib.hid (And.intro hfin (And.intro hrow (And.intro hb (And.intro hNO (And.intro hown1 hb1)))))
      clear hfin hs hl2 hrow hb hNO hown1 hb1 hk hkl
      cases d with
      | true =>
        clear hrun1
        go_wp2_with (fail)
        go_ret2
        have h1 := HX.out.1
        simp only [if_true, List.nil_append, Bool.true_and, Prod.mk.injEq] at h1
        obtain ⟨h1, h2⟩ := h1
        refine ⟨Ao, co, ?_, ?_, HX.out.2.2.1⟩
        · rw [← h1, ← h2, ← HX.out.2.2.2.1]
          rfl
        · rw [← h1]; exact HX.out.2.1
      | false =>
        go_wp2_with (at_builtin; refine wpL_appK _ rfl (.tmp 51) (.tmp 55) _ rfl rfl _ _ _ _ rfl rfl hrun1 ?_)
        go_ret2
        have h1 := HX.out.1
        simp only [Bool.false_eq_true, if_false, List.nil_append, Bool.true_and, Prod.mk.injEq] at h1
        obtain ⟨h1, h2⟩ := h1
        have hlen : (out ++ [(key, value)]).length = NO + 1 := by rw [List.length_append, HX.out.2.2.2.1]; rfl
        refine ⟨A1, c1', ?_, ?_, HX.out.2.2.1.trans HX.out.2.2.2.2.2⟩
        · rw [← h1, ← h2, hlen]
          rfl
        · rw [← h1]
          unfold RowS
          rw [hlen]
          exact HX.out.2.2.2.2.1
set_option maxRecDepth 100000 in
set_option maxHeartbeats 1000000 in
theorem refGet_any (L : List Pr) (hn : L.length ≤ 1000) (A : Option Addr) (c : Nat) (key : List UInt8) (w : World) (B : Nat) (hr : Rd w B A (prS L)) (hB : B ≤ w.heap.size) :
    Calls Try.prog 14 #[.slice A L.length c, .string ⟨key.toArray⟩] w fun e w' => e = .returned (.tuple #[.string ⟨((getL key L).getD []).toArray⟩, .bool (getL key L).isSome]) ∧ w = w' := by
  have HR := Lib.hid (And.intro hr (And.intro hB hn))
  have hlI : (L.length : Int) ≤ 1000 := by omega
  clear hr hB hn
  go_enter Try.func14, Try.ntmps14
  go_wp2_with (fail)
  go_loopw [9] (fun i wr => ∃ (k : Nat), k ≤ L.length ∧ i = .int .i64 (k : Int) ∧ getL key L = getL key (L.drop k) ∧ w = wr)
    (fun i _ => L.length - (intOf i).toNat)
  case atStart => exact ⟨0, by omega, rfl, rfl, rfl⟩
  case round =>
    obtain ⟨k, hk, rfl, hs, rfl⟩ := hrel
    by_cases hkl : k < L.length
    · have hkI : (k : Int) < (L.length : Int) := by omega
      obtain ⟨ab, ao, rfl, hab, d0, d1⟩ := prS_at HR.out.1 hkl
      rw [List.drop_eq_getElem_cons hkl, getL_cons] at hs
      generalize L[k] = p at d0 d1 hs
      obtain ⟨x, y⟩ := p
      simp only at d0 d1 hs
      by_cases hx : x = key
      · have hq : (x == key) = true := by rw [hx]; simp
        rw [if_pos hx] at hs
        have HX := Lib.hid hs
        clear hs hx hk hab hkl
        go_wp2_with (fail)
        go_ret2
        rw [HX.out]
        exact ⟨rfl, rfl⟩
      · have hq : (x == key) = false := beq_eq_false_iff_ne.2 hx
        rw [if_neg hx] at hs
        have HX := Lib.hid (And.intro hs hkl)
        clear hs hx hk hab hkl
        go_wp2_with (fail)
        exact ⟨⟨k + 1, HX.out.2, by simp, HX.out.1, by trivial⟩, by simp [intOf]; have := HX.out.2; omega⟩
    · have hkI : ¬ (k : Int) < (L.length : Int) := by omega
      obtain rfl : k = L.length := by omega
      rw [List.drop_length] at hs
      have HX := Lib.hid hs
      clear hs hk hkl
      go_wp2_with (fail)
      go_ret2
      rw [HX.out]
      exact ⟨rfl, rfl⟩
set_option maxRecDepth 100000 in
set_option maxHeartbeats 1000000 in
theorem refDel_any (L : List Pr) (hn : L.length ≤ 1000) (A : Option Addr) (c : Nat) (key : List UInt8) (w : World) (B : Nat) (hr : Rd w B A (prS L)) (hB : B ≤ w.heap.size) :
    Calls Try.prog 15 #[.slice A L.length c, .string ⟨key.toArray⟩] w fun e w' => ∃ A' c', e = .returned (.slice A' (delL key L).length c') ∧ RowS w' w.heap.size A' c' (delL key L) ∧ Below w.heap.size w w' := by
  have HR := Lib.hid (And.intro hr (And.intro hB hn))
  have hlI : (L.length : Int) ≤ 1000 := by omega
  clear hr hB hn
  go_enter Try.func15, Try.ntmps15
  go_wp2_with (fail)
  go_loopw [5, 9] (fun o i wr => ∃ (k : Nat) (out : List Pr) (Ao : Option Addr) (co : Nat), k ≤ L.length ∧ i = .int .i64 (k : Int) ∧ out = delL key (L.take k) ∧ o = .slice Ao out.length co ∧ RowS wr w.heap.size Ao co out ∧ Below w.heap.size w wr)
    (fun _ i _ => L.length - (intOf i).toNat)
  case atStart => exact ⟨0, [], none, 0, by omega, rfl, rfl, rfl, rowS_nil _ _, Below.refl _ _⟩
  case round =>
    obtain ⟨k, out, Ao, co, hk, rfl, hs, rfl, hrow, hb⟩ := hrel
    have hlo : out.length ≤ k := by rw [hs]; exact Nat.le_trans (delL_le _ _) (by rw [List.length_take]; omega)
    obtain ⟨NO, hNO⟩ : ∃ NO, NO = out.length := ⟨_, rfl⟩
    by_cases hkl : k < L.length
    · have hkI : (k : Int) < (L.length : Int) := by omega
      obtain ⟨ab, ao, rfl, hab, c0, c1⟩ := prS_at HR.out.1 hkl
      have d0 := (hb.cell (p := ⟨ab, ao + k * 2, none⟩) (Nat.lt_of_lt_of_le hab HR.out.2.1)).trans c0
      have d1 := (hb.cell (p := ⟨ab, ao + k * 2 + 1, none⟩) (Nat.lt_of_lt_of_le hab HR.out.2.1)).trans c1
      have hst : delL key (L.take (k + 1)) = out ++ delL key [L[k]] := by rw [List.take_succ_eq_append_getElem hkl, delL_append, hs]
      generalize L[k] = p at d0 d1 hst c0 c1
      obtain ⟨x, y⟩ := p
      simp only at d0 d1
      obtain ⟨A3, c3', w3, hrun3, hown3, hb3⟩ := app_pair hrow x y hb.size (by have := HR.out.2.2; omega)
      rw [← hNO] at hrun3 hown3
      have HX := Lib.hid (And.intro hst (And.intro hkl (And.intro hrow (And.intro hb (And.intro hNO (And.intro hown3 hb3))))))
      rw [← hNO]
      clear hst hkl hrow hb hs c0 c1 hown3 hb3 hNO hab hk hlo
      by_cases hx : x = key
      · have hq : (x == key) = true := by rw [hx]; simp
        have hd : delL key [(x, y)] = [] := by simp [delL, hx]
        have HD := Lib.hid hd
        clear hx hrun3 hd
        go_wp2_with (fail)
        exact ⟨⟨k + 1, out, Ao, co, HX.out.2.1, by simp, by rw [HX.out.1, HD.out, List.append_nil], by rw [HX.out.2.2.2.2.1], HX.out.2.2.1, HX.out.2.2.2.1⟩, by simp [intOf]; have := HX.out.2.1; omega⟩
      · have hq : (x == key) = false := beq_eq_false_iff_ne.2 hx
        have hd : delL key [(x, y)] = [(x, y)] := by simp [delL, hx]
        have HD := Lib.hid hd
        clear hx hd
        go_wp2_with (at_builtin; refine wpL_appK _ rfl (.tmp 19) (.tmp 24) _ rfl rfl _ _ _ _ rfl rfl hrun3 ?_)
        have hlen : (out ++ [(x, y)]).length = NO + 1 := by rw [List.length_append, HX.out.2.2.2.2.1]; rfl
        refine ⟨⟨k + 1, out ++ [(x, y)], A3, c3', HX.out.2.1, by simp, by rw [HX.out.1, HD.out], by rw [hlen], ?_, HX.out.2.2.2.1.trans HX.out.2.2.2.2.2.2⟩, by simp [intOf]; have := HX.out.2.1; omega⟩
        unfold RowS
        rw [hlen]
        exact HX.out.2.2.2.2.2.1
    · have hkI : ¬ (k : Int) < (L.length : Int) := by omega
      obtain rfl : k = L.length := by omega
      rw [List.take_length] at hs
      have HX := Lib.hid (And.intro hs (And.intro hrow hb))
      clear hs hrow hb hk hkl hNO hlo
      go_wp2_with (fail)
      go_ret
      rw [← HX.out.1]
      exact ⟨Ao, co, rfl, HX.out.2.1, HX.out.2.2⟩
set_option maxRecDepth 100000 in
set_option maxHeartbeats 1000000 in
theorem refRank_any (L : List Pr) (hn : L.length ≤ 1000) (A : Option Addr) (c : Nat) (key : List UInt8) (w : World) (B : Nat) (hr : Rd w B A (prS L)) (hB : B ≤ w.heap.size) :
    Calls Try.prog 21 #[.slice A L.length c, .string ⟨key.toArray⟩] w fun e w' => e = .returned (.int .i64 (rankL key L : Int)) ∧ w = w' := by
  have HR := Lib.hid (And.intro hr (And.intro hB hn))
  have hlI : (L.length : Int) ≤ 1000 := by omega
  clear hr hB hn
  go_enter Try.func21, Try.ntmps21
  go_wp2_with (fail)
  go_loopw [5, 9] (fun n i wr => ∃ (k m : Nat), k ≤ L.length ∧ i = .int .i64 (k : Int) ∧ n = .int .i64 (m : Int) ∧ m = rankL key (L.take k) ∧ m ≤ k ∧ w = wr)
    (fun _ i _ => L.length - (intOf i).toNat)
  case atStart => exact ⟨0, 0, by omega, rfl, rfl, rfl, by omega, rfl⟩
  case round =>
    obtain ⟨k, m, hk, rfl, rfl, hs, hm, rfl⟩ := hrel
    by_cases hkl : k < L.length
    · have hkI : (k : Int) < (L.length : Int) := by omega
      have hmI : (m : Int) ≤ 1000 := by omega
      obtain ⟨ab, ao, rfl, hab, d0, d1⟩ := prS_at HR.out.1 hkl
      have hst : rankL key (L.take (k + 1)) = m + (if cmpB L[k].1 key < 0 then 1 else 0) := by
        rw [hs]
        unfold rankL
        rw [List.take_succ_eq_append_getElem hkl, List.filter_append, List.length_append]
        congr 1
        rw [List.filter_cons]
        split <;> rename_i h <;> simp at h ⊢ <;> omega
      generalize L[k] = p at d0 d1 hst
      obtain ⟨x, y⟩ := p
      simp only at d0 d1 hst
      have HX := Lib.hid (And.intro hst (And.intro hkl hm))
      clear hst hkl hs hk hab hm
      rcases str_ord x key with ⟨g1, g2⟩ | ⟨g1, g2⟩
      · have HG := Lib.hid g2
        clear g2
        go_wp2_with (fail)
        exact ⟨⟨k + 1, m + 1, HX.out.2.1, by simp, by simp, by rw [HX.out.1, if_pos HG.out], by have := HX.out.2.2; omega, by trivial⟩, by simp [intOf]; have := HX.out.2.1; omega⟩
      · have HG := Lib.hid g2
        clear g2
        go_wp2_with (fail)
        exact ⟨⟨k + 1, m, HX.out.2.1, by simp, rfl, by rw [HX.out.1, if_neg HG.out]; rfl, by have := HX.out.2.2; omega, by trivial⟩, by simp [intOf]; have := HX.out.2.1; omega⟩
    · have hkI : ¬ (k : Int) < (L.length : Int) := by omega
      obtain rfl : k = L.length := by omega
      rw [List.take_length] at hs
      have HX := Lib.hid hs
      clear hs hk hkl
      go_wp2_with (fail)
      go_ret
      rw [HX.out]
      exact ⟨rfl, rfl⟩
set_option maxRecDepth 100000 in
set_option maxHeartbeats 1000000 in
theorem refRange_any (L : List Pr) (hri : Rises L) (hn : L.length ≤ 1000) (A : Option Addr) (c : Nat) (frm to : List UInt8) (most : Int) (w : World) (B : Nat) (hr : Rd w B A (prS L)) (hB : B ≤ w.heap.size) :
    Calls Try.prog 18 #[.slice A L.length c, .string ⟨frm.toArray⟩, .string ⟨to.toArray⟩, .int .i64 most] w fun e w' => ∃ A' c', e = .returned (.slice A' (rngL frm to most L).length c') ∧ RowS w' w.heap.size A' c' (rngL frm to most L) ∧ Below w.heap.size w w' := by
  have HR := Lib.hid (And.intro hr (And.intro hB (And.intro hri hn)))
  have hlI : (L.length : Int) ≤ 1000 := by omega
  clear hr hB hri hn
  go_enter Try.func18, Try.ntmps18
  go_wp2_with (fail)
  go_loopw [9, 13] (fun o i wr => ∃ (k : Nat) (out : List Pr) (Ao : Option Addr) (co : Nat), k ≤ L.length ∧ i = .int .i64 (k : Int) ∧ out = (L.take k).foldl (stR frm to most) [] ∧ out.length ≤ k ∧ o = .slice Ao out.length co ∧ RowS wr w.heap.size Ao co out ∧ Below w.heap.size w wr)
    (fun _ i _ => L.length - (intOf i).toNat)
  case atStart => exact ⟨0, [], none, 0, by omega, rfl, rfl, by simp, rfl, rowS_nil _ _, Below.refl _ _⟩
  case round =>
    obtain ⟨k, out, Ao, co, hk, rfl, hs, hlo, rfl, hrow, hb⟩ := hrel
    obtain ⟨NO, hNO⟩ : ∃ NO, NO = out.length := ⟨_, rfl⟩
    by_cases hkl : k < L.length
    · have hkI : (k : Int) < (L.length : Int) := by omega
      obtain ⟨ab, ao, rfl, hab, c0, c1⟩ := prS_at HR.out.1 hkl
      have d0 := (hb.cell (p := ⟨ab, ao + k * 2, none⟩) (Nat.lt_of_lt_of_le hab HR.out.2.1)).trans c0
      have d1 := (hb.cell (p := ⟨ab, ao + k * 2 + 1, none⟩) (Nat.lt_of_lt_of_le hab HR.out.2.1)).trans c1
      have hst := fold_take (stR frm to most) [] L k hkl
      rw [← hs] at hst
      generalize L[k] = p at d0 d1 hst c0 c1
      obtain ⟨x, y⟩ := p
      simp only at d0 d1
      obtain ⟨A3, c3', w3, hrun3, hown3, hb3⟩ := app_pair hrow x y hb.size (by have := HR.out.2.2.2; omega)
      rw [← hNO] at hrun3 hown3
      have hyes : inR frm to (x, y) = true → (NO : Int) < most → stR frm to most out (x, y) = out ++ [(x, y)] := fun h1 h2 => by unfold stR; rw [if_pos ⟨h1, by rw [← hNO]; exact h2⟩]
      have hno : (inR frm to (x, y) = false ∨ ¬ (NO : Int) < most) → stR frm to most out (x, y) = out := fun h => by
        unfold stR
        rw [if_neg]
        rintro ⟨h1, h2⟩
        rw [← hNO] at h2
        rcases h with h | h
        · rw [h1] at h; cases h
        · exact h h2
      have HX := Lib.hid (And.intro hst (And.intro hkl (And.intro hrow (And.intro hb (And.intro hNO (And.intro hown3 (And.intro hb3 (And.intro hlo (And.intro hyes hno)))))))))
      rw [← hNO]
      clear hst hkl hrow hb hs c0 c1 hown3 hb3 hNO hab hk hlo hyes hno
      have hcase : (inR frm to (x, y) = false ∧ Op.bytesLess x frm = true) ∨ (Op.bytesLess x frm = false ∧ to = [] ∧ inR frm to (x, y) = true) ∨ (Op.bytesLess x frm = false ∧ (to == []) = false ∧ to ≠ [] ∧ Op.bytesLess x to = true ∧ inR frm to (x, y) = true) ∨ (Op.bytesLess x frm = false ∧ (to == []) = false ∧ to ≠ [] ∧ Op.bytesLess x to = false ∧ inR frm to (x, y) = false) := by
        unfold inR
        rcases str_ord x frm with ⟨g1, g2⟩ | ⟨g1, g2⟩
        · left; exact ⟨by simp [g2], g1⟩
        · by_cases ht : to = []
          · right; left; exact ⟨g1, ht, by simp [g2, ht]⟩
          · have ht' : (to == []) = false := beq_eq_false_iff_ne.2 ht
            rcases str_ord x to with ⟨g3, g4⟩ | ⟨g3, g4⟩
            · right; right; left; exact ⟨g1, ht', ht, g3, by simp [g2, g4]⟩
            · right; right; right; exact ⟨g1, ht', ht, g3, by simp [ht, g4]⟩
      have HC := Lib.hid hcase
      clear hcase
      rcases HC.out with ⟨g0, g1⟩ | ⟨g1, g2, g0⟩ | ⟨g1, g2, g3, g4, g0⟩ | ⟨g1, g2, g3, g4, g0⟩
      · have HS := Lib.hid (HX.out.2.2.2.2.2.2.2.2.2 (.inl g0))
        clear g0 hrun3
        go_wp2_with (fail)
        exact ⟨⟨k + 1, out, Ao, co, HX.out.2.1, by simp, by rw [HX.out.1, HS.out], by have := HX.out.2.2.2.2.2.2.2.1; omega, by rw [HX.out.2.2.2.2.1], HX.out.2.2.1, HX.out.2.2.2.1⟩, by simp [intOf]; have := HX.out.2.1; omega⟩
      · subst g2
        by_cases hm : (NO : Int) < most
        · have HS := Lib.hid (HX.out.2.2.2.2.2.2.2.2.1 g0 hm)
          clear g0
          go_wp2_with (at_builtin; refine wpL_appK _ rfl (.tmp 42) (.tmp 47) _ rfl rfl _ _ _ _ rfl rfl hrun3 ?_)
          have hlen : (out ++ [(x, y)]).length = NO + 1 := by rw [List.length_append, HX.out.2.2.2.2.1]; rfl
          refine ⟨⟨k + 1, out ++ [(x, y)], A3, c3', HX.out.2.1, by simp, by rw [HX.out.1, HS.out], by have := HX.out.2.2.2.2.2.2.2.1; have := HX.out.2.2.2.2.1; omega, by rw [hlen], ?_, HX.out.2.2.2.1.trans HX.out.2.2.2.2.2.2.1⟩, by simp [intOf]; have := HX.out.2.1; omega⟩
          unfold RowS
          rw [hlen]
          exact HX.out.2.2.2.2.2.1
        · have HS := Lib.hid (HX.out.2.2.2.2.2.2.2.2.2 (.inr hm))
          clear g0 hrun3
          go_wp2_with (fail)
          exact ⟨⟨k + 1, out, Ao, co, HX.out.2.1, by simp, by rw [HX.out.1, HS.out], by have := HX.out.2.2.2.2.2.2.2.1; omega, by rw [HX.out.2.2.2.2.1], HX.out.2.2.1, HX.out.2.2.2.1⟩, by simp [intOf]; have := HX.out.2.1; omega⟩
      · by_cases hm : (NO : Int) < most
        · have HS := Lib.hid (HX.out.2.2.2.2.2.2.2.2.1 g0 hm)
          clear g0
          go_wp2_with (at_builtin; refine wpL_appK _ rfl (.tmp 42) (.tmp 47) _ rfl rfl _ _ _ _ rfl rfl hrun3 ?_)
          have hlen : (out ++ [(x, y)]).length = NO + 1 := by rw [List.length_append, HX.out.2.2.2.2.1]; rfl
          refine ⟨⟨k + 1, out ++ [(x, y)], A3, c3', HX.out.2.1, by simp, by rw [HX.out.1, HS.out], by have := HX.out.2.2.2.2.2.2.2.1; have := HX.out.2.2.2.2.1; omega, by rw [hlen], ?_, HX.out.2.2.2.1.trans HX.out.2.2.2.2.2.2.1⟩, by simp [intOf]; have := HX.out.2.1; omega⟩
          unfold RowS
          rw [hlen]
          exact HX.out.2.2.2.2.2.1
        · have HS := Lib.hid (HX.out.2.2.2.2.2.2.2.2.2 (.inr hm))
          clear g0 hrun3
          go_wp2_with (fail)
          exact ⟨⟨k + 1, out, Ao, co, HX.out.2.1, by simp, by rw [HX.out.1, HS.out], by have := HX.out.2.2.2.2.2.2.2.1; omega, by rw [HX.out.2.2.2.2.1], HX.out.2.2.1, HX.out.2.2.2.1⟩, by simp [intOf]; have := HX.out.2.1; omega⟩
      · have HS := Lib.hid (HX.out.2.2.2.2.2.2.2.2.2 (.inl g0))
        clear g0 hrun3
        go_wp2_with (fail)
        exact ⟨⟨k + 1, out, Ao, co, HX.out.2.1, by simp, by rw [HX.out.1, HS.out], by have := HX.out.2.2.2.2.2.2.2.1; omega, by rw [HX.out.2.2.2.2.1], HX.out.2.2.1, HX.out.2.2.2.1⟩, by simp [intOf]; have := HX.out.2.1; omega⟩
    · have hkI : ¬ (k : Int) < (L.length : Int) := by omega
      obtain rfl : k = L.length := by omega
      rw [List.take_length, stR_rng frm to most HR.out.2.2.1 HR.out.2.2.2] at hs
      have HX := Lib.hid (And.intro hs (And.intro hrow hb))
      clear hs hrow hb hk hkl hNO hlo
      go_wp2_with (fail)
      go_ret
      rw [← HX.out.1]
      exact ⟨Ao, co, rfl, HX.out.2.1, HX.out.2.2⟩
end Go.Proofs.Ytklhfegdjadgdaa
