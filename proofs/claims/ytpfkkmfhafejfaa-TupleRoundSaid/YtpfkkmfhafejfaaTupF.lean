/- Copies of lists of tuples: copied; Diff, Back, Empty. -/
import Derived.Test.YtpfkkmfhafejfaaTupE
namespace Go.Proofs.Ytpfkkmfhafejfaa
open Go.RowKit Go.Maps

/-- A tuple of the call's own. -/
def OwnI (w : World) (lo : Nat) (t : TV) : Prop := w.ownsRow lo 3 1 t.val t.l.length (intsV t.l)
theorem intsV_one (l : Tu) : ∀ u ∈ intsV l, u.oneCell' = true := by
  intro u hu
  obtain ⟨t, _, rfl⟩ := List.mem_map.1 hu
  rfl
/-- Two tuples in blocks of their own. -/
def Off (t u : TV) : Prop := ∀ a b, t.A = some a → u.A = some b → a.block ≠ b.block
theorem Off.symm {t u : TV} (h : Off t u) : Off u t := fun a b ha hb e => h b a hb ha e.symm
/-- A list of the call's own, each tuple in a block of its own. -/
structure OwnL (w : World) (lo : Nat) (v : Value) (ts : List TV) : Prop where
  row : OwnT w lo v ts
  tup : ∀ t ∈ ts, OwnI w lo t
  sm : ∀ t ∈ ts, t.l.length ≤ 1000
  off : ts.Pairwise Off
theorem OwnI.ok {w : World} {lo : Nat} {t : TV} (h : OwnI w lo t) (hs : t.l.length ≤ 1000) : t.Ok w := by
  obtain ⟨A, c, e, h1, _, h2⟩ := own_shape h
  unfold TV.val at e
  injection e with e1 e2 e3
  subst e1 e3
  exact ⟨h2, h1, hs⟩
theorem OwnI.lo {w : World} {lo : Nat} {t : TV} (h : OwnI w lo t) : ∀ a, t.A = some a → lo ≤ a.block ∧ a.block < w.heap.size := by
  intro a ha
  have := World.ownsRow.lt h a.block (by unfold TV.val; rw [ha]; rfl)
  exact this
theorem OwnI.below {w w' : World} {lo : Nat} {t : TV} (h : OwnI w lo t) (hb : Below w.heap.size w w') : OwnI w' lo t := own_below h hb (Nat.le_refl _)
theorem OwnI.fr {w w' : World} {lo : Nat} {t : TV} {S : List Nat} (h : OwnI w lo t) (hf : Fr w w' S) (hS : ∀ a, t.A = some a → a.block ∉ S) : OwnI w' lo t :=
  rowFrS h hf fun s hs => by
    rcases hA : t.A with _ | a
    · unfold TV.val at hs; rw [hA] at hs; simp [Value.ownBlock] at hs
    · unfold TV.val at hs; rw [hA] at hs; simp [Value.ownBlock] at hs; rw [hs]; exact hS a hA
theorem OwnT.below {w w' : World} {lo : Nat} {v : Value} {ts : List TV} (h : OwnT w lo v ts) (hb : Below w.heap.size w w') : OwnT w' lo v ts := own_below h hb (Nat.le_refl _)
theorem OwnL.below {w w' : World} {lo : Nat} {v : Value} {ts : List TV} (h : OwnL w lo v ts) (hb : Below w.heap.size w w') : OwnL w' lo v ts :=
  ⟨h.row.below hb, fun t ht => (h.tup t ht).below hb, h.sm, h.off⟩
theorem OwnL.mono {w : World} {lo lo' : Nat} {v : Value} {ts : List TV} (h : OwnL w lo v ts) (hl : lo' ≤ lo) : OwnL w lo' v ts :=
  ⟨own_mono h.row hl, fun t ht => own_mono (h.tup t ht) hl, h.sm, h.off⟩
theorem OwnL.lst {w : World} {lo : Nat} {v : Value} {ts : List TV} (h : OwnL w lo v ts) (hs : ts.length ≤ 1000) : ∃ A c, v = .slice A ts.length c ∧ Lst w A c ts :=
  h.row.lst (fun t ht => (h.tup t ht).ok (h.sm t ht)) hs
/-- What copied answers. -/
def CoPost (w : World) (ts : List TV) (e : Ending) (w' : World) : Prop := ∃ v us, e = .returned v ∧ OwnL w' w.heap.size v us ∧ tus us = tus ts ∧ Below w.heap.size w w'
def nilV : Value := .slice none 0 0
theorem madeN (n : Nat) : madeCells #[.slice none 0 0] n = Array.replicate n nilV := by
  apply Array.toList_inj.1
  rw [toList_madeCells_one, Array.toList_replicate]
  rfl
/-- append whose run is known. -/
theorem wpL_appK {ops : Array Oper} {rest : List Oper} {o : Oper} {a : Act} {Q : Exit → Act → World → Prop} (w : World) (hgd : o.guard = none) (s x : Operand) (t : TypeId)
    (ho : o.op = .call { callee := .builtin .append, args := #[s, x], argTypes := #[t, t] }) (hty : o.type = t) (v y v' : Value) (w' : World) (hs : a.eval s = v) (hx : a.eval x = y)
    (hrun : (Builtin.append_ #[t, t] t #[v, y]).run Try.prog w = .ok v' w') (h : wpList Try.prog ops Q rest (a.put o.dst v') w') : wpList Try.prog ops Q (o :: rest) a w := by
  refine wpList_plain hgd fun K hK => ?_
  exact step_appK' w s x t ho hty v y v' w' hs hx hrun (hK _ _ h)
theorem makeTT (n : Nat) (hn : n ≤ 4000) (w : World) : (Instr.makeSlice 22 (.int .i64 (n : Int)) (.int .i64 (n : Int))).run Try.prog w = .ok (.slice (some ⟨w.heap.size, 0, none⟩) n n) (w.alloc (.cells (Array.replicate n nilV) 24)) := by
  have h := run_make_row' (P := Try.prog) 22 24 (.slice none 0 0) 24 Try.underlying22 infoTup rfl .i64 .i64 n (by omega) (by omega) w
  rw [madeN] at h
  exact h
/-- append of a tuple onto nil. -/
theorem run_appI (W : World) (x : TV) (hx : x.Ok W) :
    ∃ u : TV, ∃ w', (Builtin.append_ #[24, 24] 24 #[.slice none 0 0, .slice x.A x.l.length x.c]).run Try.prog W = .ok (.slice u.A u.l.length u.c) w' ∧ u.l = x.l ∧ OwnI w' W.heap.size u ∧ Below W.heap.size W w' := by
  obtain ⟨i0, hi, hz0, hz1, hz2⟩ := info_parts infoInt
  obtain ⟨v', w', h1, h2, h3, _⟩ := run_appR (P := Try.prog) W W.heap.size 24 24 3 i0 _ 1 8 Try.underlying24 hi hz0 hz1 hz2 rfl (by omega) (.slice none 0 0) 0 [] (World.ownsRow_nil _ _ _ _) W.heap.size x.A x.l.length x.c (intsV x.l) (by rw [intsV_len]; omega) hx.rd (intsV_one _) (by have := hx.sm; omega) (by omega) (Nat.le_refl _)
  rw [Nat.zero_add, List.nil_append] at h2
  obtain ⟨A, c, rfl, _, _, _⟩ := own_shape h2
  exact ⟨⟨A, x.l, c⟩, w', h1, rfl, h2, (Below.refl _ W).grown h3 (Nat.le_refl _) (fun k hk => nomatch hk)⟩
/-- copied's state behind k tuples. -/
structure CoAt (w wr : World) (ts us : List TV) (k : Nat) : Prop where
  len : us.length = k
  row : wr.ownsRow w.heap.size 24 1 (.slice (some ⟨w.heap.size, 0, none⟩) ts.length ts.length) ts.length (vals us ++ List.replicate (ts.length - k) nilV)
  eq : tus us = (tus ts).take k
  tup : ∀ u ∈ us, OwnI wr w.heap.size u
  off : us.Pairwise Off
  at1 : ∀ u ∈ us, ∀ a, u.A = some a → a.block ≠ w.heap.size
  below : Below w.heap.size w wr
theorem CoAt.next {w wr w5 : World} {ts us : List TV} {k : Nat} {u : TV} (h : CoAt w wr ts us k) (hk : k < ts.length) (hu : u.l = ts[k].l) (ho : OwnI w5 wr.heap.size u) (hb : Below wr.heap.size wr w5) :
    CoAt w (w5.setCell ⟨w.heap.size, k, none⟩ (.slice u.A u.l.length u.c)) ts (us ++ [u]) (k + 1) := by
  have hr5 := own_below h.row hb (Nat.le_refl _)
  have hlt : w.heap.size < wr.heap.size := (World.ownsRow.lt h.row w.heap.size rfl).2
  obtain ⟨hst, hgr⟩ := World.ownsRow.stored hr5 k u.val
  have hfr := Fr.of_grown hgr
  have hnot : ∀ a, u.A = some a → a.block ≠ w.heap.size := fun a ha => by have := ho.lo a ha; omega
  refine ⟨by rw [List.length_append, h.len]; rfl, ?_, ?_, fun t ht => ?_, ?_, fun t ht a ha => ?_, ?_⟩
  · have e : (vals us ++ List.replicate (ts.length - k) nilV).set k u.val = vals (us ++ [u]) ++ List.replicate (ts.length - (k + 1)) nilV := by
      rw [List.set_append, if_neg (by rw [vals_len, h.len]; omega), vals_len, h.len, Nat.sub_self, show ts.length - k = (ts.length - (k + 1)) + 1 by omega, List.replicate_succ, List.set_cons_zero, vals_app, List.append_assoc]
      rfl
    rw [← e]
    exact hst
  · rw [tus_app, h.eq, List.take_succ_eq_append_getElem (by rw [tus_len]; exact hk), tus_at ts k hk]
    show _ ++ [u.l] = _
    rw [hu]
  · rcases List.mem_append.1 ht with ht | ht
    · exact ((h.tup t ht).below hb).fr hfr fun a ha hm => h.at1 t ht a ha (List.mem_singleton.1 hm)
    · rw [List.mem_singleton.1 ht]
      exact OwnI.fr (own_mono ho (Nat.le_of_lt hlt)) hfr fun a ha hm => hnot a ha (List.mem_singleton.1 hm)
  · rw [List.pairwise_append]
    refine ⟨h.off, List.pairwise_singleton _ _, fun x hx y hy a b ha hb' e => ?_⟩
    rw [List.mem_singleton.1 hy] at hb'
    have h1 := ho.lo b hb'
    have h2 := (h.tup x hx).lo a ha
    omega
  · rcases List.mem_append.1 ht with ht | ht
    · exact h.at1 t ht a ha
    · rw [List.mem_singleton.1 ht] at ha
      exact hnot a ha
  · exact (h.below.trans (lower hb h.below.size)).setCell (Nat.le_refl _) _
set_option maxRecDepth 100000 in
set_option maxHeartbeats 2000000 in
/-- copied. -/
theorem copied_any (x : LV) (w : World) (hx : x.Ok w) : Calls Try.prog 31 #[.slice x.A x.ts.length x.c] w (CoPost w x.ts) := by
  have hs := hx.sm
  have hmk := makeTT x.ts.length (by omega) w
  have h0 : CoAt w (w.alloc (.cells (Array.replicate x.ts.length nilV) 24)) x.ts [] 0 :=
    ⟨rfl, by have := World.ownsRow_lit (base := w.heap.size) (size := 1) (e := 24) w (Array.replicate x.ts.length nilV) x.ts.length (Nat.le_refl _) (by simp [maxLen]; omega) (by simp); simpa [vals] using this, rfl, fun _ h => (nomatch h), .nil, fun _ h => (nomatch h), (Below.refl _ _).alloc (Nat.le_refl _) _⟩
  have HA := Lib.hid (And.intro hx h0)
  clear hx h0
  go_enter Try.func31, Try.ntmps31
  go_wp2_with (fail)
  generalize w.alloc (.cells (Array.replicate x.ts.length nilV) 24) = w1 at HA ⊢
  clear hmk
  go_loopw [11] (fun i wr => ∃ (k : Nat) (us : List TV), k ≤ x.ts.length ∧ i = .int .i64 k ∧ Hid (CoAt w wr x.ts us k)) (fun i _ => x.ts.length - (intOf i).toNat)
  case atStart => exact ⟨0, [], by omega, rfl, Lib.hid HA.out.2⟩
  case round =>
    obtain ⟨k, us, hk, rfl, HC⟩ := hrel
    by_cases hlt : k < x.ts.length
    · obtain ⟨xb, xo, hxa, hxl, hxc⟩ := HA.out.1.cell hlt
      have hxc' : wr.cell? ⟨xb, xo + k, none⟩ = _ := (HC.out.below.cell (p := ⟨xb, xo + k, none⟩) hxl).trans hxc
      have hok : x.ts[k].Ok wr := (HA.out.1.at hlt).below HC.out.below
      obtain ⟨u, w5, hrun, hul, hown, hb⟩ := run_appI wr x.ts[k] hok
      have hr5 := own_below HC.out.row hb (Nat.le_refl _)
      have c5 : w5.cell? ⟨w.heap.size, k, none⟩ = some nilV := by
        rw [World.ownsRow.cellAt hr5 k (by omega), List.getElem?_append_right (by rw [vals_len, HC.out.len]; exact Nat.le_refl _), vals_len, HC.out.len, Nat.sub_self, List.getElem?_replicate, if_pos (by omega)]
      have f5 := World.ownsRow.frozenAt hr5 k
      have HN := Lib.hid (HC.out.next hlt hul hown hb)
      rw [hxa]
      clear hxc hok hr5 hul hown hb
      generalize x.ts[k] = y at hxc' hrun
      unfold nilV at c5
      go_wp2_with (at_builtin; refine wpL_appK _ rfl (.const (.slice none 0 0)) (.tmp 18) 24 rfl rfl _ _ _ _ rfl rfl hrun ?_)
      go_roundw
      case rel => exact ⟨k + 1, _, by omega, by go_num, HN⟩
      case measure => simp [intOf]; omega
    · have g0 : ¬ (k : Int) < (x.ts.length : Int) := by omega
      go_wp2_with (fail)
      go_ret
      have h := HC.out
      have hk' : k = x.ts.length := by omega
      subst hk'
      refine ⟨_, us, rfl, ⟨?_, h.tup, fun t ht => ?_, h.off⟩, ?_, h.below⟩
      · have := h.row
        rw [Nat.sub_self, List.replicate_zero, List.append_nil] at this
        unfold OwnT
        rw [h.len]
        exact this
      · have h1 := mem_tus ht
        rw [h.eq] at h1
        obtain ⟨t', ht', e⟩ := List.mem_map.1 (List.mem_of_mem_take h1)
        rw [← e]
        exact (HA.out.1.ok t' ht').sm
      · rw [h.eq, List.take_of_length_le (by rw [tus_len]; exact Nat.le_refl _)]
end Go.Proofs.Ytpfkkmfhafejfaa
