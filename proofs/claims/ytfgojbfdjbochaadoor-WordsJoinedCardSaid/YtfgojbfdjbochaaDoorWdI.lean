/- The document's Runes (rhizomeref08). -/
import Derived.Test.YtfgojbfdjbochaaDoorWdG
import Derived.Test.YtfgojbfdjbochaaDoorWdV
namespace Go.Proofs.YtfgojbfdjbochaaDoor
open Go.RowKit Go.Maps

/-- Runes with their places. -/
def rpl : Nat × Nat → List Nat → List (Nat × Nat × Nat)
  | _, [] => []
  | p, r :: rs => (r, p.1, p.2) :: rpl (bh p r) rs
theorem rpl_len : ∀ (rs : List Nat) (p : Nat × Nat), (rpl p rs).length = rs.length
  | [], _ => rfl
  | r :: rs, p => by simp [rpl, rpl_len rs]
def rcV (x : Nat × Nat × Nat) : List Value := [.int .i64 (x.1 : Int), .int .i64 (x.2.1 : Int), .int .i64 (x.2.2 : Int)]
def rcsV (L : List (Nat × Nat × Nat)) : List Value := L.flatMap rcV
theorem rcsV_append (L R : List (Nat × Nat × Nat)) : rcsV (L ++ R) = rcsV L ++ rcsV R := by simp [rcsV]
theorem rcsV_len (L : List (Nat × Nat × Nat)) : (rcsV L).length = L.length * 3 := by
  induction L with
  | nil => rfl
  | cons p L ih => simp only [rcsV, List.flatMap_cons] at ih ⊢; simp [ih, rcV]; omega
theorem infoRc : (Tryd.prog.info? 37).map (fun i => (i.zero, i.size, i.bytes)) = some (some (.agg #[.int .i64 0, .int .i64 0, .int .i64 0]), 3, 24) := by kernel_rfl
theorem resRunes {w : World} {b : Nat} {v0 v1 v2 : Value} (h : w.heap[b]? = some (.cells #[v0, v1, v2] 37 (0, 0))) (tmps : Array Value) (h2 : tmps.getD 3 undef = .pointer (some ⟨b, 0, none⟩)) :
    (results Tryd.f14 tmps).run Tryd.prog w = .ok (.tuple #[tmps.getD 2 undef, .agg #[v0, v1, v2], tmps.getD 4 undef]) w := by
  have e0 : w.cell? ⟨b, 0, none⟩ = some v0 := cell_of_row w b 0 _ _ _ h
  have e1 : w.cell? ⟨b, 1, none⟩ = some v1 := cell_of_row w b 1 _ _ _ h
  have e2 : w.cell? ⟨b, 2, none⟩ = some v2 := cell_of_row w b 2 _ _ _ h
  have h2' := h2
  simp only [Array.getD_eq_getD_getElem?] at h2'
  simp [results, Tryd.results14, go_sem, h2', e0, e1, e2]
theorem set3 {w : World} {b : Nat} {t : TypeId} {x0 x1 x2 : Value} (h : w.heap[b]? = some (.cells #[x0, x1, x2] t (0, 0))) (v0 v1 v2 : Value) :
    (((w.setCell ⟨b, 0, none⟩ v0).setCell ⟨b, 1, none⟩ v1).setCell ⟨b, 2, none⟩ v2).heap[b]? = some (.cells #[v0, v1, v2] t (0, 0)) := by
  have h1 := heap_setCell_same w b 0 #[x0, x1, x2] t v0 h
  have h2 := heap_setCell_same _ b 1 _ t v1 h1
  have h3 := heap_setCell_same _ b 2 _ t v2 h2
  simpa using h3
/-- append of a rune. -/
theorem app_rune {W : World} {base : Nat} {A : Option Addr} {c : Nat} {L : List (Nat × Nat × Nat)} (hown : W.ownsRow base 37 3 (.slice A L.length c) L.length (rcsV L)) (x : Nat × Nat × Nat) (hB : base ≤ W.heap.size) (hn : L.length ≤ 1000000) :
    ∃ (A' : Option Addr) (c' : Nat) (w' : World), (Builtin.append_ #[35, 35] 35 #[.slice A L.length c, .slice (some ⟨W.heap.size, 0, none⟩) 1 1]).run Tryd.prog (W.alloc (.cells #[.int .i64 (x.1 : Int), .int .i64 (x.2.1 : Int), .int .i64 (x.2.2 : Int)] 37)) = .ok (.slice A' (L.length + 1) c') w' ∧
      w'.ownsRow base 37 3 (.slice A' (L.length + 1) c') (L.length + 1) (rcsV (L ++ [x])) ∧ Below base W w' := by
  obtain ⟨i, hi, hz0, hz1, hz2⟩ := info_parts infoRc
  have hb : Below base W (W.alloc (.cells #[.int .i64 (x.1 : Int), .int .i64 (x.2.1 : Int), .int .i64 (x.2.2 : Int)] 37)) := (Below.refl _ _).alloc hB _
  obtain ⟨v', w', hrun, h1, h2, h3⟩ := run_appR (P := Tryd.prog) (W.alloc (.cells #[.int .i64 (x.1 : Int), .int .i64 (x.2.1 : Int), .int .i64 (x.2.2 : Int)] 37)) base 35 35 37 i _ 3 24 Tryd.underlying35 hi hz0 hz1 hz2 rfl (by omega) (.slice A L.length c) L.length (rcsV L) (World.ownsRow.alloc hown _) (W.heap.size + 1) (some ⟨W.heap.size, 0, none⟩) 1 1 (rcV x) rfl (Rd.new W #[.int .i64 (x.1 : Int), .int .i64 (x.2.1 : Int), .int .i64 (x.2.2 : Int)] 37 (0, 0)) (by simp [rcV, Value.oneCell']) (by omega) (by omega) (by simp; omega)
  obtain ⟨A', c', rfl, _, _, _⟩ := own_shape h1
  refine ⟨A', c', w', hrun, ?_, hb.trans (grown_below' h2 (fun z hz => (World.ownsRow.lt hown z hz).1) (by simp; omega))⟩
  rw [rcsV_append]
  have : rcsV [x] = rcV x := by simp [rcsV]
  rw [this]
  exact h1
theorem wpL_appK {ops : Array Oper} {rest : List Oper} {o : Oper} {a : Act} {Q : Exit → Act → World → Prop} (w : World) (hgd : o.guard = none) (s x : Operand) (t : TypeId)
    (ho : o.op = .call { callee := .builtin .append, args := #[s, x], argTypes := #[t, t] }) (hty : o.type = t) (v y v' : Value) (w' : World) (hs : a.eval s = v) (hx : a.eval x = y)
    (hrun : (Builtin.append_ #[t, t] t #[v, y]).run Tryd.prog w = .ok v' w') (h : wpList Tryd.prog ops Q rest (a.put o.dst v') w') : wpList Tryd.prog ops Q (o :: rest) a w := by
  refine wpList_plain hgd fun K hK => ?_
  exact step_appK' w s x t ho hty v y v' w' hs hx hrun (hK _ _ h)
/-- What Runes answers. -/
def RunesPost (w : World) (l : List UInt8) (e : Ending) (w' : World) : Prop :=
  ∃ A c, e = .returned (.tuple #[.slice A (rpl (1, 1) (rns l)).length c, .agg #[.int .i64 0, .int .i64 ((plc (1, 1) (rns l)).1 : Int), .int .i64 ((plc (1, 1) (rns l)).2 : Int)], .bool (Lib.validD l)]) ∧
    w'.ownsRow w.heap.size 37 3 (.slice A (rpl (1, 1) (rns l)).length c) (rpl (1, 1) (rns l)).length (rcsV (rpl (1, 1) (rns l))) ∧ Below w.heap.size w w'
theorem valid_bad (s : ByteArray) (pos : Nat) (h : pos < s.size) (hb : (Utf8.decode s pos).1 = 65533 ∧ (Utf8.decode s pos).2 = 1) : Lib.validD (s.data.toList.drop pos) = false := by
  rw [Lib.validD_step _ (drop_ne s pos h), Lib.decodeL_drop, if_pos hb]
theorem valid_good (s : ByteArray) (pos : Nat) (h : pos < s.size) (hb : ¬ ((Utf8.decode s pos).1 = 65533 ∧ (Utf8.decode s pos).2 = 1)) : Lib.validD (s.data.toList.drop pos) = Lib.validD (s.data.toList.drop (pos + (Utf8.decode s pos).2)) := by
  rw [Lib.validD_step _ (drop_ne s pos h), Lib.decodeL_drop, if_neg hb, List.drop_drop]
set_option maxRecDepth 100000 in
set_option maxHeartbeats 4000000 in
theorem refRunes_any (s : ByteArray) (w : World) (hs : s.size ≤ 100000) :
    Calls Tryd.prog 14 #[.string s] w fun e w' => RunesPost w s.data.toList e w' := by
  obtain ⟨Q, hQ⟩ : ∃ Q : Ending → World → Prop, Q = fun e w' => RunesPost w s.data.toList e w' := ⟨_, rfl⟩
  rw [← hQ]
  have HQ := Lib.hid hQ
  clear hQ
  obtain ⟨Y, hY⟩ : ∃ Y, Y = rpl (1, 1) (rns s.data.toList) := ⟨_, rfl⟩
  obtain ⟨X, hX⟩ : ∃ X, X = plc (1, 1) (rns s.data.toList) := ⟨_, rfl⟩
  obtain ⟨V, hV⟩ : ∃ V, V = Lib.validD s.data.toList := ⟨_, rfl⟩
  have HQ2 : Hid (∀ A c w', w'.ownsRow w.heap.size 37 3 (.slice A Y.length c) Y.length (rcsV Y) → Below w.heap.size w w' → Q (.returned (.tuple #[.slice A Y.length c, .agg #[.int .i64 0, .int .i64 (X.1 : Int), .int .i64 (X.2 : Int)], .bool V])) w') := Lib.hid (fun A c w' h1 h2 => by
    rw [HQ.out]
    refine ⟨A, c, ?_, ?_, h2⟩
    · rw [hY, hX, hV]
    · rw [← hY]; exact h1)
  have HYX := Lib.hid (And.intro hY (And.intro hX hV))
  have HR := Lib.hid (fun i W => refRune_any s i W (by omega))
  clear hY hX hV HQ
  have hs0 := heap_alloc_new w (.cells #[.int .i64 0, .int .i64 0, .int .i64 0] 37)
  obtain ⟨u0, u1⟩ := two_new w (.cells #[.int .i64 0, .int .i64 0, .int .i64 0] 37) (.cells #[.int .i64 0, .int .i64 1, .int .i64 1] 37)
  have hbb : Below w.heap.size w ((w.alloc (.cells #[.int .i64 0, .int .i64 0, .int .i64 0] 37)).alloc (.cells #[.int .i64 0, .int .i64 1, .int .i64 1] 37)) := ((Below.refl _ _).alloc (Nat.le_refl _) _).alloc (by simp) _
  have hzz : ((w.alloc (.cells #[.int .i64 0, .int .i64 0, .int .i64 0] 37)).alloc (.cells #[.int .i64 0, .int .i64 1, .int .i64 1] 37)).heap.size = w.heap.size + 2 := by simp
  clear hs0
  go_enter Tryd.func14, Tryd.ntmps14
  go_upto_region 3 with (fail)
  obtain ⟨n, hn⟩ : ∃ n, n = w.heap.size := ⟨_, rfl⟩
  rw [← hn] at u0 u1 hzz ⊢
  generalize ((w.alloc (.cells #[.int .i64 0, .int .i64 0, .int .i64 0] 37)).alloc (.cells #[.int .i64 0, .int .i64 1, .int .i64 1] 37)) = W at u0 u1 hbb hzz ⊢
  have HN := Lib.hid hn
  have hbn : Below n w W := by rw [hn]; exact hbb
  clear hbb hn
  go_wp2_with (fail)
  go_loopw [5, 7] (fun ov iv wr => ∃ (pos : Nat) (O : List (Nat × Nat × Nat)) (p : Nat × Nat) (Ao : Option Addr) (co : Nat), iv = .int .i64 (pos : Int) ∧ ov = .slice Ao O.length co ∧ wr.ownsRow (n + 2) 37 3 (.slice Ao O.length co) O.length (rcsV O) ∧
      wr.heap[n]? = some (.cells #[.int .i64 0, .int .i64 0, .int .i64 0] 37 (0, 0)) ∧ wr.heap[n + 1]? = some (.cells #[.int .i64 0, .int .i64 (p.1 : Int), .int .i64 (p.2 : Int)] 37 (0, 0)) ∧ Below n w wr ∧
      O ++ rpl p (rns (s.data.toList.drop pos)) = Y ∧ plc p (rns (s.data.toList.drop pos)) = X ∧ Lib.validD (s.data.toList.drop pos) = V ∧ pos ≤ s.size ∧ O.length ≤ pos ∧ p.1 + p.2 ≤ 2 + pos ∧ 1 ≤ p.2 ∧ n + 2 ≤ wr.heap.size)
    (fun _ iv _ => s.size - (intOf iv).toNat)
  case atStart => exact ⟨0, [], (1, 1), none, 0, rfl, rfl, World.ownsRow_nil _ _ _ _, u0, u1, hbn, by rw [List.drop_zero]; exact HYX.out.1.symm, by rw [List.drop_zero]; exact HYX.out.2.1.symm, by rw [List.drop_zero]; exact HYX.out.2.2.symm, by omega, by simp, by simp, by simp, by omega⟩
  case round =>
    clear u0 u1 hbn hzz HYX
    obtain ⟨pos, O, p, Ao, co, rfl, rfl, hown, h3, h6, hbl, hY, hX, hV, hps, hO, hsm, hp1, hsz⟩ := hrel
    have p0 := cell_of_row wr (n + 1) 0 _ _ _ h6
    have p1 := cell_of_row wr (n + 1) 1 _ _ _ h6
    have p2 := cell_of_row wr (n + 1) 2 _ _ _ h6
    have f1 := frozen_of_row wr (n + 1) 1 _ _ h6
    have f2 := frozen_of_row wr (n + 1) 2 _ _ h6
    have r0 := cell_of_row wr n 0 _ _ _ h3
    have r1 := cell_of_row wr n 1 _ _ _ h3
    have r2 := cell_of_row wr n 2 _ _ _ h3
    have g0 := frozen_of_row wr n 0 _ _ h3
    have g1 := frozen_of_row wr n 1 _ _ h3
    have g2 := frozen_of_row wr n 2 _ _ h3
    have hfin : ∀ A c w', w'.ownsRow (n + 2) 37 3 (.slice A Y.length c) Y.length (rcsV Y) → Below n w w' → Q (.returned (.tuple #[.slice A Y.length c, .agg #[.int .i64 0, .int .i64 (X.1 : Int), .int .i64 (X.2 : Int)], .bool V])) w' := fun A c w' a1 a2 => HQ2.out A c w' (own_mono a1 (by have := HN.out; omega)) (by rw [← HN.out]; exact a2)
    have hdone : ∀ wz : World, ((wz.heap = (((wr.setCell ⟨n, 0, none⟩ (.int .i64 0)).setCell ⟨n, 1, none⟩ (.int .i64 (p.1 : Int))).setCell ⟨n, 2, none⟩ (.int .i64 (p.2 : Int))).heap ∧ wz.os = wr.os ∧ wz.tape = wr.tape ∧ wz.output = wr.output)) →
        wz.heap[n]? = some (.cells #[.int .i64 0, .int .i64 (p.1 : Int), .int .i64 (p.2 : Int)] 37 (0, 0)) ∧ wz.ownsRow (n + 2) 37 3 (.slice Ao O.length co) O.length (rcsV O) ∧ Below n w wz := by
      rintro wz ⟨z1, z2, z3, z4⟩
      have hfr : Fr wr wz [n] := ⟨z2, z3, z4, by rw [z1]; simp, fun k _ hk => by
        rw [z1]
        have hk' : k ≠ n := by simpa using hk
        exact (Below.heap_setCell _ _ _ _ hk').trans ((Below.heap_setCell _ _ _ _ hk').trans (Below.heap_setCell _ _ _ _ hk'))⟩
      refine ⟨by rw [z1]; exact set3 h3 _ _ _, own_keptBy (g := n) hown (grown_of_fr hfr) (by omega), hbl.trans (hfr.below (by omega) (by simp))⟩
    have HD := Lib.hid hdone
    have HFIN := Lib.hid hfin
    clear hdone hfin
    by_cases hp : pos < s.size
    · have hpI : (pos : Int) < (s.size : Int) := by omega
      have hrd := rune_dec s pos hp
      have hr := fun W => HR.out pos W
      have hwd := Lib.decode_width_pos s pos hp
      have hd1 : pos + (Utf8.decode s pos).2 ≤ s.size := by
        have := Lib.decodeL_le (s.data.toList.drop pos) (drop_ne s pos hp)
        rw [Lib.decodeL_drop, List.length_drop] at this
        have hl : s.data.toList.length = s.size := Array.length_toList
        omega
      rcases hrd with ⟨e1, e2⟩ | ⟨e2, e1⟩
      · have hb : (Utf8.decode s pos).1 = 65533 ∧ (Utf8.decode s pos).2 = 1 := by rw [e1]; exact ⟨rfl, rfl⟩
        rw [rns_bad_at s pos hp hb] at hY hX
        rw [valid_bad s pos hp hb] at hV
        rw [e2] at hr
        have HRR := Lib.hid hr
        have HE := Lib.hid (And.intro hY (And.intro hX hV))
        clear hr hY hX hV hb e1 e2 hwd hd1 hown h3 h6 hbl
        go_wp2_with (go_at_call 23; (with_reducible refine (HRR.out _).mono ?_); rintro e w' ⟨rfl, rfl⟩)
        go_region_with (fail)
        all_goals
          go_wp2_with (fail)
          obtain ⟨d1, d2, d3⟩ := HD.out ((((wr.setCell ⟨n, 0, none⟩ (.int .i64 0)).setCell ⟨n, 1, none⟩ (.int .i64 (p.1 : Int))).setCell ⟨n, 2, none⟩ (.int .i64 (p.2 : Int))).drew) ⟨rfl, rfl, rfl, rfl⟩
          have hY2 : O = Y := by rw [← HE.out.1]; simp [rpl]
          have hX2 : p = X := HE.out.2.1
          have hV2 : false = V := HE.out.2.2
          subst hY2 hX2 hV2
          exact bodyPost_ret (resRunes d1 _ rfl) rfl (HFIN.out Ao co _ d2 d3)
      · rw [rns_cons_at s pos hp e1] at hY hX
        rw [valid_good s pos hp e1] at hV
        rw [e2] at hr
        obtain ⟨⟨r, d⟩, hrd⟩ : ∃ x, x = Utf8.decode s pos := ⟨_, rfl⟩
        rw [← hrd] at hY hX hV hr hwd hd1 e1
        simp only at hY hX hV hr hwd hd1 e1
        have hdb : ((d : Int) == 0) = false := by rw [beq_eq_false_iff_ne]; omega
        have hbp := bh_le p r (2 + pos) hsm hp1
        have hcol : (p.2 : Int) + 1 ≤ 1000000 := by omega
        have hlin : (p.1 : Int) + 1 ≤ 1000000 := by omega
        obtain ⟨A', c', w3, hrun, hown3, hb3⟩ := app_rune hown (r, p.1, p.2) (by omega) (by omega)
        simp only at hrun
        have q3 := (hb3.block n (by omega)).trans h3
        have q6 := (hb3.block (n + 1) (by omega)).trans h6
        have hb3n : Below n w w3 := hbl.trans (lower' hb3 (by omega))
        have HRR := Lib.hid hr
        rw [rpl] at hY
        have HE := Lib.hid (And.intro hY (And.intro hX (And.intro hV (And.intro hd1 (And.intro hwd (And.intro hbp hO))))))
        have HW := Lib.hid (And.intro q3 (And.intro q6 (And.intro hb3n (And.intro hown3 hb3.size))))
        have c1 := cell_of_row w3 (n + 1) 1 _ _ _ q6
        have c2 := cell_of_row w3 (n + 1) 2 _ _ _ q6
        have k1 := frozen_of_row w3 (n + 1) 1 _ _ q6
        have k2 := frozen_of_row w3 (n + 1) 2 _ _ q6
        clear hr hY hX hV e1 e2 hwd hd1 hown h3 h6 hbl hrd q3 q6 hb3n hown3 hb3 r0 r1 r2 g0 g1 g2 f1 f2 hsm hp1 hbp
        have hpd : (pos : Int) + (d : Int) ≤ 100000 := by have := HE.out.2.2.2.1; omega
        have hpd0 : (0 : Int) ≤ (pos : Int) + (d : Int) := by omega
        go_upto_region 8 with (go_at_call 23; (with_reducible refine (HRR.out _).mono ?_); rintro e w' ⟨rfl, rfl⟩)
        clear HRR HR HD HFIN
        go_upto_region 9 with (at_builtin; refine wpL_appK _ rfl (.tmp 25) (.tmp 32) 35 rfl rfl _ _ _ _ rfl rfl hrun ?_)
        clear hrun p0 p1 p2
        have hall : ∀ wz : World, Fr w3 wz [n + 1] → wz.heap[n + 1]? = some (.cells #[.int .i64 0, .int .i64 ((bh p r).1 : Int), .int .i64 ((bh p r).2 : Int)] 37 (0, 0)) →
            ∃ (pos' : Nat) (O' : List (Nat × Nat × Nat)) (p' : Nat × Nat) (Ao' : Option Addr) (co' : Nat), (Value.int .i64 ((pos : Int) + (d : Int))) = .int .i64 (pos' : Int) ∧ (Value.slice A' (O.length + 1) c') = .slice Ao' O'.length co' ∧ wz.ownsRow (n + 2) 37 3 (.slice Ao' O'.length co') O'.length (rcsV O') ∧
      wz.heap[n]? = some (.cells #[.int .i64 0, .int .i64 0, .int .i64 0] 37 (0, 0)) ∧ wz.heap[n + 1]? = some (.cells #[.int .i64 0, .int .i64 (p'.1 : Int), .int .i64 (p'.2 : Int)] 37 (0, 0)) ∧ Below n w wz ∧
      O' ++ rpl p' (rns (s.data.toList.drop pos')) = Y ∧ plc p' (rns (s.data.toList.drop pos')) = X ∧ Lib.validD (s.data.toList.drop pos') = V ∧ pos' ≤ s.size ∧ O'.length ≤ pos' ∧ p'.1 + p'.2 ≤ 2 + pos' ∧ 1 ≤ p'.2 ∧ n + 2 ≤ wz.heap.size := by
          intro wz hf hz
          obtain ⟨e1, e2, e3, e4, e5, e6, e7⟩ := HE.out
          obtain ⟨y1, y2, y3, y4, y5⟩ := HW.out
          have hl : (O ++ [(r, p.1, p.2)]).length = O.length + 1 := by simp
          refine ⟨pos + d, O ++ [(r, p.1, p.2)], bh p r, A', c', by simp, by rw [hl], ?_, (hf.block n (heap_lt y1) (by simp)).trans y1, hz, y3.trans (hf.below (by have := y3.size; have := heap_lt y1; omega) (by simp)), by rw [List.append_assoc]; exact e1, by rw [← e2]; rfl, e3, e4, by rw [hl]; omega, by have := e6.1; omega, e6.2, by have := hf.size; omega⟩
          rw [hl]
          exact own_keptBy (g := n + 1) y4 (grown_of_fr hf) (by omega)
        have HALL := Lib.hid hall
        have hmea : s.size - (pos + d) < s.size - pos := by have := HE.out.2.2.2.2.1; omega
        have HM := Lib.hid hmea
        clear hall hmea
        have q6 := HW.out.2.1
        by_cases h10 : r = 10
        · have hrb : ((r : Int) == 10) = true := beq_iff_eq.2 (by omega)
          have hX : Hid (Fr w3 (((w3.setCell ⟨n + 1, 2, none⟩ (.int .i64 ((p.2 : Int) + 1))).setCell ⟨n + 1, 1, none⟩ (.int .i64 ((p.1 : Int) + 1))).setCell ⟨n + 1, 2, none⟩ (.int .i64 1)) [n + 1] ∧ (((w3.setCell ⟨n + 1, 2, none⟩ (.int .i64 ((p.2 : Int) + 1))).setCell ⟨n + 1, 1, none⟩ (.int .i64 ((p.1 : Int) + 1))).setCell ⟨n + 1, 2, none⟩ (.int .i64 1)).heap[n + 1]? = some (.cells #[.int .i64 0, .int .i64 ((bh p r).1 : Int), .int .i64 ((bh p r).2 : Int)] 37 (0, 0))) := Lib.hid (by
            refine ⟨(((Fr.refl _ _).setCell (by simp) _).setCell (by simp) _).setCell (by simp) _, ?_⟩
            have a1 := heap_setCell_same w3 (n + 1) 2 _ _ (.int .i64 ((p.2 : Int) + 1)) q6
            have a2 := heap_setCell_same _ (n + 1) 1 _ _ (.int .i64 ((p.1 : Int) + 1)) a1
            have a3 := heap_setCell_same _ (n + 1) 2 _ _ (.int .i64 1) a2
            have hb : bh p r = (p.1 + 1, 1) := if_pos h10
            rw [hb]
            simpa using a3)
          clear q6 h10
          go_wp2_with (fail)
          exact ⟨HALL.out _ hX.out.1 hX.out.2, by simp [intOf]; have := HM.out; omega⟩
        · have hrb : ((r : Int) == 10) = false := by rw [beq_eq_false_iff_ne]; omega
          have hX : Hid (Fr w3 (w3.setCell ⟨n + 1, 2, none⟩ (.int .i64 ((p.2 : Int) + 1))) [n + 1] ∧ (w3.setCell ⟨n + 1, 2, none⟩ (.int .i64 ((p.2 : Int) + 1))).heap[n + 1]? = some (.cells #[.int .i64 0, .int .i64 ((bh p r).1 : Int), .int .i64 ((bh p r).2 : Int)] 37 (0, 0))) := Lib.hid (by
            refine ⟨(Fr.refl _ _).setCell (by simp) _, ?_⟩
            have a1 := heap_setCell_same w3 (n + 1) 2 _ _ (.int .i64 ((p.2 : Int) + 1)) q6
            have hb : bh p r = (p.1, p.2 + 1) := if_neg h10
            rw [hb]
            simpa using a1)
          clear q6 h10
          go_wp2_with (fail)
          exact ⟨HALL.out _ hX.out.1 hX.out.2, by simp [intOf]; have := HM.out; omega⟩
    · obtain rfl : pos = s.size := by omega
      rw [drop_end s _ (Nat.le_refl _), rns_nil] at hY hX
      rw [drop_end s _ (Nat.le_refl _)] at hV
      have HE := Lib.hid (And.intro hY (And.intro hX hV))
      clear hY hX hV hown h3 h6 hbl
      go_wp2_with (fail)
      go_region_with (fail)
      all_goals
        go_wp2_with (fail)
        obtain ⟨d1, d2, d3⟩ := HD.out ((((wr.setCell ⟨n, 0, none⟩ (.int .i64 0)).setCell ⟨n, 1, none⟩ (.int .i64 (p.1 : Int))).setCell ⟨n, 2, none⟩ (.int .i64 (p.2 : Int))).drew) ⟨rfl, rfl, rfl, rfl⟩
        have hY2 : O = Y := by rw [← HE.out.1]; simp [rpl]
        have hX2 : p = X := HE.out.2.1
        have hV2 : true = V := HE.out.2.2
        subst hY2 hX2 hV2
        exact bodyPost_ret (resRunes d1 _ rfl) rfl (HFIN.out Ao co _ d2 d3)
end Go.Proofs.YtfgojbfdjbochaaDoor
