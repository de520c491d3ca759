/- A step's With. -/
import Derived.Test.YtgldcahhliokeaaJoO
namespace Go.Proofs.Ytgldcahhliokeaa
open Go.RowKit Go.Maps

/-- What a call answers that makes a tuple of its own. -/
def TuPost (w : World) (l : Tu) (e : Ending) (w' : World) : Prop := ∃ u : TV, e = .returned (.slice u.A u.l.length u.c) ∧ OwnI w' w.heap.size u ∧ u.l = l ∧ Below w.heap.size w w'
theorem isNil_any (w : World) (n c : Nat) : (binOp BinOp.eql 43 (.slice none n c) (.slice none 0 0)).run Try.prog w = .ok (.bool true) w := Lib.run_eql_slice_nil w _ _ none n c 0 0 Try.underlying43
theorem notNil_any (w : World) (p : Addr) (n c : Nat) : (binOp BinOp.eql 43 (.slice (some p) n c) (.slice none 0 0)).run Try.prog w = .ok (.bool false) w := Lib.run_eql_slice_nil w _ _ (some p) n c 0 0 Try.underlying43
theorem cloneT_any (t : TV) (w : World) (ht : t.Ok w) : Calls Try.prog 96 #[.slice t.A t.l.length t.c] w (TuPost w t.l) := by
  obtain ⟨A, l, c⟩ := t
  rcases A with _ | p
  · have hl : l = [] := by
      by_cases h : l = []
      · exact h
      · obtain ⟨b, o, e, _⟩ := ht.rd (by simpa [intsV] using h)
        cases e
    subst hl
    have hn := isNil_any w 0 c
    clear ht
    go_enter Try.func96, Try.ntmps96
    go_wp2_with (fail)
    go_ret
    exact ⟨⟨none, [], 0⟩, rfl, World.ownsRow_nil _ _ _ _, rfl, Below.refl _ _⟩
  · obtain ⟨u, w', hrun, hul, ho, hb⟩ := run_appI0 w ⟨some p, l, c⟩ ht
    have hn := notNil_any w p l.length c
    have HU := Lib.hid (And.intro hul (And.intro ho hb))
    clear ht hul ho hb
    dsimp only at hrun ⊢
    go_enter Try.func96, Try.ntmps96
    go_wp2_with (at_builtin; refine wpL_appK _ rfl (.tmp 5) (.tmp 6) 43 rfl rfl _ _ _ _ rfl rfl hrun ?_)
    go_ret
    exact ⟨u, rfl, HU.out.2.1, HU.out.1, HU.out.2.2⟩
/-- append of one number to a tuple of the call's own. -/
theorem run_app1I (w : World) (lo : Nat) (u : TV) (x : Int) (h : OwnI w lo u) (hb : lo ≤ w.heap.size) (hl : u.l.length ≤ 900) :
    ∃ u' : TV, ∃ w', (Builtin.append_ #[43, 43] 43 #[.slice u.A u.l.length u.c, .slice (some ⟨w.heap.size, 0, none⟩) 1 1]).run Try.prog (w.alloc (.cells #[.int .i64 x] 3)) = .ok (.slice u'.A u'.l.length u'.c) w' ∧ u'.l = u.l ++ [x] ∧ OwnI w' lo u' ∧ Below lo w w' := by
  obtain ⟨i, hi, hz0, hz1, hz2⟩ := info_parts infoInt
  have hb4 : Below w.heap.size w (w.alloc (.cells #[.int .i64 x] 3)) := (Below.refl _ _).alloc (Nat.le_refl _) _
  have hr4 := own_below h hb4 (Nat.le_refl _)
  have hrd : Rd (w.alloc (.cells #[.int .i64 x] 3)) (w.heap.size + 1) (some ⟨w.heap.size, 0, none⟩) (intsV [x]) := Rd.new w #[.int .i64 x] 3 (0, 0)
  obtain ⟨v5, w5, hrun, g1, g2, g3⟩ := run_appR (P := Try.prog) _ lo 43 43 3 i _ 1 8 Try.underlying43 hi hz0 hz1 hz2 rfl (by omega) u.val u.l.length (intsV u.l) hr4 (w.heap.size + 1) (some ⟨w.heap.size, 0, none⟩) 1 1 (intsV [x]) rfl hrd (intsV_one _) (by omega) (by omega) (Nat.le_trans hb hb4.size)
  have e1 : intsV u.l ++ intsV [x] = intsV (u.l ++ [x]) := (List.map_append).symm
  rw [e1] at g1
  obtain ⟨A, c, rfl, _, _, _⟩ := own_shape g1
  refine ⟨⟨A, u.l ++ [x], c⟩, w5, ?_, rfl, ?_, (lower' hb4 hb).trans (grown_below' g2 (fun z hz => (World.ownsRow.lt hr4 z hz).1) (Nat.le_trans hb hb4.size))⟩
  · rw [List.length_append]
    exact hrun
  · unfold OwnI TV.val
    rw [List.length_append]
    exact g1
theorem push_yes {row : Tu} {p : Nat} {x : Int} (h : p = row.length) : push1 row p x = row ++ [x] := if_pos h
theorem push_no {row : Tu} {p : Nat} {x : Int} (h : ¬ p = row.length) : push1 row p x = row := if_neg h
set_option maxRecDepth 100000 in
set_option maxHeartbeats 2000000 in
/-- With. -/
theorem withT_any (s : Stp) (t : TV) (e : Int × Int) (w : World) (ht : t.Ok w) (hl : t.l.length ≤ 800) : Calls Try.prog 82 #[stV s, .slice t.A t.l.length t.c, enV e] w (TuPost w (withS s t.l e)) := by
  obtain ⟨x, y⟩ := e
  unfold withS enV
  dsimp only
  have hW := two_new w (.cells #[.string ⟨s.lab.toArray⟩, .int .i64 (s.fr : Int), .int .i64 (s.to : Int), .int .i64 (s.kn : Int)] 99) (.cells #[.int .i64 x, .int .i64 y] 120)
  have hb0 : Below w.heap.size w ((w.alloc (.cells #[.string ⟨s.lab.toArray⟩, .int .i64 (s.fr : Int), .int .i64 (s.to : Int), .int .i64 (s.kn : Int)] 99)).alloc (.cells #[.int .i64 x, .int .i64 y] 120)) := ((Below.refl _ _).alloc (Nat.le_refl _) _).alloc (by simp) _
  have hc := cloneT_any t _ (ht.below hb0)
  have HC := Lib.hid hc
  have HW := Lib.hid (And.intro hW hb0)
  clear hc hW hb0 ht
  generalize t.l = L at hl HC ⊢
  go_enter Try.func82, Try.ntmps82
  go_upto_region 2 with (go_at_call 96; (with_reducible refine HC.out.mono ?_); rintro e' w1 ⟨⟨uA, ul, uc⟩, rfl, o1, l1, b1⟩; dsimp only at l1; subst l1)
  have g0 := (b1.block _ (heap_lt HW.out.1.1)).trans HW.out.1.1
  have g1 := (b1.block _ (heap_lt HW.out.1.2)).trans HW.out.1.2
  have c1 := cell_of_row _ _ 1 _ _ _ g0; have c2 := cell_of_row _ _ 2 _ _ _ g0
  have d0 := cell_of_row _ _ 0 _ _ _ g1; have d1 := cell_of_row _ _ 1 _ _ _ g1
  have b1s := b1.size
  have hz0 : ((w.alloc (.cells #[.string ⟨s.lab.toArray⟩, .int .i64 (s.fr : Int), .int .i64 (s.to : Int), .int .i64 (s.kn : Int)] 99)).alloc (.cells #[.int .i64 x, .int .i64 y] 120)).heap.size = w.heap.size + 2 := by simp
  rw [hz0] at o1 b1
  have O1 := Lib.hid o1
  have S1 : Hid (w.heap.size + 2 ≤ w1.heap.size) := Lib.hid (by rw [← hz0]; exact b1s)
  have B1 := Lib.hid (HW.out.2.trans (lower' b1 (by omega)))
  clear b1 o1 HC hz0 b1s
  by_cases ha : s.fr = ul.length
  · have EA := Lib.hid (push_yes (x := x) ha)
    have haI : ((s.fr : Int) == (ul.length : Int)) = true := by rw [ha]; simp
    obtain ⟨⟨vA, vl, vc⟩, w2, vrun, ve, vo, vb⟩ := run_app1I w1 (w.heap.size + 2) ⟨uA, ul, uc⟩ x O1.out S1.out (by dsimp only; omega)
    dsimp only at ve vrun
    obtain ⟨vm, vhm⟩ : ∃ m, m = vl.length := ⟨_, rfl⟩
    rw [← vhm] at vrun
    have vml : vm = ul.length + 1 := by rw [vhm, ve]; simp
    have q0 := (vb.block _ (by omega : w.heap.size < w.heap.size + 2)).trans g0
    have q1 := (vb.block _ (by omega : w.heap.size + 1 < w.heap.size + 2)).trans g1
    have k1 := cell_of_row _ _ 1 _ _ _ q0; have k2 := cell_of_row _ _ 2 _ _ _ q0
    have p0 := cell_of_row _ _ 0 _ _ _ q1; have p1 := cell_of_row _ _ 1 _ _ _ q1
    have O2 := Lib.hid vo
    have B2 := Lib.hid (B1.out.trans (lower' vb (by omega)))
    have S2 := Lib.hid (Nat.le_trans S1.out vb.size)
    have E2 := Lib.hid (And.intro ve vhm)
    clear vo vb q0 q1 g0 g1 ha
    by_cases hb : s.to = ul.length + 1
    · have hbI : ((s.to : Int) == (vm : Int)) = true := by rw [hb, vml]; simp
      obtain ⟨⟨zA, zl, zc⟩, w3, zrun, ze, zo, zb⟩ := run_app1I w2 (w.heap.size + 2) ⟨vA, vl, vc⟩ y O2.out S2.out (by dsimp only; rw [← E2.out.2]; omega)
      dsimp only at ze zrun
      obtain ⟨zm, zhm⟩ : ∃ m, m = zl.length := ⟨_, rfl⟩
      rw [← zhm, ← E2.out.2] at zrun
      have zml : zm = vl.length + 1 := by rw [zhm, ze]; simp
      have E3 := Lib.hid (And.intro zo (And.intro (B2.out.trans (lower' zb (by omega))) (And.intro ze zhm)))
      have hb' : s.to = (ul ++ [x]).length := by rw [List.length_append]; exact hb
      have EB := Lib.hid (push_yes (x := y) hb')
      clear zo zb ze zhm hb hb' vml zml ve vhm
      go_wp2_with (first
        | (at_builtin; refine wpL_appK _ rfl (.tmp 15) (.tmp 18) 43 rfl rfl _ _ _ _ rfl rfl vrun ?_)
        | (at_builtin; refine wpL_appK _ rfl (.tmp 25) (.tmp 28) 43 rfl rfl _ _ _ _ rfl rfl zrun ?_))
      go_ret
      exact ⟨⟨zA, zl, zc⟩, by rw [E3.out.2.2.2]; rfl, own_mono E3.out.1 (by omega), by dsimp only; rw [EA.out, EB.out, E3.out.2.2.1, E2.out.1], E3.out.2.1⟩
    · have hbI : ((s.to : Int) == (vm : Int)) = false := by rw [beq_eq_false_iff_ne]; omega
      have hb' : ¬ s.to = (ul ++ [x]).length := by rw [List.length_append]; exact hb
      have EB := Lib.hid (push_no (x := y) hb')
      clear hb hb' vml ve vhm
      go_wp2_with (first
        | (at_builtin; refine wpL_appK _ rfl (.tmp 15) (.tmp 18) 43 rfl rfl _ _ _ _ rfl rfl vrun ?_)
        | (at_builtin; refine wpL_appK _ rfl (.tmp 25) (.tmp 28) 43 rfl rfl _ _ _ _ rfl rfl zrun ?_))
      go_ret
      exact ⟨⟨vA, vl, vc⟩, by rw [E2.out.2]; rfl, own_mono O2.out (by omega), by dsimp only; rw [EA.out, EB.out, E2.out.1], B2.out⟩
  · have EA := Lib.hid (push_no (x := x) ha)
    have haI : ((s.fr : Int) == (ul.length : Int)) = false := by rw [beq_eq_false_iff_ne]; omega
    clear ha
    by_cases hb : s.to = ul.length
    · have hbI : ((s.to : Int) == (ul.length : Int)) = true := by rw [hb]; simp
      obtain ⟨⟨zA, zl, zc⟩, w3, zrun, ze, zo, zb⟩ := run_app1I w1 (w.heap.size + 2) ⟨uA, ul, uc⟩ y O1.out S1.out (by dsimp only; omega)
      dsimp only at ze zrun
      obtain ⟨zm, zhm⟩ : ∃ m, m = zl.length := ⟨_, rfl⟩
      rw [← zhm] at zrun
      have zml : zm = ul.length + 1 := by rw [zhm, ze]; simp
      have E3 := Lib.hid (And.intro zo (And.intro (B1.out.trans (lower' zb (by omega))) (And.intro ze zhm)))
      have EB := Lib.hid (push_yes (x := y) hb)
      clear zo zb ze zhm hb zml g0 g1
      go_wp2_with (first
        | (at_builtin; refine wpL_appK _ rfl (.tmp 15) (.tmp 18) 43 rfl rfl _ _ _ _ rfl rfl vrun ?_)
        | (at_builtin; refine wpL_appK _ rfl (.tmp 25) (.tmp 28) 43 rfl rfl _ _ _ _ rfl rfl zrun ?_))
      go_ret
      exact ⟨⟨zA, zl, zc⟩, by rw [E3.out.2.2.2]; rfl, own_mono E3.out.1 (by omega), by dsimp only; rw [EA.out, EB.out, E3.out.2.2.1], E3.out.2.1⟩
    · have hbI : ((s.to : Int) == (ul.length : Int)) = false := by rw [beq_eq_false_iff_ne]; omega
      have EB := Lib.hid (push_no (x := y) hb)
      clear hb g0 g1
      go_wp2_with (first
        | (at_builtin; refine wpL_appK _ rfl (.tmp 15) (.tmp 18) 43 rfl rfl _ _ _ _ rfl rfl vrun ?_)
        | (at_builtin; refine wpL_appK _ rfl (.tmp 25) (.tmp 28) 43 rfl rfl _ _ _ _ rfl rfl zrun ?_))
      go_ret
      exact ⟨⟨uA, ul, uc⟩, rfl, own_mono O1.out (by omega), by dsimp only; rw [EA.out, EB.out], B1.out⟩
end Go.Proofs.Ytgldcahhliokeaa
