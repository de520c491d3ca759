/- between. -/
import Derived.Test.YtklhfegdjadgdaaTreJ
namespace Go.Proofs.Ytklhfegdjadgdaa
open Go.RowKit Go.Maps

theorem Prs.more {w w2 w3 : World} {base : Nat} {v v3 : Value} {P : List (Bs × Bs)} {k' x' : Bs} (h : Prs w base v P) (hb : Below w.heap.size w w2) (hk : k'.ok w2) (hx : x'.ok w2) (hka : ∀ a, k'.A = some a → base ≤ a.block) (hxa : ∀ a, x'.A = some a → base ≤ a.block) {o : Obj} (hg : (w2.alloc o).grownBy w3 v.ownBlock)
    (hrow : w3.ownsRow base 42 2 v3 (P.length + 1) (prC P ++ [.slice k'.A k'.l.length k'.c, .slice x'.A x'.l.length x'.c])) : Prs w3 base v3 (P ++ [(k', x')]) ∧ Fr w w3 v.ownBlock.toList := by
  have h2 := h.below hb
  have hf : Fr w2 w3 v.ownBlock.toList := (Fr.of_below ((Below.refl _ w2).alloc (Nat.le_refl _) o) _).trans (Fr.of_grownR hg)
  have hN := noBytes_row h2.row
  refine ⟨⟨by rw [List.length_append, ← prC_snoc P (k', x')]; exact hrow, fun p hp => ?_⟩, (Fr.of_below hb _).trans hf⟩
  rcases List.mem_append.1 hp with hp | hp
  · obtain ⟨q1, q2, q3, q4⟩ := h2.key p hp
    exact ⟨q1.fr hf hN, q2, q3.fr hf hN, q4⟩
  · rw [List.mem_singleton.1 hp]
    exact ⟨hk.fr hf hN, hka, hx.fr hf hN, hxa⟩
set_option maxRecDepth 100000 in
set_option maxHeartbeats 4000000 in
theorem between_node (bb : Nat) (k x : Bs) (l r : Tn)
    (ihl : ∀ (w : World) (base : Nat) (A : Option Addr) (c : Nat) (P : List (Bs × Bs)) (a b : Int), l.At w → Prs w base (.slice A P.length c) P → base ≤ w.heap.size → (-1000000000 + (l.num : Int) ≤ a ∧ a ≤ 4611686018427387904) → (-1000000000 + (l.num : Int) ≤ b ∧ b ≤ 4611686018427387904) → P.length + l.num ≤ 1000000 →
      Calls Try.prog 24 #[.pointer l.adr, .int .i64 a, .int .i64 b, .slice A P.length c] w (BtwPost w base (.slice A P.length c) P (cutI l.flat a b)))
    (ihr : ∀ (w : World) (base : Nat) (A : Option Addr) (c : Nat) (P : List (Bs × Bs)) (a b : Int), r.At w → Prs w base (.slice A P.length c) P → base ≤ w.heap.size → (-1000000000 + (r.num : Int) ≤ a ∧ a ≤ 4611686018427387904) → (-1000000000 + (r.num : Int) ≤ b ∧ b ≤ 4611686018427387904) → P.length + r.num ≤ 1000000 →
      Calls Try.prog 24 #[.pointer r.adr, .int .i64 a, .int .i64 b, .slice A P.length c] w (BtwPost w base (.slice A P.length c) P (cutI r.flat a b)))
    (w : World) (base : Nat) (A : Option Addr) (c : Nat) (P : List (Bs × Bs)) (a b : Int) (h : (Tn.node bb k x l r).At w) (hp : Prs w base (.slice A P.length c) P) (hB : base ≤ w.heap.size) (ha : -1000000000 + ((Tn.node bb k x l r).num : Int) ≤ a ∧ a ≤ 4611686018427387904) (hb : -1000000000 + ((Tn.node bb k x l r).num : Int) ≤ b ∧ b ≤ 4611686018427387904) (hn : P.length + (Tn.node bb k x l r).num ≤ 1000000)
    (hno : ¬ (((Tn.node bb k x l r).num : Int) ≤ a ∨ b ≤ 0)) :
    Calls Try.prog 24 #[.pointer (some ⟨bb, 0, none⟩), .int .i64 a, .int .i64 b, .slice A P.length c] w (BtwPost w base (.slice A P.length c) P (cutI (Tn.node bb k x l r).flat a b)) := by
  obtain ⟨ip, hi, hz0, hz1, hz2⟩ := info_parts infoPair
  have HI := Lib.hid (And.intro hi (And.intro hz0 (And.intro hz1 hz2)))
  obtain ⟨c0, c1, c2, c3⟩ := node_cells h
  have c4 : w.cell? ⟨bb, 4, none⟩ = some (.int .i64 ((Tn.node bb k x l r).num : Int)) := cell_of_row w bb 4 _ _ _ h.1
  have hcut := cutI_mid l.flat r.flat (k.l, x.l) a b
  rw [Tn.flat_len] at hcut
  have hpl := pairs_any l w h.2.2.2.1
  have hnum : (Tn.node bb k x l r).num = l.num + 1 + r.num := rfl
  have hcl := ihl w base A c P a b h.2.2.2.1 hp hB (by omega) (by omega) (by omega)
  obtain ⟨N, hN⟩ : ∃ N, N = (Tn.node bb k x l r).num := ⟨_, rfl⟩
  rw [← hN] at c4 ha hb hno hn hnum
  have t1 : ¬ (N : Int) ≤ a := fun h => hno (.inl h)
  have t2 : ¬ b ≤ 0 := fun h => hno (.inr h)
  obtain ⟨own, hown⟩ : ∃ own, own = l.num := ⟨_, rfl⟩
  rw [← hown] at hpl hcut hnum
  have HOWN := Lib.hid hown
  have ha1 := ha.1
  have ha2 := ha.2
  have hb1 := hb.1
  have hb2 := hb.2
  have o1 : (own : Int) ≤ 1000000 := by omega
  have o2 : (0 : Int) ≤ (own : Int) := by omega
  have o3 : (0 : Int) ≤ (N : Int) := by omega
  have HPL := Lib.hid hpl
  have HCL := Lib.hid hcl
  have HN := Lib.hid (And.intro h (And.intro hp (And.intro hB (And.intro hn (And.intro hcut hnum)))))
  have HR := Lib.hid ihr
  have hmid : (a ≤ (own : Int) ∧ (own : Int) < b) ∨ ¬ a ≤ (own : Int) ∨ (a ≤ (own : Int) ∧ ¬ (own : Int) < b) := by omega
  clear h hp hB hn hcut hnum hpl hcl ihl ihr hi hz0 hz1 hz2 hN hown hno ha hb
  go_enter Try.func24, Try.ntmps24
  go_upto_region 5 with (first
    | (go_at_call 23; (with_reducible refine HPL.out.mono ?_); rintro e w1 ⟨rfl, rfl⟩; clear HPL)
    | (go_at_call 24; (with_reducible refine HCL.out.mono ?_); rintro e w1 ⟨v1, Q1, rfl, p1, p2, p3, p4⟩; obtain ⟨P1, hP1⟩ : ∃ P1, P1 = P ++ Q1 := ⟨_, rfl⟩; rw [← hP1] at p1; have HP1 := Lib.hid hP1; clear hP1; have HQ1 := Lib.hid (And.intro p1 (And.intro p2 (And.intro p3 p4))); clear p1 p2 p3 p4 HCL))
  obtain ⟨h, hp, hB, hn, hcut, hnum⟩ := HN.out
  obtain ⟨p1, p2, p3, p4⟩ := HQ1.out
  have hN0 := noBytes_row hp.row
  have h1 := h.fr p3 hN0 (node_apart hp.row h)
  obtain ⟨A1, c1', rfl, _, _, _⟩ := own_shape p1.row
  have hbase1 : base ≤ w1.heap.size := Nat.le_trans hB p3.size
  have hq1 : Q1.length ≤ l.num := by have := congrArg List.length p2; rw [prL, List.length_map] at this; rw [this]; have := cutI_len l.flat a b; rw [Tn.flat_len] at this; exact this
  have hown := HOWN.out
  have hPl : P1.length = P.length + Q1.length := by rw [HP1.out]; exact List.length_append
  have hrest : ∀ (w2 : World) (A2 : Option Addr) (c2 : Nat) (P2 : List (Bs × Bs)), Prs w2 base (.slice A2 P2.length c2) P2 → r.At w2 → base ≤ w2.heap.size → P2.length ≤ P.length + l.num + 1 →
      Calls Try.prog 24 #[.pointer r.adr, .int .i64 (a - (own : Int) - 1), .int .i64 (b - (own : Int) - 1), .slice A2 P2.length c2] w2 (BtwPost w2 base (.slice A2 P2.length c2) P2 (cutI r.flat (a - (own : Int) - 1) (b - (own : Int) - 1))) := fun w2 A2 c2 P2 q1 q2 q3 q4 => HR.out w2 base A2 c2 P2 _ _ q2 q1 q3 (by omega) (by omega) (by omega)
  have HRE := Lib.hid hrest
  rcases hmid with ⟨m1, m2⟩ | hm
  · obtain ⟨d0, d1, d2, d3⟩ := node_cells h1
    have hpo := pairOf_any k x w1.heap.size w1.drew h1.2.1.1.1 h1.2.2.1.1.1 (Nat.le_refl _) h1.2.1.2.2.2 h1.2.2.1.2.2.2
    have HPO := Lib.hid hpo
    have H1 := Lib.hid (And.intro p1 (And.intro h1 (And.intro hbase1 (And.intro hPl hq1))))
    rw [if_pos ⟨m1, m2⟩] at hcut
    have HCUT := Lib.hid hcut
    have hlen : (P1.length + 1) * 48 ≤ 140737488355328 := by omega
    have HLEN := Lib.hid hlen
    clear h hp hB hn hcut hnum p1 p2 p3 p4 hN0 h1 hbase1 hq1 hown hPl hrest hpo hlen c0 c1 c2 c3 c4 d2 d3
    go_upto_region 6 with (fail)
    have hafter : ∀ (w2 : World) (k' x' : Bs), k'.ok w2 → x'.ok w2 → (∀ a, k'.A = some a → w1.heap.size ≤ a.block) → (∀ a, x'.A = some a → w1.heap.size ≤ a.block) → Below w1.heap.size w1 w2 →
        ∃ v3 w3, (Builtin.append_ #[34, 34] 34 #[.slice A1 P1.length c1', .slice (some ⟨w2.heap.size, 0, none⟩) 1 1]).run Try.prog (w2.alloc (.cells #[.slice k'.A k'.l.length k'.c, .slice x'.A x'.l.length x'.c] 42)) = .ok v3 w3 ∧
          Prs w3 base v3 (P1 ++ [(k', x')]) ∧ Fr w1 w3 (Value.slice A1 P1.length c1').ownBlock.toList ∧ (∀ s ∈ v3.ownBlock.toList, s ∈ (Value.slice A1 P1.length c1').ownBlock.toList ∨ w1.heap.size ≤ s) := by
      intro w2 k' x' r3 r4 r5 r6 r7
      obtain ⟨v3, w3, hrun, hown3, hg3, hat3⟩ := run_appR (P := Try.prog) (w2.alloc (.cells #[.slice k'.A k'.l.length k'.c, .slice x'.A x'.l.length x'.c] 42)) base 34 34 42 ip _ 2 48 Try.underlying34 HI.out.1 HI.out.2.1 HI.out.2.2.1 HI.out.2.2.2 rfl (by omega) (.slice A1 P1.length c1') P1.length (prC P1) (World.ownsRow.alloc (H1.out.1.below r7).row _) (w2.heap.size + 1) (some ⟨w2.heap.size, 0, none⟩) 1 1 [.slice k'.A k'.l.length k'.c, .slice x'.A x'.l.length x'.c] rfl (Rd.new w2 #[.slice k'.A k'.l.length k'.c, .slice x'.A x'.l.length x'.c] 42 (0, 0)) (by simp [Value.oneCell']) HLEN.out (by omega) (by have h8 := Nat.le_trans H1.out.2.2.1 r7.size; simp; omega)
      obtain ⟨hpm, hfm⟩ := Prs.more H1.out.1 r7 r3 r4 (fun a ha => Nat.le_trans H1.out.2.2.1 (r5 a ha)) (fun a ha => Nat.le_trans H1.out.2.2.1 (r6 a ha)) hg3 hown3
      refine ⟨v3, w3, hrun, hpm, hfm, fun s hs => ?_⟩
      rcases hat3 with e | e
      · exact .inl (by rw [← e]; exact hs)
      · rw [e] at hs; simp at hs; right; have := r7.size; omega
    have HAF := Lib.hid hafter
    clear hafter
    go_region_law (first
      | (go_simp; go_at_call 31; (with_reducible refine HPO.out.mono ?_); rintro e w2 ⟨k', x', rfl, r1, r2, r3, r4, r5, r6, r7⟩; obtain ⟨v3, w3, hrun, hpm, hfm, hat⟩ := HAF.out w2 k' x' r3 r4 r5 r6 ((Below.refl _ w1).drew.trans (r7 : Below w1.heap.size _ _)); have H2 := Lib.hid (And.intro r1 (And.intro r2 (And.intro hpm (And.intro hfm hat)))); clear r1 r2 r3 r4 r5 r6 r7 hpm hfm hat HPO; dsimp only)
      | (refine step_appK _ (by rfl) (.tmp 46) (.tmp 58) 34 rfl rfl _ _ _ _ rfl rfl hrun ?_))
    all_goals
      clear hrun d0 d1
      obtain ⟨P3, hP3⟩ : ∃ P3, P3 = P1 ++ [(k', x')] := ⟨_, rfl⟩
      have hpm := H2.out.2.2.1
      have h3 := H1.out.2.1.fr H2.out.2.2.2.1 (noBytes_row H1.out.1.row) (node_apart H1.out.1.row H1.out.2.1)
      have d3 := (node_cells h3).2.2.2
      rw [← hP3] at hpm
      have hP3l : P3.length = P1.length + 1 := by simp [hP3]
      have HP3 := Lib.hid hP3
      clear hP3
      obtain ⟨A3, c3', rfl, _, _, _⟩ := own_shape hpm.row
      have hrc := HRE.out w3 A3 c3' P3 hpm h3.2.2.2.2 (Nat.le_trans H1.out.2.2.1 H2.out.2.2.2.1.size) (by have := H1.out.2.2.2.1; have := H1.out.2.2.2.2; omega)
      have HRC := Lib.hid hrc
      clear hpm h3 hP3l hrc
      go_wp2_with (first
        | (go_at_call 24; (with_reducible refine HRC.out.mono ?_); rintro e w4 ⟨v4, Q4, rfl, s1, s2, s3, s4⟩; have H4 := Lib.hid (And.intro s1 (And.intro s2 (And.intro s3 s4))); clear s1 s2 s3 s4 HRC))
      go_ret
      obtain ⟨p1, p2, p3, p4⟩ := HQ1.out
      obtain ⟨s1, s2, s3, s4⟩ := H4.out
      obtain ⟨r1, r2, _, u2, u3⟩ := H2.out
      refine ⟨v4, Q1 ++ ([(k', x')] ++ Q4), rfl, by rw [← List.append_assoc, ← List.append_assoc, ← HP1.out, ← HP3.out]; exact s1, ?_, ?_, fun s hs => ?_⟩
      · show prL (Q1 ++ ([(k', x')] ++ Q4)) = cutI (l.flat ++ (k.l, x.l) :: r.flat) a b
        rw [HCUT.out]
        simp only [prL, List.map_append, List.map_cons, List.map_nil] at p2 s2 ⊢
        rw [p2, s2, r1, r2]
      · refine (p3.more u2 p4).more s3 (fun z hz => ?_)
        rcases u3 z hz with e | e
        · exact p4 z e
        · exact .inr (Nat.le_trans p3.size e)
      · rcases s4 s hs with h5 | h5
        · rcases u3 s h5 with e | e
          · exact p4 s e
          · exact .inr (Nat.le_trans p3.size e)
        · exact .inr (Nat.le_trans (Nat.le_trans p3.size u2.size) h5)
  · have d3 := (node_cells h1).2.2.2
    rw [if_neg (by omega)] at hcut
    have HCUT := Lib.hid hcut
    have hrc := HRE.out w1 A1 c1' P1 p1 h1.2.2.2.2 hbase1 (by omega)
    have HRC := Lib.hid hrc
    clear h hp hB hn hcut hnum p1 p2 p3 p4 hN0 h1 hbase1 hq1 hown hPl hrest hrc c0 c1 c2 c3 c4
    rcases hm with m1 | ⟨m1, m2⟩
    all_goals
      go_wp2_with (first
        | (go_at_call 24; (with_reducible refine HRC.out.mono ?_); rintro e w4 ⟨v4, Q4, rfl, s1, s2, s3, s4⟩; have H4 := Lib.hid (And.intro s1 (And.intro s2 (And.intro s3 s4))); clear s1 s2 s3 s4 HRC))
      go_ret
      obtain ⟨p1, p2, p3, p4⟩ := HQ1.out
      obtain ⟨s1, s2, s3, s4⟩ := H4.out
      refine ⟨v4, Q1 ++ Q4, rfl, by rw [← List.append_assoc, ← HP1.out]; exact s1, ?_, p3.more s3 p4, fun s hs => ?_⟩
      · show prL (Q1 ++ Q4) = cutI (l.flat ++ (k.l, x.l) :: r.flat) a b
        rw [HCUT.out]
        simp only [prL, List.map_append] at p2 s2 ⊢
        rw [p2, s2]
        rfl
      · rcases s4 s hs with h5 | h5
        · exact p4 s h5
        · exact .inr (Nat.le_trans p3.size h5)
/-- between. -/
theorem between_any (t : Tn) : ∀ (w : World) (base : Nat) (A : Option Addr) (c : Nat) (P : List (Bs × Bs)) (a b : Int), t.At w → Prs w base (.slice A P.length c) P → base ≤ w.heap.size → (-1000000000 + (t.num : Int) ≤ a ∧ a ≤ 4611686018427387904) → (-1000000000 + (t.num : Int) ≤ b ∧ b ≤ 4611686018427387904) → P.length + t.num ≤ 1000000 →
      Calls Try.prog 24 #[.pointer t.adr, .int .i64 a, .int .i64 b, .slice A P.length c] w (BtwPost w base (.slice A P.length c) P (cutI t.flat a b)) := by
  induction t with
  | nil => intro w base A c P a b h1 h2 _ _ _ _; exact between_no .nil w base A _ c P a b h1 h2 (.inl rfl)
  | node bb k x l r ihl ihr =>
    intro w base A c P a b h1 h2 h3 h4 h5 h6
    by_cases hno : ((Tn.node bb k x l r).num : Int) ≤ a ∨ b ≤ 0
    · exact between_no (.node bb k x l r) w base A _ c P a b h1 h2 (.inr hno)
    · exact between_node bb k x l r ihl ihr w base A c P a b h1 h2 h3 h4 h5 h6 hno
end Go.Proofs.Ytklhfegdjadgdaa
