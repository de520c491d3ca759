/- Joined: SpV SpWy. -/
import Derived.Test.YtgjjdmkoamjdpaaSpU
import Derived.Test.YtgjjdmkoamjdpaaJnG
import Derived.Test.YtgjjdmkoamjdpaaJnE
import Derived.Test.YtgjjdmkoamjdpaaJnB
import Derived.Test.YtgjjdmkoamjdpaaJnK
/- The span as a list; span.Pairs. -/
namespace Go.Proofs.Ytgjjdmkoamjdpaa
open Go.RowKit Go.Maps Go.Sort

theorem nodup_tupN {x : RV} {E : List Pr} (h : Rdy x E) {Q : List (Nat × Nat)} (hn : Q.Nodup) (hm : ∀ p q, (p, q) ∈ Q → p < x.N.length ∧ Lead (AtR (plR x.o.ts)) p q) : (Q.map (tupN x.N)).Nodup ∧ ∀ t ∈ Q.map (tupN x.N), t ∈ spanL E := by
  have hb : ∀ p q, (p, q) ∈ Q → p < x.N.length ∧ q < x.N.length := fun p q hz => by
    have h1 := hm p q hz
    obtain ⟨c, hc⟩ := h1.2.last
    exact ⟨h1.1, ((h.roads.out c q).1 hc).2.1⟩
  refine ⟨?_, fun t ht => ?_⟩
  · rw [List.Nodup, List.pairwise_map]
    refine List.Pairwise.imp_of_mem (fun {a b} ha hb' hne e => ?_) hn
    obtain ⟨p, q⟩ := a
    obtain ⟨p', q'⟩ := b
    unfold tupN at e
    injection e with e1 e2
    injection e2 with e2
    have h1 := hb _ _ ha
    have h2 := hb _ _ hb'
    exact hne (by rw [h.roads.inj h1.1 h2.1 e1, h.roads.inj h1.2 h2.2 e2])
  · obtain ⟨⟨p, q⟩, hz, rfl⟩ := List.mem_map.1 ht
    have h1 := hb _ _ hz
    exact mem_spanL.2 ⟨_, _, rfl, (h.roads.lead h1.1 h1.2).1 (hm _ _ hz).2⟩
theorem span_all {x : RV} {E : List Pr} (h : Rdy x E) {Q : List (Nat × Nat)} (ha : ∀ p q, p < x.N.length → Lead (AtR (plR x.o.ts)) p q → (p, q) ∈ Q) : ∀ t ∈ spanL E, t ∈ Q.map (tupN x.N) := by
  intro t ht
  obtain ⟨a, b, rfl, hl⟩ := mem_spanL.1 ht
  obtain ⟨h1, h2⟩ := h.roads.ends hl
  obtain ⟨p, hp, rfl⟩ := h.roads.place h1
  obtain ⟨q, hq, rfl⟩ := h.roads.place h2
  exact List.mem_map.2 ⟨(p, q), ha p q hp ((h.roads.lead hp hq).2 hl), rfl⟩
/-- What the pairs come to. -/
theorem span_eq {x : RV} {E : List Pr} (h : Rdy x E) {Q : List (Nat × Nat)} (hn : Q.Nodup) (hm : ∀ p q, (p, q) ∈ Q → p < x.N.length ∧ Lead (AtR (plR x.o.ts)) p q) (ha : ∀ p q, p < x.N.length → Lead (AtR (plR x.o.ts)) p q → (p, q) ∈ Q) : setL (Q.map (tupN x.N)) = spanL E ∧ (spanL E).length = Q.length := by
  obtain ⟨h1, h2⟩ := nodup_tupN h hn hm
  have h3 := span_all h ha
  refine ⟨ris_ext (ris_set _) (ris_spanL E) fun q => by rw [mem_set]; exact ⟨h2 q, h3 q⟩, ?_⟩
  have e1 := nodup_len h1 h2
  have e2 := nodup_len (nodup_ris (ris_spanL E)) h3
  rw [List.length_map] at e1 e2
  omega
noncomputable def pairsC (lab : Nm) (E : List Pr) : Int := if isNm lab = false then 1 else if 4000 < (spanL E).length then 5 else 0
noncomputable def pairsR (lab : Nm) (E : List Pr) : List Tu := if isNm lab = false then [] else if 4000 < (spanL E).length then [] else spanL E
def PsPost (w : World) (c : Int) (R : List Tu) (e : Ending) (w' : World) : Prop := ∃ x : LV, e = .returned (.tuple #[.slice x.A x.ts.length x.c, .int .i64 c]) ∧ OwnL w' w.heap.size x.val x.ts ∧ x.Ok w' ∧ tus x.ts = R ∧ Below w.heap.size w w' ∧ (c ≠ 0 → x = ⟨none, [], 0⟩)
theorem psNone (w w' : World) (c : Int) (hb : Below w.heap.size w w') : PsPost w c [] (.returned (.tuple #[.slice none 0 0, .int .i64 c])) w' :=
  ⟨⟨none, [], 0⟩, rfl, ⟨World.ownsRow_nil _ _ _ _, (fun _ h => nomatch h), (fun _ h => nomatch h), List.Pairwise.nil⟩, ⟨fun h => absurd rfl h, (fun _ h => nomatch h), Nat.le_refl _, Nat.zero_le _⟩, rfl, hb, fun _ => rfl⟩
set_option maxRecDepth 100000 in
set_option maxHeartbeats 4000000 in
theorem Pairs_any (lab : Nm) (A : Option Addr) (c : Nat) (es : List Ed) (w : World) (h : Es w A c es) : Calls Try.prog 8 #[.string ⟨lab.toArray⟩, .slice A es.length c] w (PsPost w (pairsC lab (prsL lab es)) (pairsR lab (prsL lab es))) := by
  have his := is_any lab w
  have hro := roadsOf_any lab A c es w h
  have hsm := h.sm
  clear h
  by_cases hn : isNm lab = false
  · rw [hn] at his
    have HI := Lib.hid his
    have HE := Lib.hid (show pairsC lab (prsL lab es) = 1 ∧ pairsR lab (prsL lab es) = [] from ⟨if_pos hn, if_pos hn⟩)
    clear his hro hn
    go_enter Try.func8, Try.ntmps8
    go_wp2_with (go_at_call 10; (with_reducible refine HI.out.mono ?_); rintro e w1 ⟨rfl, rfl⟩)
    go_ret2
    rw [HE.out.1, HE.out.2]
    exact psNone w w 1 (Below.refl _ _)
  · have hn' : isNm lab = true := by simpa using hn
    rw [hn'] at his
    have HI := Lib.hid his
    have HRO := Lib.hid hro
    have HL := Lib.hid (And.intro hn hsm)
    clear his hro hn hn' hsm
    go_enter Try.func8, Try.ntmps8
    go_upto_region 4 with (first
      | (go_at_call 10; (with_reducible refine HI.out.mono ?_); rintro e w1 ⟨rfl, rfl⟩)
      | (go_at_call 11; (with_reducible refine HRO.out.mono ?_); rintro e w2 ⟨x, rfl, x2, n2, o2, i2, b2⟩; have R2 := Lib.hid (And.intro x2 (And.intro (rdy_of HL.out.2 n2 o2 i2) b2)); clear x2 n2 o2 i2 b2; have HP := Lib.hid (pairs_any x _ w2 R2.out.1 R2.out.2.1))
      | (go_at_call 17; (with_reducible refine HP.out.mono ?_); rintro e w3 ⟨y, Q, rfl, y3, t3, n3, m3, l3, a3, b3⟩; have R3 := Lib.hid (And.intro y3 (And.intro t3 (And.intro n3 (And.intro m3 (And.intro l3 (And.intro a3 (R2.out.2.2.trans (lower' b3 R2.out.2.2.size)))))))); clear y3 t3 n3 m3 l3 a3 b3))
    clear HI HRO HP
    have hyl : y.ts.length = Q.length := by have := congrArg List.length R3.out.2.1; rw [tus_len, List.length_map] at this; exact this
    by_cases hq : Q.length ≤ 4000
    · have hqI : ¬ (4000 : Int) < (y.ts.length : Int) := by omega
      obtain ⟨hs1, hs2⟩ := span_eq R2.out.2.1 R3.out.2.2.1 R3.out.2.2.2.1 (R3.out.2.2.2.2.2.1 hq)
      have hset := set_l y w3 R3.out.1
      rw [R3.out.2.1, hs1] at hset
      have HS := Lib.hid hset
      have HE := Lib.hid (show pairsC lab (prsL lab es) = 0 ∧ pairsR lab (prsL lab es) = spanL (prsL lab es) from by
        unfold pairsC pairsR
        rw [if_neg HL.out.1, if_neg HL.out.1, if_neg (by omega), if_neg (by omega)]
        exact ⟨rfl, rfl⟩)
      clear hs1 hs2 hset hq hyl
      go_wp2_with (go_at_call 18; (with_reducible refine HS.out.mono ?_); rintro e w4 ⟨z, rfl, o4, z4, t4, b4⟩; have R4 := Lib.hid (And.intro o4 (And.intro z4 (And.intro t4 b4))); clear o4 z4 t4 b4)
      go_ret2
      rw [HE.out.1, HE.out.2]
      have hb := R3.out.2.2.2.2.2.2
      exact ⟨z, rfl, ⟨own_mono R4.out.1.row hb.size, fun t ht => own_mono (R4.out.1.tup t ht) hb.size, R4.out.1.sm, R4.out.1.off⟩, R4.out.2.1, R4.out.2.2.1, hb.trans (lower' R4.out.2.2.2 hb.size), fun h => absurd rfl h⟩
    · have hqI : (4000 : Int) < (y.ts.length : Int) := by omega
      obtain ⟨h1, h2⟩ := nodup_tupN R2.out.2.1 R3.out.2.2.1 R3.out.2.2.2.1
      have h3 := nodup_len h1 h2
      rw [List.length_map] at h3
      have HE := Lib.hid (show pairsC lab (prsL lab es) = 5 ∧ pairsR lab (prsL lab es) = [] from by
        unfold pairsC pairsR
        rw [if_neg HL.out.1, if_neg HL.out.1, if_pos (by omega), if_pos (by omega)]
        exact ⟨rfl, rfl⟩)
      clear h1 h2 h3 hq hyl
      go_wp2_with (fail)
      go_ret2
      rw [HE.out.1, HE.out.2]
      exact psNone w w3 5 R3.out.2.2.2.2.2.2
end Go.Proofs.Ytgjjdmkoamjdpaa
/- span.Way. -/
namespace Go.Proofs.Ytgjjdmkoamjdpaa
open Go.RowKit Go.Maps Go.Sort

/-- What Way answers. -/
def WyPost (lab : Nm) (E : List Pr) (a b : Int) (w : World) (e : Ending) (w' : World) : Prop :=
  (isNm lab = false ∧ e = .returned (.tuple #[.slice none 0 0, .int .i64 1]) ∧ Below w.heap.size w w') ∨ (isNm lab = true ∧ ¬ Lead (InE E) a b ∧ e = .returned (.tuple #[.slice none 0 0, .int .i64 4]) ∧ Below w.heap.size w w') ∨ (isNm lab = true ∧ ∃ (u : TV) (r : List Int), e = .returned (.tuple #[.slice u.A u.l.length u.c, .int .i64 0]) ∧ u.l = a :: r ∧ r.length ≤ 2001 ∧ FirstWay (InE E) a r b ∧ OwnI w' w.heap.size u ∧ Below w.heap.size w w')
theorem first_any (x : RV) (E : List Pr) (a b : Int) (w : World) (hx : x.Ok w) (hr : Rdy x E) : Calls Try.prog 12 #[.agg (rvA x), .int .i64 a, .int .i64 b] w (FwPost E a b w) := by
  by_cases ha : a ∈ x.N
  · by_cases hb : b ∈ x.N
    · exact first_yes x E a b w hx hr ha hb
    · exact first_no x E a b w hx hr (.inr hb)
  · exact first_no x E a b w hx hr (.inl ha)
theorem isNilI (w : World) (n c : Nat) : (binOp BinOp.eql 25 (.slice none n c) (.slice none 0 0)).run Try.prog w = .ok (.bool true) w := Lib.run_eql_slice_nil w _ _ none n c 0 0 Try.underlying25
theorem notNilI (w : World) (p : Addr) (n c : Nat) : (binOp BinOp.eql 25 (.slice (some p) n c) (.slice none 0 0)).run Try.prog w = .ok (.bool false) w := Lib.run_eql_slice_nil w _ _ (some p) n c 0 0 Try.underlying25
theorem FirstWay.lead {E : List Pr} {a b : Int} {r : List Int} (h : FirstWay (InE E) a r b) : Lead (InE E) a b := wayTo_lead h.way h.ne
set_option maxRecDepth 100000 in
set_option maxHeartbeats 4000000 in
theorem Way_any (lab : Nm) (A : Option Addr) (c : Nat) (es : List Ed) (a b : Int) (w : World) (h : Es w A c es) : Calls Try.prog 5 #[.string ⟨lab.toArray⟩, .slice A es.length c, .int .i64 a, .int .i64 b] w (WyPost lab (prsL lab es) a b w) := by
  have his := is_any lab w
  have hro := roadsOf_any lab A c es w h
  have hsm := h.sm
  clear h
  by_cases hn : isNm lab = false
  · rw [hn] at his
    have HI := Lib.hid his
    have HE := Lib.hid hn
    clear his hro hn
    go_enter Try.func5, Try.ntmps5
    go_wp2_with (go_at_call 10; (with_reducible refine HI.out.mono ?_); rintro e w1 ⟨rfl, rfl⟩)
    go_ret2
    exact .inl ⟨HE.out, rfl, Below.refl _ _⟩
  · have hn' : isNm lab = true := by simpa using hn
    rw [hn'] at his
    have HI := Lib.hid his
    have HRO := Lib.hid hro
    have HL := Lib.hid (And.intro hn' hsm)
    clear his hro hn hn' hsm
    by_cases hld : Lead (InE (prsL lab es)) a b
    · have HLD := Lib.hid hld
      clear hld
      go_enter Try.func5, Try.ntmps5
      go_wp2_with (first
        | (go_at_call 10; (with_reducible refine HI.out.mono ?_); rintro e w1 ⟨rfl, rfl⟩)
        | (go_at_call 11; (with_reducible refine HRO.out.mono ?_); rintro e w2 ⟨x, rfl, x2, n2, o2, i2, b2⟩; have B2 := Lib.hid b2; have HP := Lib.hid (show Calls Try.prog 12 #[.agg (rvA x), .int .i64 a, .int .i64 b] w2 (fun e w' => ∃ (g c : Nat) (r : List Int), e = .returned (.slice (some ⟨g, 0, none⟩) (r.length + 1) c) ∧ r.length ≤ 2001 ∧ FirstWay (InE (prsL lab es)) a r b ∧ OwnI w' w2.heap.size ⟨some ⟨g, 0, none⟩, a :: r, c⟩ ∧ Below w2.heap.size w2 w') from (first_any x _ a b w2 x2 (rdy_of HL.out.2 n2 o2 i2)).mono (fun e w' h => by
            rcases h with ⟨⟨uA, ul, uc⟩, r, h1, h2, h3, h4, h5, h6⟩ | ⟨_, h2, _⟩
            · dsimp only at h2
              subst h2
              obtain ⟨g, cur, hA, _⟩ := OwnI.blk h5 (by simp)
              dsimp only at hA
              subst hA
              exact ⟨g, uc, r, h1, h3, h4, h5, h6⟩
            · exact absurd HLD.out h2)); clear x2 n2 o2 i2 b2)
        | (go_at_call 12; (with_reducible refine HP.out.mono ?_); rintro e w3 ⟨g, cc, r, rfl, r3, f3, o3, b3⟩; have hnil := notNilI w3 ⟨g, 0, none⟩ (r.length + 1) cc; have R3 := Lib.hid (And.intro r3 (And.intro f3 (And.intro o3 b3))); clear r3 f3 o3 b3))
      go_ret2
      exact .inr (.inr ⟨HL.out.1, ⟨some ⟨g, 0, none⟩, a :: r, cc⟩, r, rfl, rfl, R3.out.1, R3.out.2.1, own_mono R3.out.2.2.1 B2.out.size, B2.out.trans (lower' R3.out.2.2.2 B2.out.size)⟩)
    · have HLD := Lib.hid hld
      clear hld
      go_enter Try.func5, Try.ntmps5
      go_wp2_with (first
        | (go_at_call 10; (with_reducible refine HI.out.mono ?_); rintro e w1 ⟨rfl, rfl⟩)
        | (go_at_call 11; (with_reducible refine HRO.out.mono ?_); rintro e w2 ⟨x, rfl, x2, n2, o2, i2, b2⟩; have B2 := Lib.hid b2; have HP := Lib.hid (show Calls Try.prog 12 #[.agg (rvA x), .int .i64 a, .int .i64 b] w2 (fun e w' => e = .returned (.slice none 0 0) ∧ Below w2.heap.size w2 w') from (first_any x _ a b w2 x2 (rdy_of HL.out.2 n2 o2 i2)).mono (fun e w' h => by
            rcases h with ⟨u, r, _, _, _, h4, _⟩ | ⟨h1, _, h3⟩
            · exact absurd h4.lead HLD.out
            · exact ⟨h1, h3⟩)); clear x2 n2 o2 i2 b2)
        | (go_at_call 12; (with_reducible refine HP.out.mono ?_); rintro e w3 ⟨rfl, b3⟩; have hnil := isNilI w3 0 0; have R3 := Lib.hid b3; clear b3))
      go_ret2
      exact .inr (.inl ⟨HL.out.1, HLD.out, rfl, B2.out.trans (lower' R3.out B2.out.size)⟩)
end Go.Proofs.Ytgjjdmkoamjdpaa
