/- Two sets as one: joined. -/
import Derived.Test.YtpfkkmfhafejfaaTupD
namespace Go.Proofs.Ytpfkkmfhafejfaa
open Go.RowKit Go.Maps

/-- A list without its first one. -/
theorem Lst.tail {w : World} {A : Option Addr} {c : Nat} {x : TV} {r : List TV} (h : Lst w A c (x :: r)) : ∃ b o, A = some ⟨b, o, none⟩ ∧ b < w.heap.size ∧ w.cell? ⟨b, o, none⟩ = some (.slice x.A x.l.length x.c) ∧ x.Ok w ∧ (c = 1 → Lst w A 0 r) ∧ (c ≠ 1 → Lst w (some ⟨b, o + 1, none⟩) (c - 1) r) := by
  obtain ⟨b, o, rfl, hb, hc⟩ := h.cell (k := 0) (by simp)
  have hl : (x :: r).length ≤ c := h.cap
  have hs : (x :: r).length ≤ 1000 := h.sm
  simp only [List.length_cons] at hl hs
  refine ⟨b, o, rfl, hb, hc, h.ok x (List.mem_cons_self ..), fun e => ?_, fun e => ?_⟩
  · have : r = [] := List.eq_nil_of_length_eq_zero (by omega)
    rw [this]
    exact Lst.nil _ _ _
  · have hcut := h.rd.cut (k := 1) (size := 1) (cap := c) (n := (x :: r).length) (by rw [vals_len]; omega) (by simp) h.cap
    rw [if_neg e, Option.map_some, plainAdd] at hcut
    exact ⟨hcut, fun t ht => h.ok t (List.mem_cons_of_mem _ ht), by omega, by omega⟩
/-- append of one tuple whose run is known ahead. -/
theorem run_appT (W : World) (base : Nat) (v : Value) (O : List TV) (hown : OwnT W base v O) (B : Nat) (A : Option Addr) (c : Nat) (ys : List TV) (m : Nat) (hm : m = ys.length) (hr : Rd W B A (vals ys)) (hlen : O.length + ys.length ≤ 4000) (hbase : base ≤ W.heap.size) :
    ∃ v' w', (Builtin.append_ #[22, 22] 22 #[v, .slice A m c]).run Try.prog W = .ok v' w' ∧ OwnT w' base v' (O ++ ys) ∧ Below base W w' := by
  subst hm
  obtain ⟨i0, hi, hz0, hz1, hz2⟩ := info_parts infoTup
  obtain ⟨v', w', h1, h2, h3, _⟩ := run_appR (P := Try.prog) W base 22 22 24 i0 _ 1 24 Try.underlying22 hi hz0 hz1 hz2 rfl (by omega) v O.length (vals O) hown B A ys.length c (vals ys) (by rw [vals_len]; omega) hr (vals_one ys) (by omega) (by omega) hbase
  refine ⟨v', w', h1, ?_, hown.low h3 hbase⟩
  unfold OwnT
  rw [vals_app, List.length_append]
  exact h2
/-- What joined answers. -/
def JoPost (w : World) (a b : List TV) (e : Ending) (w' : World) : Prop :=
  ∃ v O, e = .returned v ∧ OwnT w' w.heap.size v O ∧ tus O = mrg (tus a) (tus b) ∧ (∀ t ∈ O, t ∈ a ∨ t ∈ b) ∧ Below w.heap.size w w'
/-- joined's state. -/
structure JoAt (w wr : World) (a b s1 s2 O : List TV) (out : Value) : Prop where
  own : OwnT wr w.heap.size out O
  eq : tus O ++ mrg (tus s1) (tus s2) = mrg (tus a) (tus b)
  mem : ∀ t ∈ O, t ∈ a ∨ t ∈ b
  m1 : ∀ t ∈ s1, t ∈ a
  m2 : ∀ t ∈ s2, t ∈ b
  below : Below w.heap.size w wr
theorem JoAt.len {w wr : World} {a b s1 s2 O : List TV} {out : Value} (h : JoAt w wr a b s1 s2 O out) : O.length + s1.length + s2.length = a.length + b.length := by
  have := congrArg List.length h.eq
  rw [List.length_append, mrg_len, mrg_len, tus_len, tus_len, tus_len, tus_len, tus_len] at this
  omega
theorem JoAt.left {w wr w' : World} {a b s1 s2 O : List TV} {x y : TV} {out v' : Value} (h : JoAt w wr a b (x :: s1) (y :: s2) O out) (hc : cmpI x.l y.l < 0) (ho : OwnT w' w.heap.size v' (O ++ [x])) (hb : Below w.heap.size wr w') : JoAt w w' a b s1 (y :: s2) (O ++ [x]) v' := by
  refine ⟨ho, ?_, fun t ht => ?_, fun t ht => h.m1 t (List.mem_cons_of_mem _ ht), h.m2, h.below.trans hb⟩
  · have := h.eq
    simp only [tus, List.map_cons] at this ⊢
    rw [mrg_cons, if_pos hc] at this
    rw [← this]
    simp
  · rcases List.mem_append.1 ht with ht | ht
    · exact h.mem t ht
    · rw [List.mem_singleton.1 ht]; exact .inl (h.m1 x (List.mem_cons_self ..))
theorem JoAt.right {w wr w' : World} {a b s1 s2 O : List TV} {x y : TV} {out v' : Value} (h : JoAt w wr a b (x :: s1) (y :: s2) O out) (hc : ¬ cmpI x.l y.l < 0) (ho : OwnT w' w.heap.size v' (O ++ [y])) (hb : Below w.heap.size wr w') : JoAt w w' a b (x :: s1) s2 (O ++ [y]) v' := by
  refine ⟨ho, ?_, fun t ht => ?_, h.m1, fun t ht => h.m2 t (List.mem_cons_of_mem _ ht), h.below.trans hb⟩
  · have := h.eq
    simp only [tus, List.map_cons] at this ⊢
    rw [mrg_cons, if_neg hc] at this
    rw [← this]
    simp
  · rcases List.mem_append.1 ht with ht | ht
    · exact h.mem t ht
    · rw [List.mem_singleton.1 ht]; exact .inr (h.m2 y (List.mem_cons_self ..))
theorem JoAt.done {w wr : World} {a b s1 s2 O : List TV} {out : Value} (h : JoAt w wr a b s1 s2 O out) (h0 : s1 = [] ∨ s2 = []) : tus (O ++ s1 ++ s2) = mrg (tus a) (tus b) := by
  rw [← h.eq, tus_app, tus_app, List.append_assoc]
  congr 1
  rcases h0 with rfl | rfl
  · show [] ++ _ = mrg [] _
    rw [mrg_nil_left]; rfl
  · show _ ++ [] = mrg _ []
    rw [mrg_nil_right, List.append_nil]
theorem JoAt.size {w wr : World} {a b s1 s2 O : List TV} {out : Value} (h : JoAt w wr a b s1 s2 O out) : w.heap.size ≤ wr.heap.size := h.below.size
theorem JoAt.drewN {w wr : World} {a b s1 s2 O : List TV} {out : Value} (h : JoAt w wr a b s1 s2 O out) (n : Nat) : JoAt w (wr.drewN n) a b s1 s2 O out := ⟨h.own, h.eq, h.mem, h.m1, h.m2, below_draws h.below n⟩
/-- The step of joined that takes one: the row it goes to. -/
theorem jo_app {w wr : World} {out : Value} {O : List TV} (x : TV) (ho : OwnT wr w.heap.size out O) (hl : O.length ≤ 2000) (hw : w.heap.size ≤ wr.heap.size) :
    ∃ v' w', (Builtin.append_ #[22, 22] 22 #[out, .slice (some ⟨wr.heap.size, 0, none⟩) 1 1]).run Try.prog (wr.alloc (.cells #[.slice x.A x.l.length x.c] 24)).drew = .ok v' w' ∧ OwnT w' w.heap.size v' (O ++ [x]) ∧ Below w.heap.size wr w' := by
  have h1 : OwnT (wr.alloc (.cells #[.slice x.A x.l.length x.c] 24)).drew w.heap.size out O := World.ownsRow.alloc ho _
  obtain ⟨v', w', h2, h3, h4⟩ := run_appT _ w.heap.size out O h1 (wr.heap.size + 1) (some ⟨wr.heap.size, 0, none⟩) 1 [x] 1 rfl (Rd.new wr #[.slice x.A x.l.length x.c] 24 (0, 0)).drew (by simp; omega) (by simp; omega)
  exact ⟨v', w', h2, h3, (((Below.refl _ wr).alloc hw _).drew).trans h4⟩
theorem jo_end {w wr w3 : World} {a b s1 s2 O : List TV} {out v : Value} (h : JoAt w wr a b s1 s2 O out) (h0 : s1 = [] ∨ s2 = []) (ho : OwnT w3 w.heap.size v (O ++ s1 ++ s2)) (hb : Below w.heap.size wr w3) : JoPost w a b (.returned v) w3 := by
  refine ⟨v, O ++ s1 ++ s2, rfl, ho, h.done h0, fun t ht => ?_, h.below.trans hb⟩
  rcases List.mem_append.1 ht with ht | ht
  · rcases List.mem_append.1 ht with ht | ht
    · exact h.mem t ht
    · exact .inl (h.m1 t ht)
  · exact .inr (h.m2 t ht)
theorem makeT (n : Nat) (hn : n ≤ 4000) (w : World) : (Instr.makeSlice 22 (.int .i64 0) (.int .i64 (n : Int))).run Try.prog w = .ok (.slice (some ⟨w.heap.size, 0, none⟩) 0 n) (w.alloc (.cells (madeCells #[.slice none 0 0] n) 24)) := by
  obtain ⟨i0, hi, hz0, hz1, hz2⟩ := info_parts infoTup
  have h := run_make (P := Try.prog) w 22 24 i0 _ Try.underlying22 hi hz0 .i64 .i64 0 n (by omega) (by omega) (by rw [hz2]; omega) (by omega)
  rw [hz1, Int.toNat_natCast, Nat.mul_one] at h
  exact h
set_option maxRecDepth 100000 in
set_option maxHeartbeats 2000000 in
/-- joined, of two sets. -/
theorem joined_any (a b : LV) (w : World) (ha : a.Ok w) (hb : b.Ok w) :
    Calls Try.prog 42 #[.slice a.A a.ts.length a.c, .slice b.A b.ts.length b.c] w (JoPost w a.ts b.ts) := by
  obtain ⟨m1, hm1⟩ : ∃ m, m = a.ts.length := ⟨_, rfl⟩
  obtain ⟨m2, hm2⟩ : ∃ m, m = b.ts.length := ⟨_, rfl⟩
  have hsa := ha.sm
  have hsb := hb.sm
  rw [← hm1] at hsa ⊢
  rw [← hm2] at hsb ⊢
  have hmk := makeT (m1 + m2) (by omega) w
  rw [Int.natCast_add] at hmk
  have hown : OwnT (w.alloc (.cells (madeCells #[.slice none 0 0] (m1 + m2)) 24)) w.heap.size (.slice (some ⟨w.heap.size, 0, none⟩) 0 (m1 + m2)) [] := World.ownsRow_made (size := 1) w _ (m1 + m2) (Nat.le_refl _) (by simp [maxLen]; omega) (by simp [madeCells])
  have hB1 : Below w.heap.size w (w.alloc (.cells (madeCells #[.slice none 0 0] (m1 + m2)) 24)) := (Below.refl _ _).alloc (Nat.le_refl _) _
  have HA := Lib.hid (And.intro ha (And.intro hb (And.intro hown (And.intro hm1 (And.intro hm2 hB1)))))
  clear ha hb hown hm1 hm2 hB1
  go_enter Try.func42, Try.ntmps42
  go_wp2_with (fail)
  generalize w.alloc (.cells (madeCells #[.slice none 0 0] (m1 + m2)) 24) = w1 at HA ⊢
  clear hmk
  go_loopw [0, 1, 5] (fun a' b' out wr => ∃ (A1 A2 : Option Addr) (c1 c2 n1 n2 : Nat) (s1 s2 O : List TV), a' = .slice A1 n1 c1 ∧ b' = .slice A2 n2 c2 ∧ Hid (n1 = s1.length ∧ n2 = s2.length ∧ Lst w A1 c1 s1 ∧ Lst w A2 c2 s2 ∧ JoAt w wr a.ts b.ts s1 s2 O out)) (fun a' b' _ _ => lenOf a' + lenOf b')
  case atStart => exact ⟨_, _, _, _, _, _, a.ts, b.ts, [], rfl, rfl, Lib.hid ⟨HA.out.2.2.2.1, HA.out.2.2.2.2.1, HA.out.1, HA.out.2.1, ⟨HA.out.2.2.1, rfl, fun _ h => (nomatch h), fun _ h => h, fun _ h => h, HA.out.2.2.2.2.2⟩⟩⟩
  case round =>
    obtain ⟨A1, A2, c1, c2, n1, n2, s1, s2, O, rfl, rfl, HR⟩ := hrel
    have hlen := HR.out.2.2.2.2.len
    rcases s1 with _ | ⟨x, s1⟩
    · obtain rfl : n1 = 0 := HR.out.1
      have hbw := HR.out.2.2.2.2.below
      have hz := hbw.size
      have hO2 : O.length + ([] : List TV).length + s2.length ≤ 2000 := by have := HR.out.2.2.2.2.len; simp at this; have h8 := HA.out.2.2.2.1; have h9 := HA.out.2.2.2.2.1; simp; omega
      have HQ := Lib.hid (And.intro HR.out.2.2.2.2.own (And.intro hbw (And.intro hz (And.intro (HR.out.2.2.1.below hbw).rd hO2))))
      clear hbw hz hO2 hlen
      go_wp2_with (first
        | (at_builtin; refine wpList_appT _ rfl (.tmp 44) (.tmp 45) rfl w.heap.size _ O rfl HQ.out.1 wr.heap.size _ _ ([] : List TV) _ rfl HR.out.1 HQ.out.2.2.2.1 (by have := HQ.out.2.2.2.2; simp at this ⊢; omega) HQ.out.2.2.1 ?_; intro v2 w2 ho2 hg2; have HO2 := Lib.hid (And.intro ho2 (OwnT.low HQ.out.1 hg2 HQ.out.2.2.1)); clear ho2 hg2)
        | (at_builtin; refine wpList_appT _ rfl (.tmp 46) (.tmp 47) rfl w.heap.size _ (O ++ ([] : List TV)) rfl HO2.out.1 w2.heap.size _ _ s2 _ rfl HR.out.2.1 (HR.out.2.2.2.1.below (HQ.out.2.1.trans HO2.out.2)).rd (by have := HQ.out.2.2.2.2; simp at this ⊢; omega) (Nat.le_trans HQ.out.2.2.1 HO2.out.2.size) ?_; intro v3 w3 ho3 hg3; have HO3 := Lib.hid (And.intro ho3 (HO2.out.2.trans (OwnT.low HO2.out.1 hg3 (Nat.le_trans HQ.out.2.2.1 HO2.out.2.size)))); clear ho3 hg3))
      go_ret
      exact jo_end HR.out.2.2.2.2 (.inl rfl) HO3.out.1 HO3.out.2
    · rcases s2 with _ | ⟨y, s2⟩
      · obtain rfl : n2 = 0 := HR.out.2.1
        have p1 : 0 < n1 := by rw [HR.out.1]; simp
        have q1 : (0 : Int) < (n1 : Int) := by omega
        have hbw := HR.out.2.2.2.2.below
        have hz := hbw.size
        have hO2 : O.length + (x :: s1).length + ([] : List TV).length ≤ 2000 := by have := HR.out.2.2.2.2.len; simp at this; have h8 := HA.out.2.2.2.1; have h9 := HA.out.2.2.2.2.1; simp; omega
        have HQ := Lib.hid (And.intro HR.out.2.2.2.2.own (And.intro hbw (And.intro hz (And.intro (HR.out.2.2.1.below hbw).rd hO2))))
        clear hbw hz hO2 hlen
        go_wp2_with (first
          | (at_builtin; refine wpList_appT _ rfl (.tmp 44) (.tmp 45) rfl w.heap.size _ O rfl HQ.out.1 wr.heap.size _ _ (x :: s1) _ rfl HR.out.1 HQ.out.2.2.2.1 (by have := HQ.out.2.2.2.2; simp at this ⊢; omega) HQ.out.2.2.1 ?_; intro v2 w2 ho2 hg2; have HO2 := Lib.hid (And.intro ho2 (OwnT.low HQ.out.1 hg2 HQ.out.2.2.1)); clear ho2 hg2)
          | (at_builtin; refine wpList_appT _ rfl (.tmp 46) (.tmp 47) rfl w.heap.size _ (O ++ (x :: s1)) rfl HO2.out.1 w2.heap.size _ _ ([] : List TV) _ rfl HR.out.2.1 (HR.out.2.2.2.1.below (HQ.out.2.1.trans HO2.out.2)).rd (by have := HQ.out.2.2.2.2; simp at this ⊢; omega) (Nat.le_trans HQ.out.2.2.1 HO2.out.2.size) ?_; intro v3 w3 ho3 hg3; have HO3 := Lib.hid (And.intro ho3 (HO2.out.2.trans (OwnT.low HO2.out.1 hg3 (Nat.le_trans HQ.out.2.2.1 HO2.out.2.size)))); clear ho3 hg3))
        go_ret
        exact jo_end HR.out.2.2.2.2 (.inr rfl) HO3.out.1 HO3.out.2
      · obtain ⟨b1, o1, rfl, hb1, k1, ok1, ta1, tb1⟩ := HR.out.2.2.1.tail
        obtain ⟨b2, o2, rfl, hb2, k2, ok2, ta2, tb2⟩ := HR.out.2.2.2.1.tail
        have hbw := HR.out.2.2.2.2.below
        have k1' : wr.cell? ⟨b1, o1, none⟩ = _ := (hbw.cell (p := ⟨b1, o1, none⟩) hb1).trans k1
        have k2' : wr.cell? ⟨b2, o2, none⟩ = _ := (hbw.cell (p := ⟨b2, o2, none⟩) hb2).trans k2
        have hc := fun n => cmpT_any x y (wr.drewN n) ((ok1.below hbw).drewN n) ((ok2.below hbw).drewN n)
        have p1 : 0 < n1 := by rw [HR.out.1]; simp
        have p2 : 0 < n2 := by rw [HR.out.2.1]; simp
        have q1 : (0 : Int) < (n1 : Int) := by omega
        have q2 : (0 : Int) < (n2 : Int) := by omega
        have HC := Lib.hid fun n => (hc n).mono fun e w' h => (⟨h.1, h.2.symm⟩ : e = _ ∧ w' = wr.drewN n)
        have cp1 : n1 ≤ c1 := by have := HR.out.2.2.1.cap; rw [← HR.out.1] at this; exact this
        have cp2 : n2 ≤ c2 := by have := HR.out.2.2.2.1.cap; rw [← HR.out.2.1] at this; exact this
        have qq1 : (1 : Int) ≤ (n1 : Int) := by omega
        have qq2 : (1 : Int) ≤ (n2 : Int) := by omega
        have HT := Lib.hid (And.intro ta1 (And.intro tb1 (And.intro ta2 (And.intro tb2 hlen))))
        clear hc k1 k2 ok1 ok2 ta1 tb1 ta2 tb2 hbw hb1 hb2 hlen
        obtain ⟨K, hK⟩ : ∃ K, K = cmpI x.l y.l := ⟨_, rfl⟩
        rw [← hK] at HC
        have HK := Lib.hid hK
        clear hK
        by_cases hneg : K < 0
        · go_wp2_with (fail)
          go_quiet ((go_at_call 20; with_reducible exact Calls.quiet_of_same (HC.out _)))
          have HJ := Lib.hid (HR.out.2.2.2.2.drewN nq)
          have z1 : (wr.drewN nq).cell? ⟨b1, o1, none⟩ = some (.slice x.A x.l.length x.c) := k1'
          have z2 : (wr.drewN nq).cell? ⟨b2, o2, none⟩ = some (.slice y.A y.l.length y.c) := k2'
          have HL := Lib.hid (And.intro HR.out.1 (And.intro HR.out.2.1 (And.intro HR.out.2.2.1 HR.out.2.2.2.1)))
          clear HR HC k1' k2'
          generalize wr.drewN nq = w5 at HJ z1 z2 ⊢
          obtain ⟨v6, w6, hrun, hown6, hb6⟩ := jo_app x HJ.out.own (by have := HT.out.2.2.2.2; have h8 := HA.out.2.2.2.1; have h9 := HA.out.2.2.2.2.1; omega) HJ.out.below.size
          have H6 := Lib.hid (And.intro hown6 hb6)
          clear hown6 hb6
          by_cases hc1 : c1 = 1
          · obtain rfl : n1 = 1 := by omega
            have HTT := Lib.hid (HT.out.1 hc1)
            subst hc1
            clear HT
            go_wp2_with (fail)
            go_region_law (refine step_appK _ (by rfl) (.tmp 28) (.tmp 32) 22 rfl rfl _ _ _ _ rfl rfl hrun ?_)
            all_goals
              simp only [Act.put]
              go_simp
              go_roundw
              case rel => (repeat apply Exists.intro); exact ⟨⟨_, _, _, _, _, _, s1, y :: s2, _, rfl, rfl, Lib.hid ⟨by have := HL.out.1; rw [List.length_cons] at this; omega, HL.out.2.1, HTT.out, HL.out.2.2.2, HJ.out.left (by rw [← HK.out]; exact hneg) H6.out.1 H6.out.2⟩⟩, rfl⟩
              case measure => first | (simp [lenOf]; done) | (simp [lenOf]; omega)
          · have HTT := Lib.hid (HT.out.2.1 hc1)
            clear HT
            go_wp2_with (fail)
            go_region_law (refine step_appK _ (by rfl) (.tmp 28) (.tmp 32) 22 rfl rfl _ _ _ _ rfl rfl hrun ?_)
            all_goals
              simp only [Act.put]
              go_simp
              go_roundw
              case rel => (repeat apply Exists.intro); exact ⟨⟨_, _, _, _, _, _, s1, y :: s2, _, rfl, rfl, Lib.hid ⟨by have := HL.out.1; rw [List.length_cons] at this; omega, HL.out.2.1, HTT.out, HL.out.2.2.2, HJ.out.left (by rw [← HK.out]; exact hneg) H6.out.1 H6.out.2⟩⟩, rfl⟩
              case measure => first | (simp [lenOf]; done) | (simp [lenOf]; omega)
        · go_wp2_with (fail)
          go_quiet ((go_at_call 20; with_reducible exact Calls.quiet_of_same (HC.out _)))
          have HJ := Lib.hid (HR.out.2.2.2.2.drewN nq)
          have z1 : (wr.drewN nq).cell? ⟨b1, o1, none⟩ = some (.slice x.A x.l.length x.c) := k1'
          have z2 : (wr.drewN nq).cell? ⟨b2, o2, none⟩ = some (.slice y.A y.l.length y.c) := k2'
          have HL := Lib.hid (And.intro HR.out.1 (And.intro HR.out.2.1 (And.intro HR.out.2.2.1 HR.out.2.2.2.1)))
          clear HR HC k1' k2'
          generalize wr.drewN nq = w5 at HJ z1 z2 ⊢
          obtain ⟨v6, w6, hrun, hown6, hb6⟩ := jo_app y HJ.out.own (by have := HT.out.2.2.2.2; have h8 := HA.out.2.2.2.1; have h9 := HA.out.2.2.2.2.1; omega) HJ.out.below.size
          have H6 := Lib.hid (And.intro hown6 hb6)
          clear hown6 hb6
          by_cases hc1 : c2 = 1
          · obtain rfl : n2 = 1 := by omega
            have HTT := Lib.hid (HT.out.2.2.1 hc1)
            subst hc1
            clear HT
            go_wp2_with (fail)
            go_region_law (refine step_appK _ (by rfl) (.tmp 36) (.tmp 40) 22 rfl rfl _ _ _ _ rfl rfl hrun ?_)
            all_goals
              simp only [Act.put]
              go_simp
              go_roundw
              case rel => (repeat apply Exists.intro); exact ⟨⟨_, _, _, _, _, _, x :: s1, s2, _, rfl, rfl, Lib.hid ⟨HL.out.1, by have := HL.out.2.1; rw [List.length_cons] at this; omega, HL.out.2.2.1, HTT.out, HJ.out.right (by rw [← HK.out]; omega) H6.out.1 H6.out.2⟩⟩, rfl⟩
              case measure => first | (simp [lenOf]; done) | (simp [lenOf]; omega)
          · have HTT := Lib.hid (HT.out.2.2.2.1 hc1)
            clear HT
            go_wp2_with (fail)
            go_region_law (refine step_appK _ (by rfl) (.tmp 36) (.tmp 40) 22 rfl rfl _ _ _ _ rfl rfl hrun ?_)
            all_goals
              simp only [Act.put]
              go_simp
              go_roundw
              case rel => (repeat apply Exists.intro); exact ⟨⟨_, _, _, _, _, _, x :: s1, s2, _, rfl, rfl, Lib.hid ⟨HL.out.1, by have := HL.out.2.1; rw [List.length_cons] at this; omega, HL.out.2.2.1, HTT.out, HJ.out.right (by rw [← HK.out]; omega) H6.out.1 H6.out.2⟩⟩, rfl⟩
              case measure => first | (simp [lenOf]; done) | (simp [lenOf]; omega)
end Go.Proofs.Ytpfkkmfhafejfaa
