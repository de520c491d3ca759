/- What is in one set and not in another one: without, meet. -/
import Derived.Test.YtpfkkmfhafejfaaTupC
namespace Go.Proofs.Ytpfkkmfhafejfaa
open Go.RowKit Go.Maps

theorem infoTup : (Try.prog.info? 24).map (fun i => (i.zero, i.size, i.bytes)) = some (some (.slice none 0 0), 1, 24) := by kernel_rfl
/-- A row of the call's own that holds these tuples. -/
def OwnT (w : World) (base : Nat) (v : Value) (ts : List TV) : Prop := w.ownsRow base 24 1 v ts.length (vals ts)
theorem OwnT.shape {w : World} {base : Nat} {v : Value} {ts : List TV} (h : OwnT w base v ts) : ∃ A c, v = .slice A ts.length c ∧ ts.length ≤ c ∧ Rd w w.heap.size A (vals ts) := by
  obtain ⟨A, c, e, h1, _, h2⟩ := own_shape h
  exact ⟨A, c, e, h1, h2⟩
theorem OwnT.lst {w : World} {base : Nat} {v : Value} {ts : List TV} (h : OwnT w base v ts) (hk : ∀ t ∈ ts, t.Ok w) (hs : ts.length ≤ 1000) : ∃ A c, v = .slice A ts.length c ∧ Lst w A c ts := by
  obtain ⟨A, c, e, h1, h2⟩ := h.shape
  exact ⟨A, c, e, h2, hk, h1, hs⟩
theorem drop_tus {ts : List TV} {k : Nat} (h : k < ts.length) : tus (ts.drop k) = ts[k].l :: tus (ts.drop (k + 1)) := by
  rw [List.drop_eq_getElem_cons h]; rfl
theorem Lst.nil (w : World) (A : Option Addr) (c : Nat) : Lst w A c [] := ⟨Rd.emp _ _ _, fun _ ht => (nomatch ht), Nat.zero_le _, Nat.zero_le _⟩
/-- append of one tuple. -/
theorem wpList_appT (w : World) {ops : Array Oper} {rest : List Oper} {o : Oper} {a : Act} {Q : Exit → Act → World → Prop} (hgd : o.guard = none) (s x : Operand)
    (ho : o.op = .call { callee := .builtin .append, args := #[s, x], argTypes := #[22, 22] })
    (base : Nat) (v : Value) (O : List TV) (hs : a.eval s = v) (hown : OwnT w base v O) (B : Nat) (A : Option Addr) (c : Nat) (ys : List TV) (m : Nat) (hx : a.eval x = .slice A m c) (hm : m = ys.length) (hr : Rd w B A (vals ys)) (hlen : O.length + ys.length ≤ 4000) (hbase : base ≤ w.heap.size)
    (h : ∀ v' w', OwnT w' base v' (O ++ ys) → w.grownBy w' v.ownBlock → wpList Try.prog ops Q rest (a.put o.dst v') w') : wpList Try.prog ops Q (o :: rest) a w := by
  subst hm
  obtain ⟨i0, hi, hz0, hz1, hz2⟩ := info_parts infoTup
  refine wpList_appR w hgd s x 22 ho base 24 i0 _ 1 24 Try.underlying22 hi hz0 hz1 hz2 rfl (by omega) v O.length (vals O) hs hown B A ys.length c (vals ys) hx (by rw [vals_len]; omega) hr (vals_one ys) (by omega) (by omega) hbase ?_
  intro v' w' h1 h2 _
  refine h v' w' ?_ h2
  unfold OwnT
  rw [vals_app, List.length_append]
  exact h1
theorem OwnT.low {w w' : World} {base : Nat} {v : Value} {O : List TV} (h : OwnT w base v O) (hg : w.grownBy w' v.ownBlock) (hb : base ≤ w.heap.size) : Below base w w' :=
  (Below.refl base w).grown hg hb (fun k hk => (World.ownsRow.lt h k hk).1)
/-- What without answers. -/
def WoPost (w : World) (a b : List TV) (e : Ending) (w' : World) : Prop :=
  ∃ v O, e = .returned v ∧ OwnT w' w.heap.size v O ∧ tus O = woL (tus a) (tus b) ∧ (∀ t ∈ O, t ∈ a) ∧ Below w.heap.size w w'
/-- The state of without's walk through b. -/
structure WoAt (w : World) (a b : List TV) (k : Nat) (m : Nat) (A' : Option Addr) (c' : Nat) (suf : List TV) : Prop where
  m : m = suf.length
  lst : Lst w A' c' suf
  pre : ∃ pre, b = pre ++ suf ∧ ∀ q ∈ tus pre, ∀ t ∈ tus (a.drop k), cmpI q t < 0
theorem WoAt.next {w : World} {a b : List TV} {k m : Nat} {A' : Option Addr} {c' : Nat} {suf : List TV} (h : WoAt w a b k m A' c' suf) : WoAt w a b (k + 1) m A' c' suf := by
  obtain ⟨h1, h2, pre, h3, h4⟩ := h
  refine ⟨h1, h2, pre, h3, fun q hq t ht => h4 q hq t ?_⟩
  rw [← List.drop_drop, tus, List.map_drop] at ht
  exact List.mem_of_mem_drop ht
theorem WoAt.start {w : World} {a b : List TV} {A' : Option Addr} {c' : Nat} (h : Lst w A' c' b) : WoAt w a b 0 b.length A' c' b := ⟨rfl, h, [], rfl, fun q hq => by cases hq⟩
theorem WoAt.below {w w' : World} {a b : List TV} {k m : Nat} {A' : Option Addr} {c' : Nat} {suf : List TV} (h : WoAt w a b k m A' c' suf) (hb : Below w.heap.size w w') : WoAt w' a b k m A' c' suf := ⟨h.m, h.lst.below hb, h.pre⟩
/-- One is passed by. -/
theorem WoAt.pass {w : World} {a b : List TV} {k m : Nat} {A' : Option Addr} {c' : Nat} {x : TV} {suf : List TV} (h : WoAt w a b k m A' c' (x :: suf)) (hk : k < a.length) (ha : Ris (tus a)) (hx : cmpI x.l a[k].l < 0) :
    ∃ b' o', A' = some ⟨b', o', none⟩ ∧ (c' = 1 → WoAt w a b k (m - 1) A' (c' - 1) suf) ∧ (c' ≠ 1 → WoAt w a b k (m - 1) (some ⟨b', o' + 1, none⟩) (c' - 1) suf) := by
  obtain ⟨h1, h2, pre, h3, h4⟩ := h
  obtain ⟨b', o', rfl, _, _⟩ := h2.cell (k := 0) (by simp)
  have hl : (x :: suf).length ≤ c' := h2.cap
  have hs : (x :: suf).length ≤ 1000 := h2.sm
  simp at hl hs
  have hcut := h2.rd.cut (k := 1) (size := 1) (cap := c') (n := (x :: suf).length) (by rw [vals_len]; omega) (by simp) h2.cap
  have hp : ∃ pre, b = pre ++ suf ∧ ∀ q ∈ tus pre, ∀ t ∈ tus (a.drop k), cmpI q t < 0 := by
    refine ⟨pre ++ [x], by rw [h3]; simp, fun q hq t ht => ?_⟩
    rw [tus_app, List.mem_append] at hq
    rcases hq with hq | hq
    · exact h4 q hq t ht
    · simp only [tus, List.map_cons, List.map_nil, List.mem_singleton] at hq
      subst hq
      have hd := drop_tus hk
      rw [hd] at ht
      rcases List.mem_cons.1 ht with rfl | ht
      · exact hx
      · refine cmpI_trans hx ?_
        have hp : Ris (tus (a.drop k)) := by unfold Ris tus at *; rw [List.map_drop]; exact ha.sublist (List.drop_sublist _ _)
        rw [hd] at hp
        exact (List.pairwise_cons.1 hp).1 t ht
  have hm : m - 1 = suf.length := by rw [h1]; simp
  refine ⟨b', o', rfl, fun hc => ?_, fun hc => ?_⟩
  · subst hc
    have : suf = [] := List.eq_nil_of_length_eq_zero (by omega)
    subst this
    exact ⟨hm, Lst.nil _ _ _, hp⟩
  · rw [if_neg hc] at hcut
    refine ⟨hm, ⟨?_, fun t ht => h2.ok t (List.mem_cons_of_mem _ ht), by omega, by omega⟩, hp⟩
    rw [Option.map_some, plainAdd] at hcut
    exact hcut
/-- What stands next tells whether it is there. -/
theorem WoAt.has {w : World} {a b : List TV} {k m : Nat} {A' : Option Addr} {c' : Nat} {suf : List TV} (h : WoAt w a b k m A' c' suf) (hk : k < a.length) (hb : Ris (tus b)) (hs : ∀ x r, suf = x :: r → ¬ cmpI x.l a[k].l < 0) : hasL (tus b) a[k].l = true ↔ ∃ x r, suf = x :: r ∧ cmpI x.l a[k].l = 0 := by
  obtain ⟨h1, h2, pre, rfl, h4⟩ := h
  rw [tus_app] at hb ⊢
  rw [has_next hb (fun q hq => h4 q hq _ (by rw [drop_tus hk]; exact List.mem_cons_self ..)) (fun x r e => by
    rcases suf with _ | ⟨y, s⟩
    · cases e
    · injection e with e1 e2
      subst e1
      exact hs y s rfl)]
  constructor
  · rintro ⟨x, r, e, hx⟩
    rcases suf with _ | ⟨y, s⟩
    · cases e
    · injection e with e1 e2
      subst e1
      exact ⟨y, s, rfl, hx⟩
  · rintro ⟨x, r, rfl, hx⟩
    exact ⟨x.l, tus r, rfl, hx⟩
/-- A slice's length. -/
def lenOf : Value → Nat
  | .slice _ n _ => n
  | _ => 0
set_option maxRecDepth 100000 in
set_option maxHeartbeats 2000000 in
/-- without, of two sets. -/
theorem without_any (a b : LV) (w : World) (ha : a.Ok w) (hb : b.Ok w) (ra : Ris (tus a.ts)) (rb : Ris (tus b.ts)) :
    Calls Try.prog 39 #[.slice a.A a.ts.length a.c, .slice b.A b.ts.length b.c] w (WoPost w a.ts b.ts) := by
  obtain ⟨mb, hmb⟩ : ∃ m, m = b.ts.length := ⟨_, rfl⟩
  have hW := WoAt.start (a := a.ts) hb
  rw [← hmb] at hW ⊢
  have hs := ha.sm
  have HA := Lib.hid (And.intro ha (And.intro hW (And.intro ra rb)))
  clear ha hb ra rb hW hmb
  go_enter Try.func39, Try.ntmps39
  go_wp2_with (fail)
  go_loopw [1, 5, 10] (fun b' out i wr => ∃ (k m : Nat) (A' : Option Addr) (c' : Nat) (suf O : List TV), k ≤ a.ts.length ∧ i = .int .i64 k ∧ b' = .slice A' m c' ∧ Hid (WoAt w a.ts b.ts k m A' c' suf) ∧ Hid (OwnT wr w.heap.size out O ∧ tus O = woL ((tus a.ts).take k) (tus b.ts) ∧ (∀ t ∈ O, t ∈ a.ts) ∧ Below w.heap.size w wr)) (fun _ _ i _ => a.ts.length - (intOf i).toNat)
  case atStart => exact ⟨0, _, _, _, _, [], by omega, rfl, rfl, HA.out.2.1, Lib.hid ⟨World.ownsRow_nil w _ _ _, rfl, fun _ ht => (nomatch ht), Below.refl _ _⟩⟩
  case round =>
    obtain ⟨k, m, A', c', suf, O, hk, rfl, rfl, HB, HO⟩ := hrel
    by_cases hlt : k < a.ts.length
    · obtain ⟨xb, xo, hxa, hxl, hxc⟩ := HA.out.1.cell hlt
      have hxc' : wr.cell? ⟨xb, xo + k, none⟩ = _ := (HO.out.2.2.2.cell (p := ⟨xb, xo + k, none⟩) hxl).trans hxc
      have hok : a.ts[k].Ok wr := (HA.out.1.at hlt).below HO.out.2.2.2
      rw [hxa]
      clear hxc
      have HX := Lib.hid (And.intro hok hlt)
      clear hok
      generalize hx : a.ts[k] = x at hxc' HX
      have HE := Lib.hid hx
      clear hx
      go_upto_block 2 with (fail)
      go_cut [1] from 14 to 26 (fun b' w' => ∃ (m : Nat) (A' : Option Addr) (c' : Nat) (suf : List TV), b' = .slice A' m c' ∧ wr = w' ∧ Hid (WoAt w a.ts b.ts k m A' c' suf ∧ ∀ y r, suf = y :: r → ¬ cmpI y.l x.l < 0))
      case first =>
        go_wp2_with (fail)
        go_loop [1] (fun b' => ∃ (m : Nat) (A' : Option Addr) (c' : Nat) (suf : List TV), b' = .slice A' m c' ∧ Hid (WoAt w a.ts b.ts k m A' c' suf)) (fun b' => lenOf b')
        case atStart => exact ⟨m, A', c', suf, rfl, HB⟩
        case round =>
          obtain ⟨m, A', c', suf, rfl, HB⟩ := hrel
          rcases suf with _ | ⟨y, r⟩
          · obtain rfl : m = 0 := HB.out.m
            go_wp2_with (fail)
            go_meet
            case rel => exact ⟨0, A', c', [], rfl, rfl, Lib.hid ⟨HB.out, fun y r e => nomatch e⟩⟩
          · obtain ⟨yb, yo, hya, _, hyc⟩ := (HB.out.lst.below HO.out.2.2.2).cell (k := 0) (by simp)
            have hyc' : wr.cell? ⟨yb, yo, none⟩ = some (.slice y.A y.l.length y.c) := hyc
            have hm0 : 0 < m := by rw [HB.out.m]; simp
            have hcall := cmpT_any y x wr ((HB.out.lst.below HO.out.2.2.2).ok y (List.mem_cons_self ..)) HX.out.1
            have hpass := fun h : cmpI y.l x.l < 0 => HB.out.pass HX.out.2 HA.out.2.2.1 (by rw [HE.out]; exact h)
            have HP := Lib.hid hpass
            clear hyc hpass
            obtain ⟨K, hK⟩ : ∃ K, K = cmpI y.l x.l := ⟨_, rfl⟩
            rw [← hK] at hcall
            have HK := Lib.hid hK
            clear hK
            rw [hya]
            by_cases hneg : K < 0
            · obtain ⟨yb', yo', e, h1, h2⟩ := HP.out (by rw [← HK.out]; exact hneg)
              rw [hya] at e
              injection e with e
              injection e with e1 e2
              subst e1 e2
              have hge : (1 : Int) ≤ (m : Int) := by omega
              have hcp : m ≤ c' := by have := HB.out.lst.cap; rw [← HB.out.m] at this; exact this
              by_cases hc1 : c' = 1
              · obtain rfl : m = 1 := by omega
                have HN : Hid (WoAt w a.ts b.ts k 0 A' 0 r) := by have h := h1 hc1; rw [hc1] at h; exact Lib.hid h
                clear h1 h2
                subst hc1
                go_wp2_with (go_at_call 20; (with_reducible refine hcall.mono ?_); rintro e w' ⟨rfl, rfl⟩)
                go_round
                case rel => exact ⟨_, _, _, r, rfl, Lib.hid (hya ▸ HN.out)⟩
                case measure => simp [lenOf]
              · have HN := Lib.hid (h2 hc1)
                clear h1 h2
                go_wp2_with (go_at_call 20; (with_reducible refine hcall.mono ?_); rintro e w' ⟨rfl, rfl⟩)
                go_round
                case rel => exact ⟨_, _, _, r, rfl, HN⟩
                case measure => simp [lenOf]; omega
            · go_wp2_with (go_at_call 20; (with_reducible refine hcall.mono ?_); rintro e w' ⟨rfl, rfl⟩)
              go_meet
              case rel =>
                refine ⟨m, _, c', y :: r, rfl, rfl, Lib.hid ⟨hya ▸ HB.out, fun y' r' e => ?_⟩⟩
                injection e with e _
                rw [← e, ← HK.out]
                exact hneg
      case rest =>
        obtain ⟨m, A', c', suf, rfl, rfl, HC⟩ := hcut
        have hiff := HC.out.1.has HX.out.2 HA.out.2.2.2 (fun y r e => by rw [HE.out]; exact HC.out.2 y r e)
        have htk := wo_take (a := tus a.ts) (b := tus b.ts) (k := k) (by rw [tus_len]; exact HX.out.2)
        rw [tus_at a.ts k HX.out.2, HE.out] at htk
        rw [HE.out] at hiff
        have hxm : x ∈ a.ts := by rw [← HE.out]; exact List.getElem_mem _
        have hol : O.length ≤ 1000 := by
          have h1 := congrArg List.length HO.out.2.1
          have h2 := wo_len ((tus a.ts).take k) (tus b.ts)
          rw [tus_len] at h1
          rw [List.length_take, tus_len] at h2
          omega
        have hbase : w.heap.size ≤ (wr.alloc (.cells #[.slice x.A x.l.length x.c] 24)).heap.size := by
          have := HO.out.2.2.2.size
          simp
          omega
        have hown := World.ownsRow.alloc HO.out.1 (.cells #[.slice x.A x.l.length x.c] 24)
        have hstep : hasL (tus b.ts) x.l = false → ∀ v' w', OwnT w' w.heap.size v' (O ++ [x]) → (wr.alloc (.cells #[.slice x.A x.l.length x.c] 24)).grownBy w' u5.ownBlock →
            Hid (OwnT w' w.heap.size v' (O ++ [x]) ∧ tus (O ++ [x]) = woL ((tus a.ts).take (k + 1)) (tus b.ts) ∧ (∀ t ∈ O ++ [x], t ∈ a.ts) ∧ Below w.heap.size w w') := fun hh v' w' h1 h2 => Lib.hid ⟨h1, by
              rw [htk, hh, tus_app, HO.out.2.1]; rfl, fun t ht => by
              rcases List.mem_append.1 ht with ht | ht
              · exact HO.out.2.2.1 t ht
              · rw [List.mem_singleton.1 ht]; exact hxm, HO.out.2.2.2.trans (((Below.refl _ _).alloc HO.out.2.2.2.size _).trans (OwnT.low hown h2 hbase))⟩
        have HOW := Lib.hid hown
        have HST := Lib.hid hstep
        have HXM := Lib.hid hxm
        have HTK := Lib.hid htk
        clear htk hown hstep hxm
        rcases suf with _ | ⟨y, r⟩
        · obtain rfl : m = 0 := HC.out.1.m
          have HH := Lib.hid (hasL_no.2 (fun h => by obtain ⟨_, _, e, _⟩ := hiff.1 (hasL_iff.2 h); cases e))
          clear hiff
          go_wp2_with (at_builtin; refine wpList_appT _ rfl (.tmp 38) (.tmp 40) rfl w.heap.size _ O rfl HOW.out (wr.heap.size + 1) (some ⟨wr.heap.size, 0, none⟩) 1 [x] 1 rfl rfl (Rd.new wr _ _ _) (by simp; omega) hbase ?_; intro v' w' h1 h2)
          go_roundw
          case rel => exact ⟨k + 1, _, _, _, [], _, by omega, by go_num, rfl, Lib.hid HC.out.1.next, HST.out HH.out v' w' h1 h2⟩
          case measure => simp [intOf]; omega
        · obtain ⟨yb, yo, hya, _, hyc⟩ := (HC.out.1.lst.below HO.out.2.2.2).cell (k := 0) (by simp)
          have hyc' : wr.cell? ⟨yb, yo, none⟩ = some (.slice y.A y.l.length y.c) := hyc
          have hcall := sameT_any y x wr ((HC.out.1.lst.below HO.out.2.2.2).ok y (List.mem_cons_self ..)) HX.out.1
          have hm0 : 0 < m := by rw [HC.out.1.m]; simp
          have hm1 : ((m : Int) == 0) = false := by simp; omega
          clear hyc
          rw [hya]
          by_cases hz : cmpI y.l x.l = 0
          · have HH := Lib.hid (hiff.2 ⟨y, r, rfl, hz⟩)
            rw [decide_eq_true hz] at hcall
            clear hiff hz
            go_wp2_with (go_at_call 34; (with_reducible refine hcall.mono ?_); rintro e w' ⟨rfl, rfl⟩)
            go_roundw
            case rel => exact ⟨k + 1, m, _, c', y :: r, O, by omega, by go_num, rfl, Lib.hid (hya ▸ HC.out.1.next), Lib.hid ⟨HO.out.1, by rw [HTK.out, HH.out, HO.out.2.1]; simp, HO.out.2.2⟩⟩
            case measure => simp [intOf]; omega
          · have HH := Lib.hid (hasL_no.2 (fun h => by obtain ⟨y', r', e, h'⟩ := hiff.1 (hasL_iff.2 h); injection e with e _; rw [← e] at h'; exact hz h'))
            rw [decide_eq_false hz] at hcall
            clear hiff hz
            go_wp2_with (first | (go_at_call 34; (with_reducible refine hcall.mono ?_); rintro e w' ⟨rfl, rfl⟩) | (at_builtin; refine wpList_appT _ rfl (.tmp 38) (.tmp 40) rfl w.heap.size _ O rfl HOW.out (wr.heap.size + 1) (some ⟨wr.heap.size, 0, none⟩) 1 [x] 1 rfl rfl (Rd.new wr _ _ _) (by simp; omega) hbase ?_; intro v' w' h1 h2))
            go_roundw
            case rel => exact ⟨k + 1, m, _, c', y :: r, _, by omega, by go_num, rfl, Lib.hid (hya ▸ HC.out.1.next), HST.out HH.out v' w' h1 h2⟩
            case measure => simp [intOf]; omega
    · have g0 : ¬ (k : Int) < (a.ts.length : Int) := by omega
      go_wp2_with (fail)
      go_ret
      refine ⟨_, O, rfl, HO.out.1, ?_, HO.out.2.2⟩
      rw [HO.out.2.1, List.take_of_length_le (by rw [tus_len]; omega)]
/-- meet, of two sets. -/
theorem meet_any (a b : LV) (w : World) (ha : a.Ok w) (hb : b.Ok w) (ra : Ris (tus a.ts)) (rb : Ris (tus b.ts)) :
    Calls Try.prog 41 #[.slice a.A a.ts.length a.c, .slice b.A b.ts.length b.c] w fun e w' => e = .returned (.bool (meetL (tus a.ts) (tus b.ts))) ∧ Below w.heap.size w w' := by
  have hw := without_any a b w ha hb ra rb
  obtain ⟨R, hR⟩ : ∃ R, R = meetL (tus a.ts) (tus b.ts) := ⟨_, rfl⟩
  rw [← hR]
  unfold meetL at hR
  have hs := ha.sm
  have HR := Lib.hid hR
  clear hR ha hb ra rb
  go_enter Try.func41, Try.ntmps41
  go_upto_region 0 with (fail)
  go_wp2_with (go_at_call 39; (with_reducible refine hw.mono ?_); rintro e w' ⟨v, O, rfl, h1, h2, h3, h4⟩; obtain ⟨A, c, rfl, h5, h6⟩ := h1.shape; obtain ⟨n, hn⟩ : ∃ n, n = O.length := ⟨_, rfl⟩; rw [← hn]; have HN := Lib.hid (And.intro hn (And.intro h2 h4)); clear hn h1 h2 h3 h4 h5 h6)
  go_ret
  refine ⟨?_, HN.out.2.2⟩
  rw [HR.out, ← HN.out.2.1, tus_len, tus_len, ← HN.out.1]
  simp
end Go.Proofs.Ytpfkkmfhafejfaa
