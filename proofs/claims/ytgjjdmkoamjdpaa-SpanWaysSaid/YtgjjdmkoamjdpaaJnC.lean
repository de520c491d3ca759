/- Joined: JoTB JoTC JoTD JoTE JoTF JoTG JoTH JoTK JoTL JoTM JoTQ JoTR. -/
import Derived.Deep.Cut
import Derived.Deep.CutRange
import Derived.Deep.CutBlock
import Derived.IntWalk
import Derived.Test.YtgjjdmkoamjdpaaProg
import Derived.Test.YtgjjdmkoamjdpaaJnA
import Derived.Test.YtgjjdmkoamjdpaaFr
import Derived.Deep.RegionHeld3
/- TupB, what this seat can fill of it. -/
namespace Go.Proofs.Ytgjjdmkoamjdpaa
/- Tuples in memory: a tuple, a list of them; the order of two, whether two are the same. -/
open Go.RowKit Go.Maps

/-- A tuple's value, with what it reads as. -/
structure TV where
  A : Option Addr
  l : Tu
  c : Nat
instance : Inhabited TV := ⟨⟨none, [], 0⟩⟩
def TV.val (t : TV) : Value := .slice t.A t.l.length t.c
def intsV (l : Tu) : List Value := l.map (Value.int .i64)
theorem intsV_len (l : Tu) : (intsV l).length = l.length := List.length_map _
theorem intsV_at (l : Tu) (k : Nat) (h : k < l.length) : (intsV l)[k]? = some (.int .i64 l[k]) := by simp [intsV, h]
structure TV.Ok (w : World) (t : TV) : Prop where
  rd : Rd w w.heap.size t.A (intsV t.l)
  cap : t.l.length ≤ t.c
  sm : t.l.length ≤ 5000
theorem TV.Ok.below {w w' : World} {t : TV} (h : t.Ok w) (hb : Below w.heap.size w w') : t.Ok w' := ⟨(h.rd.below hb (Nat.le_refl _)).more hb.size, h.cap, h.sm⟩
theorem TV.Ok.drewN {w : World} {t : TV} (h : t.Ok w) (n : Nat) : t.Ok (w.drewN n) := ⟨h.rd, h.cap, h.sm⟩
theorem TV.Ok.cell {w : World} {t : TV} (h : t.Ok w) {k : Nat} (hk : k < t.l.length) : ∃ b o, t.A = some ⟨b, o, none⟩ ∧ b < w.heap.size ∧ w.cell? ⟨b, o + k, none⟩ = some (.int .i64 t.l[k]) := by
  obtain ⟨b, o, e, hb, hc⟩ := h.rd.get (k := k) (by rw [intsV_len]; exact hk)
  refine ⟨b, o, e, hb, hc.trans ?_⟩
  simp [intsV]
/-- The values of a list of tuples. -/
def vals (ts : List TV) : List Value := ts.map TV.val
theorem vals_len (ts : List TV) : (vals ts).length = ts.length := List.length_map _
theorem vals_app (a b : List TV) : vals (a ++ b) = vals a ++ vals b := List.map_append
theorem vals_one (ts : List TV) : ∀ u ∈ vals ts, u.oneCell' = true := by
  intro u hu
  obtain ⟨t, _, rfl⟩ := List.mem_map.1 hu
  rfl
def tus (ts : List TV) : List Tu := ts.map TV.l
theorem tus_len (ts : List TV) : (tus ts).length = ts.length := List.length_map _
theorem tus_app (a b : List TV) : tus (a ++ b) = tus a ++ tus b := List.map_append
theorem tus_take (a : List TV) (k : Nat) : tus (a.take k) = (tus a).take k := List.map_take
theorem tus_at (ts : List TV) (k : Nat) (h : k < ts.length) : (tus ts)[k]'(by rw [tus_len]; exact h) = ts[k].l := by simp [tus]
theorem mem_tus {ts : List TV} {t : TV} (h : t ∈ ts) : t.l ∈ tus ts := List.mem_map.2 ⟨t, h, rfl⟩
/-- A list of tuples in memory. -/
structure Lst (w : World) (A : Option Addr) (c : Nat) (ts : List TV) : Prop where
  rd : Rd w w.heap.size A (vals ts)
  ok : ∀ t ∈ ts, t.Ok w
  cap : ts.length ≤ c
  sm : ts.length ≤ 5000
theorem Lst.below {w w' : World} {A : Option Addr} {c : Nat} {ts : List TV} (h : Lst w A c ts) (hb : Below w.heap.size w w') : Lst w' A c ts :=
  ⟨(h.rd.below hb (Nat.le_refl _)).more hb.size, fun t ht => (h.ok t ht).below hb, h.cap, h.sm⟩
theorem Lst.drewN {w : World} {A : Option Addr} {c : Nat} {ts : List TV} (h : Lst w A c ts) (n : Nat) : Lst (w.drewN n) A c ts := ⟨h.rd, fun t ht => (h.ok t ht).drewN n, h.cap, h.sm⟩
theorem Lst.cell {w : World} {A : Option Addr} {c : Nat} {ts : List TV} (h : Lst w A c ts) {k : Nat} (hk : k < ts.length) : ∃ b o, A = some ⟨b, o, none⟩ ∧ b < w.heap.size ∧ w.cell? ⟨b, o + k, none⟩ = some (.slice ts[k].A ts[k].l.length ts[k].c) := by
  obtain ⟨b, o, e, hb, hc⟩ := h.rd.get (k := k) (by rw [vals_len]; exact hk)
  refine ⟨b, o, e, hb, hc.trans ?_⟩
  simp [vals, TV.val]
theorem Lst.at {w : World} {A : Option Addr} {c : Nat} {ts : List TV} (h : Lst w A c ts) {k : Nat} (hk : k < ts.length) : ts[k].Ok w := h.ok _ (List.getElem_mem hk)

/-- The order of two numbers. -/
def cmpX (x y : Int) : Int := if x < y then -1 else if y < x then 1 else 0
theorem cmpInt_any (x y : Int) (w : World) : Calls Try.prog 59 #[.int .i64 x, .int .i64 y] w fun e w' => e = .returned (.int .i64 (cmpX x y)) ∧ w = w' := by
  have k1 : ∀ x : Int, Calls Try.prog 62 #[.int .i64 x] w fun e w' => e = .returned (.bool false) ∧ w = w' := fun x => by
    go_enter Try.func62, Try.ntmps62
    go_wp2
    go_ret
    exact ⟨rfl, rfl⟩
  unfold cmpX
  by_cases h1 : x < y
  · rw [if_pos h1]
    go_enter Try.func59, Try.ntmps59
    go_wp2_with ((with_reducible refine (k1 _).mono ?_); rintro e w' ⟨rfl, rfl⟩)
    go_ret
    exact ⟨rfl, rfl⟩
  · rw [if_neg h1]
    by_cases h2 : y < x
    · rw [if_pos h2]
      go_enter Try.func59, Try.ntmps59
      go_wp2_with ((with_reducible refine (k1 _).mono ?_); rintro e w' ⟨rfl, rfl⟩)
      go_ret
      exact ⟨rfl, rfl⟩
    · rw [if_neg h2]
      go_enter Try.func59, Try.ntmps59
      go_wp2_with ((with_reducible refine (k1 _).mono ?_); rintro e w' ⟨rfl, rfl⟩)
      go_ret
      exact ⟨rfl, rfl⟩
theorem drop_cons {l : Tu} {k : Nat} (h : k < l.length) : l.drop k = l[k] :: l.drop (k + 1) := List.drop_eq_getElem_cons h
set_option maxHeartbeats 1000000 in
theorem cmpS_any (a b : TV) (w : World) (ha : a.Ok w) (hb : b.Ok w) : Calls Try.prog 41 #[.slice a.A a.l.length a.c, .slice b.A b.l.length b.c] w fun e w' => e = .returned (.int .i64 (cmpI a.l b.l)) ∧ w = w' := by
  obtain ⟨R, hR⟩ : ∃ R, R = cmpI a.l b.l := ⟨_, rfl⟩
  rw [← hR]
  have hal := ha.sm
  have hbl := hb.sm
  have HA := Lib.hid (And.intro ha (And.intro hb hR))
  clear ha hb hR
  go_enter Try.func41, Try.ntmps41
  go_wp2_with (fail)
  go_loop [11] (fun i => ∃ k : Nat, k ≤ a.l.length ∧ k ≤ b.l.length ∧ i = .int .i64 k ∧ cmpI (a.l.drop k) (b.l.drop k) = R) (fun i => a.l.length - (intOf i).toNat)
  case atStart => exact ⟨0, by omega, by omega, rfl, by rw [HA.out.2.2]; rfl⟩
  case round =>
    obtain ⟨k, hk, hkb, rfl, hrel⟩ := hrel
    by_cases hlt : k < a.l.length
    · obtain ⟨xb, xo, hxa, _, hxc⟩ := HA.out.1.cell hlt
      rw [drop_cons hlt] at hrel
      by_cases hlb : k < b.l.length
      · obtain ⟨yb, yo, hya, _, hyc⟩ := HA.out.2.1.cell hlb
        rw [drop_cons hlb, cmpI_cons] at hrel
        generalize a.l[k] = x at *
        generalize b.l[k] = y at *
        have hge : ¬ (b.l.length : Int) ≤ (k : Int) := by omega
        rw [hxa, hya]
        have hc := cmpInt_any x y w
        unfold cmpX at hc
        by_cases h1 : x < y
        · rw [if_pos h1] at hrel hc
          have HR := Lib.hid hrel
          clear hrel
          go_wp2_with ((with_reducible refine hc.mono ?_); rintro e w' ⟨rfl, rfl⟩)
          go_ret
          exact ⟨ret_int HR.out, rfl⟩
        · rw [if_neg h1] at hrel hc
          by_cases h2 : y < x
          · rw [if_pos h2] at hrel hc
            have HR := Lib.hid hrel
            clear hrel
            go_wp2_with ((with_reducible refine hc.mono ?_); rintro e w' ⟨rfl, rfl⟩)
            go_ret
            exact ⟨ret_int HR.out, rfl⟩
          · rw [if_neg h2] at hrel hc
            have HR := Lib.hid hrel
            clear hrel
            go_wp2_with ((with_reducible refine hc.mono ?_); rintro e w' ⟨rfl, rfl⟩)
            go_round
            case rel => exact ⟨k + 1, by omega, by omega, by go_num, HR.out⟩
            case measure => simp [intOf]; omega
      · have hge : (b.l.length : Int) ≤ (k : Int) := by omega
        rw [List.drop_of_length_le (Nat.not_lt.1 hlb), cmpI] at hrel
        rw [hxa]
        generalize a.l[k] = x at *
        have HR := Lib.hid hrel
        clear hrel
        go_wp2_with (fail)
        go_ret
        exact ⟨ret_int HR.out, rfl⟩
    · rw [List.drop_of_length_le (Nat.not_lt.1 hlt)] at hrel
      by_cases hlb : a.l.length < b.l.length
      · rw [drop_cons (show k < b.l.length by omega), cmpI] at hrel
        have HR := Lib.hid hrel
        clear hrel
        go_wp2_with (fail)
        go_ret
        exact ⟨ret_int HR.out, rfl⟩
      · rw [List.drop_of_length_le (show b.l.length ≤ k by omega), cmpI] at hrel
        have HR := Lib.hid hrel
        clear hrel
        go_wp2_with (fail)
        go_ret
        exact ⟨ret_int HR.out, rfl⟩
/-- Cmp. -/
theorem cmpT_any (a b : TV) (w : World) (ha : a.Ok w) (hb : b.Ok w) : Calls Try.prog 30 #[.slice a.A a.l.length a.c, .slice b.A b.l.length b.c] w fun e w' => e = .returned (.int .i64 (cmpI a.l b.l)) ∧ w = w' := by
  have hc := cmpS_any a b w ha hb
  generalize cmpI a.l b.l = R at *
  clear ha hb
  go_enter Try.func30, Try.ntmps30
  go_wp2_with ((with_reducible refine hc.mono ?_); rintro e w' ⟨rfl, rfl⟩)
  go_ret
  exact ⟨rfl, rfl⟩
/-- same. -/
theorem sameT_any (a b : TV) (w : World) (ha : a.Ok w) (hb : b.Ok w) : Calls Try.prog 32 #[.slice a.A a.l.length a.c, .slice b.A b.l.length b.c] w fun e w' => e = .returned (.bool (decide (cmpI a.l b.l = 0))) ∧ w = w' := by
  have hc := cmpT_any a b w ha hb
  generalize cmpI a.l b.l = R at *
  clear ha hb
  by_cases h0 : R = 0
  · subst h0
    go_enter Try.func32, Try.ntmps32
    go_wp2_with ((with_reducible refine hc.mono ?_); rintro e w' ⟨rfl, rfl⟩)
    go_ret
    exact ⟨rfl, rfl⟩
  · have hd : decide (R = 0) = false := decide_eq_false h0
    have h0' : (R == 0) = false := beq_eq_false_iff_ne.2 h0
    rw [hd]
    clear hd
    go_enter Try.func32, Try.ntmps32
    go_wp2_with ((with_reducible refine hc.mono ?_); rintro e w' ⟨rfl, rfl⟩)
    go_ret
    exact ⟨rfl, rfl⟩
end Go.Proofs.Ytgjjdmkoamjdpaa
/- TupC, what this seat can fill of it. -/
namespace Go.Proofs.Ytgjjdmkoamjdpaa
/- Lists of tuples: whether one rises, whether all do. -/
open Go.RowKit Go.Maps

theorem drew_more {w wr : World} (h : ∃ n, wr = w.drewN n) (m : Nat) : ∃ n, wr.drewN m = w.drewN n := by
  obtain ⟨n, rfl⟩ := h
  exact ⟨n + m, World.drewN_drewN ..⟩
/-- A list's value. -/
structure LV where
  A : Option Addr
  ts : List TV
  c : Nat
def LV.val (x : LV) : Value := .slice x.A x.ts.length x.c
def LV.Ok (w : World) (x : LV) : Prop := Lst w x.A x.c x.ts
end Go.Proofs.Ytgjjdmkoamjdpaa
/- TupD, what this seat can fill of it. -/
namespace Go.Proofs.Ytgjjdmkoamjdpaa
/- What is in one set and not in another one: without, meet. -/
open Go.RowKit Go.Maps

theorem infoTup : (Try.prog.info? 63).map (fun i => (i.zero, i.size, i.bytes)) = some (some (.slice none 0 0), 1, 24) := by kernel_rfl
/-- A row of the call's own that holds these tuples. -/
def OwnT (w : World) (base : Nat) (v : Value) (ts : List TV) : Prop := w.ownsRow base 63 1 v ts.length (vals ts)
theorem OwnT.shape {w : World} {base : Nat} {v : Value} {ts : List TV} (h : OwnT w base v ts) : ∃ A c, v = .slice A ts.length c ∧ ts.length ≤ c ∧ Rd w w.heap.size A (vals ts) := by
  obtain ⟨A, c, e, h1, _, h2⟩ := own_shape h
  exact ⟨A, c, e, h1, h2⟩
theorem OwnT.lst {w : World} {base : Nat} {v : Value} {ts : List TV} (h : OwnT w base v ts) (hk : ∀ t ∈ ts, t.Ok w) (hs : ts.length ≤ 5000) : ∃ A c, v = .slice A ts.length c ∧ Lst w A c ts := by
  obtain ⟨A, c, e, h1, h2⟩ := h.shape
  exact ⟨A, c, e, h2, hk, h1, hs⟩
theorem drop_tus {ts : List TV} {k : Nat} (h : k < ts.length) : tus (ts.drop k) = ts[k].l :: tus (ts.drop (k + 1)) := by
  rw [List.drop_eq_getElem_cons h]; rfl
theorem Lst.nil (w : World) (A : Option Addr) (c : Nat) : Lst w A c [] := ⟨Rd.emp _ _ _, fun _ ht => (nomatch ht), Nat.zero_le _, Nat.zero_le _⟩
/-- append of one tuple. -/
theorem wpList_appT (w : World) {ops : Array Oper} {rest : List Oper} {o : Oper} {a : Act} {Q : Exit → Act → World → Prop} (hgd : o.guard = none) (s x : Operand)
    (ho : o.op = .call { callee := .builtin .append, args := #[s, x], argTypes := #[35, 35] })
    (base : Nat) (v : Value) (O : List TV) (hs : a.eval s = v) (hown : OwnT w base v O) (B : Nat) (A : Option Addr) (c : Nat) (ys : List TV) (m : Nat) (hx : a.eval x = .slice A m c) (hm : m = ys.length) (hr : Rd w B A (vals ys)) (hlen : O.length + ys.length ≤ 20000) (hbase : base ≤ w.heap.size)
    (h : ∀ v' w', OwnT w' base v' (O ++ ys) → w.grownBy w' v.ownBlock → wpList Try.prog ops Q rest (a.put o.dst v') w') : wpList Try.prog ops Q (o :: rest) a w := by
  subst hm
  obtain ⟨i0, hi, hz0, hz1, hz2⟩ := info_parts infoTup
  refine wpList_appR w hgd s x 35 ho base 63 i0 _ 1 24 Try.underlying35 hi hz0 hz1 hz2 rfl (by omega) v O.length (vals O) hs hown B A ys.length c (vals ys) hx (by rw [vals_len]; omega) hr (vals_one ys) (by omega) (by omega) hbase ?_
  intro v' w' h1 h2 _
  refine h v' w' ?_ h2
  unfold OwnT
  rw [vals_app, List.length_append]
  exact h1
theorem OwnT.low {w w' : World} {base : Nat} {v : Value} {O : List TV} (h : OwnT w base v O) (hg : w.grownBy w' v.ownBlock) (hb : base ≤ w.heap.size) : Below base w w' :=
  (Below.refl base w).grown hg hb (fun k hk => (World.ownsRow.lt h k hk).1)
/-- What without answers. -/
def WoPost (w : World) (a b : List TV) (e : Ending) (w' : World) : Prop :=
  ∃ v O, e = .returned v ∧ OwnT w' w.heap.size v O ∧ tus O = woL (tus a) (tus b) ∧ (∀ t ∈ O, t ∈ a) ∧ Below w.heap.size w w'
/-- The state of without's walk through b. -/
structure WoAt (w : World) (a b : List TV) (k : Nat) (m : Nat) (A' : Option Addr) (c' : Nat) (suf : List TV) : Prop where
  m : m = suf.length
  lst : Lst w A' c' suf
  pre : ∃ pre, b = pre ++ suf ∧ ∀ q ∈ tus pre, ∀ t ∈ tus (a.drop k), cmpI q t < 0
theorem WoAt.next {w : World} {a b : List TV} {k m : Nat} {A' : Option Addr} {c' : Nat} {suf : List TV} (h : WoAt w a b k m A' c' suf) : WoAt w a b (k + 1) m A' c' suf := by
  obtain ⟨h1, h2, pre, h3, h4⟩ := h
  refine ⟨h1, h2, pre, h3, fun q hq t ht => h4 q hq t ?_⟩
  rw [← List.drop_drop, tus, List.map_drop] at ht
  exact List.mem_of_mem_drop ht
theorem WoAt.start {w : World} {a b : List TV} {A' : Option Addr} {c' : Nat} (h : Lst w A' c' b) : WoAt w a b 0 b.length A' c' b := ⟨rfl, h, [], rfl, fun q hq => by cases hq⟩
theorem WoAt.below {w w' : World} {a b : List TV} {k m : Nat} {A' : Option Addr} {c' : Nat} {suf : List TV} (h : WoAt w a b k m A' c' suf) (hb : Below w.heap.size w w') : WoAt w' a b k m A' c' suf := ⟨h.m, h.lst.below hb, h.pre⟩
/-- One is passed by. -/
theorem WoAt.pass {w : World} {a b : List TV} {k m : Nat} {A' : Option Addr} {c' : Nat} {x : TV} {suf : List TV} (h : WoAt w a b k m A' c' (x :: suf)) (hk : k < a.length) (ha : Ris (tus a)) (hx : cmpI x.l a[k].l < 0) :
    ∃ b' o', A' = some ⟨b', o', none⟩ ∧ (c' = 1 → WoAt w a b k (m - 1) A' (c' - 1) suf) ∧ (c' ≠ 1 → WoAt w a b k (m - 1) (some ⟨b', o' + 1, none⟩) (c' - 1) suf) := by
  obtain ⟨h1, h2, pre, h3, h4⟩ := h
  obtain ⟨b', o', rfl, _, _⟩ := h2.cell (k := 0) (by simp)
  have hl : (x :: suf).length ≤ c' := h2.cap
  have hs : (x :: suf).length ≤ 5000 := h2.sm
  simp at hl hs
  have hcut := h2.rd.cut (k := 1) (size := 1) (cap := c') (n := (x :: suf).length) (by rw [vals_len]; omega) (by simp) h2.cap
  have hp : ∃ pre, b = pre ++ suf ∧ ∀ q ∈ tus pre, ∀ t ∈ tus (a.drop k), cmpI q t < 0 := by
    refine ⟨pre ++ [x], by rw [h3]; simp, fun q hq t ht => ?_⟩
    rw [tus_app, List.mem_append] at hq
    rcases hq with hq | hq
    · exact h4 q hq t ht
    · simp only [tus, List.map_cons, List.map_nil, List.mem_singleton] at hq
      subst hq
      have hd := drop_tus hk
      rw [hd] at ht
      rcases List.mem_cons.1 ht with rfl | ht
      · exact hx
      · refine cmpI_trans hx ?_
        have hp : Ris (tus (a.drop k)) := by unfold Ris tus at *; rw [List.map_drop]; exact ha.sublist (List.drop_sublist _ _)
        rw [hd] at hp
        exact (List.pairwise_cons.1 hp).1 t ht
  have hm : m - 1 = suf.length := by rw [h1]; simp
  refine ⟨b', o', rfl, fun hc => ?_, fun hc => ?_⟩
  · subst hc
    have : suf = [] := List.eq_nil_of_length_eq_zero (by omega)
    subst this
    exact ⟨hm, Lst.nil _ _ _, hp⟩
  · rw [if_neg hc] at hcut
    refine ⟨hm, ⟨?_, fun t ht => h2.ok t (List.mem_cons_of_mem _ ht), by omega, by omega⟩, hp⟩
    rw [Option.map_some, plainAdd] at hcut
    exact hcut
/-- What stands next tells whether it is there. -/
theorem WoAt.has {w : World} {a b : List TV} {k m : Nat} {A' : Option Addr} {c' : Nat} {suf : List TV} (h : WoAt w a b k m A' c' suf) (hk : k < a.length) (hb : Ris (tus b)) (hs : ∀ x r, suf = x :: r → ¬ cmpI x.l a[k].l < 0) : hasL (tus b) a[k].l = true ↔ ∃ x r, suf = x :: r ∧ cmpI x.l a[k].l = 0 := by
  obtain ⟨h1, h2, pre, rfl, h4⟩ := h
  rw [tus_app] at hb ⊢
  rw [has_next hb (fun q hq => h4 q hq _ (by rw [drop_tus hk]; exact List.mem_cons_self ..)) (fun x r e => by
    rcases suf with _ | ⟨y, s⟩
    · cases e
    · injection e with e1 e2
      subst e1
      exact hs y s rfl)]
  constructor
  · rintro ⟨x, r, e, hx⟩
    rcases suf with _ | ⟨y, s⟩
    · cases e
    · injection e with e1 e2
      subst e1
      exact ⟨y, s, rfl, hx⟩
  · rintro ⟨x, r, rfl, hx⟩
    exact ⟨x.l, tus r, rfl, hx⟩
/-- A slice's length. -/
def lenOf : Value → Nat
  | .slice _ n _ => n
  | _ => 0
end Go.Proofs.Ytgjjdmkoamjdpaa
/- TupE, what this seat can fill of it. -/
namespace Go.Proofs.Ytgjjdmkoamjdpaa
/- Two sets as one: joined. -/
open Go.RowKit Go.Maps

/-- A list without its first one. -/
theorem Lst.tail {w : World} {A : Option Addr} {c : Nat} {x : TV} {r : List TV} (h : Lst w A c (x :: r)) : ∃ b o, A = some ⟨b, o, none⟩ ∧ b < w.heap.size ∧ w.cell? ⟨b, o, none⟩ = some (.slice x.A x.l.length x.c) ∧ x.Ok w ∧ (c = 1 → Lst w A 0 r) ∧ (c ≠ 1 → Lst w (some ⟨b, o + 1, none⟩) (c - 1) r) := by
  obtain ⟨b, o, rfl, hb, hc⟩ := h.cell (k := 0) (by simp)
  have hl : (x :: r).length ≤ c := h.cap
  have hs : (x :: r).length ≤ 5000 := h.sm
  simp only [List.length_cons] at hl hs
  refine ⟨b, o, rfl, hb, hc, h.ok x (List.mem_cons_self ..), fun e => ?_, fun e => ?_⟩
  · have : r = [] := List.eq_nil_of_length_eq_zero (by omega)
    rw [this]
    exact Lst.nil _ _ _
  · have hcut := h.rd.cut (k := 1) (size := 1) (cap := c) (n := (x :: r).length) (by rw [vals_len]; omega) (by simp) h.cap
    rw [if_neg e, Option.map_some, plainAdd] at hcut
    exact ⟨hcut, fun t ht => h.ok t (List.mem_cons_of_mem _ ht), by omega, by omega⟩
/-- append of one tuple whose run is known ahead. -/
theorem run_appT (W : World) (base : Nat) (v : Value) (O : List TV) (hown : OwnT W base v O) (B : Nat) (A : Option Addr) (c : Nat) (ys : List TV) (m : Nat) (hm : m = ys.length) (hr : Rd W B A (vals ys)) (hlen : O.length + ys.length ≤ 20000) (hbase : base ≤ W.heap.size) :
    ∃ v' w', (Builtin.append_ #[35, 35] 35 #[v, .slice A m c]).run Try.prog W = .ok v' w' ∧ OwnT w' base v' (O ++ ys) ∧ Below base W w' := by
  subst hm
  obtain ⟨i0, hi, hz0, hz1, hz2⟩ := info_parts infoTup
  obtain ⟨v', w', h1, h2, h3, _⟩ := run_appR (P := Try.prog) W base 35 35 63 i0 _ 1 24 Try.underlying35 hi hz0 hz1 hz2 rfl (by omega) v O.length (vals O) hown B A ys.length c (vals ys) (by rw [vals_len]; omega) hr (vals_one ys) (by omega) (by omega) hbase
  refine ⟨v', w', h1, ?_, hown.low h3 hbase⟩
  unfold OwnT
  rw [vals_app, List.length_append]
  exact h2
/-- What joined answers. -/
def JoPost (w : World) (a b : List TV) (e : Ending) (w' : World) : Prop :=
  ∃ v O, e = .returned v ∧ OwnT w' w.heap.size v O ∧ tus O = mrg (tus a) (tus b) ∧ (∀ t ∈ O, t ∈ a ∨ t ∈ b) ∧ Below w.heap.size w w'
/-- joined's state. -/
structure JoAt (w wr : World) (a b s1 s2 O : List TV) (out : Value) : Prop where
  own : OwnT wr w.heap.size out O
  eq : tus O ++ mrg (tus s1) (tus s2) = mrg (tus a) (tus b)
  mem : ∀ t ∈ O, t ∈ a ∨ t ∈ b
  m1 : ∀ t ∈ s1, t ∈ a
  m2 : ∀ t ∈ s2, t ∈ b
  below : Below w.heap.size w wr
theorem JoAt.len {w wr : World} {a b s1 s2 O : List TV} {out : Value} (h : JoAt w wr a b s1 s2 O out) : O.length + s1.length + s2.length = a.length + b.length := by
  have := congrArg List.length h.eq
  rw [List.length_append, mrg_len, mrg_len, tus_len, tus_len, tus_len, tus_len, tus_len] at this
  omega
theorem JoAt.left {w wr w' : World} {a b s1 s2 O : List TV} {x y : TV} {out v' : Value} (h : JoAt w wr a b (x :: s1) (y :: s2) O out) (hc : cmpI x.l y.l < 0) (ho : OwnT w' w.heap.size v' (O ++ [x])) (hb : Below w.heap.size wr w') : JoAt w w' a b s1 (y :: s2) (O ++ [x]) v' := by
  refine ⟨ho, ?_, fun t ht => ?_, fun t ht => h.m1 t (List.mem_cons_of_mem _ ht), h.m2, h.below.trans hb⟩
  · have := h.eq
    simp only [tus, List.map_cons] at this ⊢
    rw [mrg_cons, if_pos hc] at this
    rw [← this]
    simp
  · rcases List.mem_append.1 ht with ht | ht
    · exact h.mem t ht
    · rw [List.mem_singleton.1 ht]; exact .inl (h.m1 x (List.mem_cons_self ..))
theorem JoAt.right {w wr w' : World} {a b s1 s2 O : List TV} {x y : TV} {out v' : Value} (h : JoAt w wr a b (x :: s1) (y :: s2) O out) (hc : ¬ cmpI x.l y.l < 0) (ho : OwnT w' w.heap.size v' (O ++ [y])) (hb : Below w.heap.size wr w') : JoAt w w' a b (x :: s1) s2 (O ++ [y]) v' := by
  refine ⟨ho, ?_, fun t ht => ?_, h.m1, fun t ht => h.m2 t (List.mem_cons_of_mem _ ht), h.below.trans hb⟩
  · have := h.eq
    simp only [tus, List.map_cons] at this ⊢
    rw [mrg_cons, if_neg hc] at this
    rw [← this]
    simp
  · rcases List.mem_append.1 ht with ht | ht
    · exact h.mem t ht
    · rw [List.mem_singleton.1 ht]; exact .inr (h.m2 y (List.mem_cons_self ..))
theorem JoAt.done {w wr : World} {a b s1 s2 O : List TV} {out : Value} (h : JoAt w wr a b s1 s2 O out) (h0 : s1 = [] ∨ s2 = []) : tus (O ++ s1 ++ s2) = mrg (tus a) (tus b) := by
  rw [← h.eq, tus_app, tus_app, List.append_assoc]
  congr 1
  rcases h0 with rfl | rfl
  · show [] ++ _ = mrg [] _
    rw [mrg_nil_left]; rfl
  · show _ ++ [] = mrg _ []
    rw [mrg_nil_right, List.append_nil]
theorem JoAt.size {w wr : World} {a b s1 s2 O : List TV} {out : Value} (h : JoAt w wr a b s1 s2 O out) : w.heap.size ≤ wr.heap.size := h.below.size
theorem JoAt.drewN {w wr : World} {a b s1 s2 O : List TV} {out : Value} (h : JoAt w wr a b s1 s2 O out) (n : Nat) : JoAt w (wr.drewN n) a b s1 s2 O out := ⟨h.own, h.eq, h.mem, h.m1, h.m2, below_draws h.below n⟩
/-- The step of joined that takes one: the row it goes to. -/
theorem jo_app {w wr : World} {out : Value} {O : List TV} (x : TV) (ho : OwnT wr w.heap.size out O) (hl : O.length ≤ 10000) (hw : w.heap.size ≤ wr.heap.size) :
    ∃ v' w', (Builtin.append_ #[35, 35] 35 #[out, .slice (some ⟨wr.heap.size, 0, none⟩) 1 1]).run Try.prog (wr.alloc (.cells #[.slice x.A x.l.length x.c] 63)).drew = .ok v' w' ∧ OwnT w' w.heap.size v' (O ++ [x]) ∧ Below w.heap.size wr w' := by
  have h1 : OwnT (wr.alloc (.cells #[.slice x.A x.l.length x.c] 63)).drew w.heap.size out O := World.ownsRow.alloc ho _
  obtain ⟨v', w', h2, h3, h4⟩ := run_appT _ w.heap.size out O h1 (wr.heap.size + 1) (some ⟨wr.heap.size, 0, none⟩) 1 [x] 1 rfl (Rd.new wr #[.slice x.A x.l.length x.c] 63 (0, 0)).drew (by simp; omega) (by simp; omega)
  exact ⟨v', w', h2, h3, (((Below.refl _ wr).alloc hw _).drew).trans h4⟩
theorem jo_end {w wr w3 : World} {a b s1 s2 O : List TV} {out v : Value} (h : JoAt w wr a b s1 s2 O out) (h0 : s1 = [] ∨ s2 = []) (ho : OwnT w3 w.heap.size v (O ++ s1 ++ s2)) (hb : Below w.heap.size wr w3) : JoPost w a b (.returned v) w3 := by
  refine ⟨v, O ++ s1 ++ s2, rfl, ho, h.done h0, fun t ht => ?_, h.below.trans hb⟩
  rcases List.mem_append.1 ht with ht | ht
  · rcases List.mem_append.1 ht with ht | ht
    · exact h.mem t ht
    · exact .inl (h.m1 t ht)
  · exact .inr (h.m2 t ht)
theorem makeT (n : Nat) (hn : n ≤ 20000) (w : World) : (Instr.makeSlice 35 (.int .i64 0) (.int .i64 (n : Int))).run Try.prog w = .ok (.slice (some ⟨w.heap.size, 0, none⟩) 0 n) (w.alloc (.cells (madeCells #[.slice none 0 0] n) 63)) := by
  obtain ⟨i0, hi, hz0, hz1, hz2⟩ := info_parts infoTup
  have h := run_make (P := Try.prog) w 35 63 i0 _ Try.underlying35 hi hz0 .i64 .i64 0 n (by omega) (by omega) (by rw [hz2]; omega) (by omega)
  rw [hz1, Int.toNat_natCast, Nat.mul_one] at h
  exact h
end Go.Proofs.Ytgjjdmkoamjdpaa
/- TupF, what this seat can fill of it. -/
namespace Go.Proofs.Ytgjjdmkoamjdpaa
/- Copies of lists of tuples: copied; Diff, Back, Empty. -/
open Go.RowKit Go.Maps

/-- A tuple of the call's own. -/
def OwnI (w : World) (lo : Nat) (t : TV) : Prop := w.ownsRow lo 3 1 t.val t.l.length (intsV t.l)
theorem intsV_one (l : Tu) : ∀ u ∈ intsV l, u.oneCell' = true := by
  intro u hu
  obtain ⟨t, _, rfl⟩ := List.mem_map.1 hu
  rfl
/-- Two tuples in blocks of their own. -/
def Off (t u : TV) : Prop := ∀ a b, t.A = some a → u.A = some b → a.block ≠ b.block
theorem Off.symm {t u : TV} (h : Off t u) : Off u t := fun a b ha hb e => h b a hb ha e.symm
/-- A list of the call's own, each tuple in a block of its own. -/
structure OwnL (w : World) (lo : Nat) (v : Value) (ts : List TV) : Prop where
  row : OwnT w lo v ts
  tup : ∀ t ∈ ts, OwnI w lo t
  sm : ∀ t ∈ ts, t.l.length ≤ 5000
  off : ts.Pairwise Off
theorem OwnI.ok {w : World} {lo : Nat} {t : TV} (h : OwnI w lo t) (hs : t.l.length ≤ 5000) : t.Ok w := by
  obtain ⟨A, c, e, h1, _, h2⟩ := own_shape h
  unfold TV.val at e
  injection e with e1 e2 e3
  subst e1 e3
  exact ⟨h2, h1, hs⟩
theorem OwnI.lo {w : World} {lo : Nat} {t : TV} (h : OwnI w lo t) : ∀ a, t.A = some a → lo ≤ a.block ∧ a.block < w.heap.size := by
  intro a ha
  have := World.ownsRow.lt h a.block (by unfold TV.val; rw [ha]; rfl)
  exact this
theorem OwnI.below {w w' : World} {lo : Nat} {t : TV} (h : OwnI w lo t) (hb : Below w.heap.size w w') : OwnI w' lo t := own_below h hb (Nat.le_refl _)
theorem OwnI.fr {w w' : World} {lo : Nat} {t : TV} {S : List Nat} (h : OwnI w lo t) (hf : Fr w w' S) (hS : ∀ a, t.A = some a → a.block ∉ S) : OwnI w' lo t :=
  rowFrS h hf fun s hs => by
    rcases hA : t.A with _ | a
    · unfold TV.val at hs; rw [hA] at hs; simp [Value.ownBlock] at hs
    · unfold TV.val at hs; rw [hA] at hs; simp [Value.ownBlock] at hs; rw [hs]; exact hS a hA
theorem OwnT.below {w w' : World} {lo : Nat} {v : Value} {ts : List TV} (h : OwnT w lo v ts) (hb : Below w.heap.size w w') : OwnT w' lo v ts := own_below h hb (Nat.le_refl _)
theorem OwnL.below {w w' : World} {lo : Nat} {v : Value} {ts : List TV} (h : OwnL w lo v ts) (hb : Below w.heap.size w w') : OwnL w' lo v ts :=
  ⟨h.row.below hb, fun t ht => (h.tup t ht).below hb, h.sm, h.off⟩
theorem OwnL.mono {w : World} {lo lo' : Nat} {v : Value} {ts : List TV} (h : OwnL w lo v ts) (hl : lo' ≤ lo) : OwnL w lo' v ts :=
  ⟨own_mono h.row hl, fun t ht => own_mono (h.tup t ht) hl, h.sm, h.off⟩
theorem OwnL.lst {w : World} {lo : Nat} {v : Value} {ts : List TV} (h : OwnL w lo v ts) (hs : ts.length ≤ 5000) : ∃ A c, v = .slice A ts.length c ∧ Lst w A c ts :=
  h.row.lst (fun t ht => (h.tup t ht).ok (h.sm t ht)) hs
/-- What copied answers. -/
def CoPost (w : World) (ts : List TV) (e : Ending) (w' : World) : Prop := ∃ v us, e = .returned v ∧ OwnL w' w.heap.size v us ∧ tus us = tus ts ∧ Below w.heap.size w w'
def nilV : Value := .slice none 0 0
theorem madeN (n : Nat) : madeCells #[.slice none 0 0] n = Array.replicate n nilV := by
  apply Array.toList_inj.1
  rw [toList_madeCells_one, Array.toList_replicate]
  rfl
/-- append whose run is known. -/
theorem wpL_appK {ops : Array Oper} {rest : List Oper} {o : Oper} {a : Act} {Q : Exit → Act → World → Prop} (w : World) (hgd : o.guard = none) (s x : Operand) (t : TypeId)
    (ho : o.op = .call { callee := .builtin .append, args := #[s, x], argTypes := #[t, t] }) (hty : o.type = t) (v y v' : Value) (w' : World) (hs : a.eval s = v) (hx : a.eval x = y)
    (hrun : (Builtin.append_ #[t, t] t #[v, y]).run Try.prog w = .ok v' w') (h : wpList Try.prog ops Q rest (a.put o.dst v') w') : wpList Try.prog ops Q (o :: rest) a w := by
  refine wpList_plain hgd fun K hK => ?_
  exact step_appK' w s x t ho hty v y v' w' hs hx hrun (hK _ _ h)
theorem makeTT (n : Nat) (hn : n ≤ 20000) (w : World) : (Instr.makeSlice 35 (.int .i64 (n : Int)) (.int .i64 (n : Int))).run Try.prog w = .ok (.slice (some ⟨w.heap.size, 0, none⟩) n n) (w.alloc (.cells (Array.replicate n nilV) 63)) := by
  have h := run_make_row' (P := Try.prog) 35 63 (.slice none 0 0) 24 Try.underlying35 infoTup rfl .i64 .i64 n (by omega) (by omega) w
  rw [madeN] at h
  exact h
/-- append of a tuple onto nil. -/
theorem run_appI (W : World) (x : TV) (hx : x.Ok W) :
    ∃ u : TV, ∃ w', (Builtin.append_ #[63, 63] 63 #[.slice none 0 0, .slice x.A x.l.length x.c]).run Try.prog W = .ok (.slice u.A u.l.length u.c) w' ∧ u.l = x.l ∧ OwnI w' W.heap.size u ∧ Below W.heap.size W w' := by
  obtain ⟨i0, hi, hz0, hz1, hz2⟩ := info_parts infoInt
  obtain ⟨v', w', h1, h2, h3, _⟩ := run_appR (P := Try.prog) W W.heap.size 63 63 3 i0 _ 1 8 Try.underlying63 hi hz0 hz1 hz2 rfl (by omega) (.slice none 0 0) 0 [] (World.ownsRow_nil _ _ _ _) W.heap.size x.A x.l.length x.c (intsV x.l) (by rw [intsV_len]; omega) hx.rd (intsV_one _) (by have := hx.sm; omega) (by omega) (Nat.le_refl _)
  rw [Nat.zero_add, List.nil_append] at h2
  obtain ⟨A, c, rfl, _, _, _⟩ := own_shape h2
  exact ⟨⟨A, x.l, c⟩, w', h1, rfl, h2, (Below.refl _ W).grown h3 (Nat.le_refl _) (fun k hk => nomatch hk)⟩
/-- copied's state behind k tuples. -/
structure CoAt (w wr : World) (ts us : List TV) (k : Nat) : Prop where
  len : us.length = k
  row : wr.ownsRow w.heap.size 63 1 (.slice (some ⟨w.heap.size, 0, none⟩) ts.length ts.length) ts.length (vals us ++ List.replicate (ts.length - k) nilV)
  eq : tus us = (tus ts).take k
  tup : ∀ u ∈ us, OwnI wr w.heap.size u
  off : us.Pairwise Off
  at1 : ∀ u ∈ us, ∀ a, u.A = some a → a.block ≠ w.heap.size
  below : Below w.heap.size w wr
theorem CoAt.next {w wr w5 : World} {ts us : List TV} {k : Nat} {u : TV} (h : CoAt w wr ts us k) (hk : k < ts.length) (hu : u.l = ts[k].l) (ho : OwnI w5 wr.heap.size u) (hb : Below wr.heap.size wr w5) :
    CoAt w (w5.setCell ⟨w.heap.size, k, none⟩ (.slice u.A u.l.length u.c)) ts (us ++ [u]) (k + 1) := by
  have hr5 := own_below h.row hb (Nat.le_refl _)
  have hlt : w.heap.size < wr.heap.size := (World.ownsRow.lt h.row w.heap.size rfl).2
  obtain ⟨hst, hgr⟩ := World.ownsRow.stored hr5 k u.val
  have hfr := Fr.of_grown hgr
  have hnot : ∀ a, u.A = some a → a.block ≠ w.heap.size := fun a ha => by have := ho.lo a ha; omega
  refine ⟨by rw [List.length_append, h.len]; rfl, ?_, ?_, fun t ht => ?_, ?_, fun t ht a ha => ?_, ?_⟩
  · have e : (vals us ++ List.replicate (ts.length - k) nilV).set k u.val = vals (us ++ [u]) ++ List.replicate (ts.length - (k + 1)) nilV := by
      rw [List.set_append, if_neg (by rw [vals_len, h.len]; omega), vals_len, h.len, Nat.sub_self, show ts.length - k = (ts.length - (k + 1)) + 1 by omega, List.replicate_succ, List.set_cons_zero, vals_app, List.append_assoc]
      rfl
    rw [← e]
    exact hst
  · rw [tus_app, h.eq, List.take_succ_eq_append_getElem (by rw [tus_len]; exact hk), tus_at ts k hk]
    show _ ++ [u.l] = _
    rw [hu]
  · rcases List.mem_append.1 ht with ht | ht
    · exact ((h.tup t ht).below hb).fr hfr fun a ha hm => h.at1 t ht a ha (List.mem_singleton.1 hm)
    · rw [List.mem_singleton.1 ht]
      exact OwnI.fr (own_mono ho (Nat.le_of_lt hlt)) hfr fun a ha hm => hnot a ha (List.mem_singleton.1 hm)
  · rw [List.pairwise_append]
    refine ⟨h.off, List.pairwise_singleton _ _, fun x hx y hy a b ha hb' e => ?_⟩
    rw [List.mem_singleton.1 hy] at hb'
    have h1 := ho.lo b hb'
    have h2 := (h.tup x hx).lo a ha
    omega
  · rcases List.mem_append.1 ht with ht | ht
    · exact h.at1 t ht a ha
    · rw [List.mem_singleton.1 ht] at ha
      exact hnot a ha
  · exact (h.below.trans (lower hb h.below.size)).setCell (Nat.le_refl _) _
set_option maxRecDepth 100000 in
set_option maxHeartbeats 2000000 in
/-- copied. -/
theorem copied_any (x : LV) (w : World) (hx : x.Ok w) : Calls Try.prog 28 #[.slice x.A x.ts.length x.c] w (CoPost w x.ts) := by
  have hs := hx.sm
  have hmk := makeTT x.ts.length (by omega) w
  have h0 : CoAt w (w.alloc (.cells (Array.replicate x.ts.length nilV) 63)) x.ts [] 0 :=
    ⟨rfl, by have := World.ownsRow_lit (base := w.heap.size) (size := 1) (e := 63) w (Array.replicate x.ts.length nilV) x.ts.length (Nat.le_refl _) (by simp [maxLen]; omega) (by simp); simpa [vals] using this, rfl, fun _ h => (nomatch h), .nil, fun _ h => (nomatch h), (Below.refl _ _).alloc (Nat.le_refl _) _⟩
  have HA := Lib.hid (And.intro hx h0)
  clear hx h0
  go_enter Try.func28, Try.ntmps28
  go_wp2_with (fail)
  generalize w.alloc (.cells (Array.replicate x.ts.length nilV) 63) = w1 at HA ⊢
  clear hmk
  go_loopw [11] (fun i wr => ∃ (k : Nat) (us : List TV), k ≤ x.ts.length ∧ i = .int .i64 k ∧ Hid (CoAt w wr x.ts us k)) (fun i _ => x.ts.length - (intOf i).toNat)
  case atStart => exact ⟨0, [], by omega, rfl, Lib.hid HA.out.2⟩
  case round =>
    obtain ⟨k, us, hk, rfl, HC⟩ := hrel
    by_cases hlt : k < x.ts.length
    · obtain ⟨xb, xo, hxa, hxl, hxc⟩ := HA.out.1.cell hlt
      have hxc' : wr.cell? ⟨xb, xo + k, none⟩ = _ := (HC.out.below.cell (p := ⟨xb, xo + k, none⟩) hxl).trans hxc
      have hok : x.ts[k].Ok wr := (HA.out.1.at hlt).below HC.out.below
      obtain ⟨u, w5, hrun, hul, hown, hb⟩ := run_appI wr x.ts[k] hok
      have hr5 := own_below HC.out.row hb (Nat.le_refl _)
      have c5 : w5.cell? ⟨w.heap.size, k, none⟩ = some nilV := by
        rw [World.ownsRow.cellAt hr5 k (by omega), List.getElem?_append_right (by rw [vals_len, HC.out.len]; exact Nat.le_refl _), vals_len, HC.out.len, Nat.sub_self, List.getElem?_replicate, if_pos (by omega)]
      have f5 := World.ownsRow.frozenAt hr5 k
      have HN := Lib.hid (HC.out.next hlt hul hown hb)
      rw [hxa]
      clear hxc hok hr5 hul hown hb
      generalize x.ts[k] = y at hxc' hrun
      unfold nilV at c5
      go_wp2_with (at_builtin; refine wpL_appK _ rfl (.const (.slice none 0 0)) (.tmp 18) 63 rfl rfl _ _ _ _ rfl rfl hrun ?_)
      go_roundw
      case rel => exact ⟨k + 1, _, by omega, by go_num, HN⟩
      case measure => simp [intOf]; omega
    · have g0 : ¬ (k : Int) < (x.ts.length : Int) := by omega
      go_wp2_with (fail)
      go_ret
      have h := HC.out
      have hk' : k = x.ts.length := by omega
      subst hk'
      refine ⟨_, us, rfl, ⟨?_, h.tup, fun t ht => ?_, h.off⟩, ?_, h.below⟩
      · have := h.row
        rw [Nat.sub_self, List.replicate_zero, List.append_nil] at this
        unfold OwnT
        rw [h.len]
        exact this
      · have h1 := mem_tus ht
        rw [h.eq] at h1
        obtain ⟨t', ht', e⟩ := List.mem_map.1 (List.mem_of_mem_take h1)
        rw [← e]
        exact (HA.out.1.ok t' ht').sm
      · rw [h.eq, List.take_of_length_le (by rw [tus_len]; exact Nat.le_refl _)]
end Go.Proofs.Ytgjjdmkoamjdpaa
/- TupG, what this seat can fill of it. -/
namespace Go.Proofs.Ytgjjdmkoamjdpaa
/- Diff, of two lists. -/
open Go.RowKit Go.Maps

/-- A list is answered that reads as R. -/
def WoL (w : World) (R : List Tu) (e : Ending) (w' : World) : Prop := ∃ x : LV, e = .returned (.slice x.A x.ts.length x.c) ∧ x.Ok w' ∧ tus x.ts = R ∧ Below w.heap.size w w'
theorem LV.Ok.below {w w' : World} {x : LV} (h : x.Ok w) (hb : Below w.heap.size w w') : x.Ok w' := Lst.below h hb
theorem LV.Ok.drewN {w : World} {x : LV} (h : x.Ok w) (n : Nat) : x.Ok (w.drewN n) := Lst.drewN h n
/-- A list of the call's own is answered that reads as R. -/
def CoL (w : World) (R : List Tu) (e : Ending) (w' : World) : Prop := ∃ x : LV, e = .returned (.slice x.A x.ts.length x.c) ∧ OwnL w' w.heap.size x.val x.ts ∧ x.Ok w' ∧ tus x.ts = R ∧ Below w.heap.size w w'
theorem copied_l (x : LV) (w : World) (hx : x.Ok w) : Calls Try.prog 28 #[.slice x.A x.ts.length x.c] w (CoL w (tus x.ts)) := by
  refine (copied_any x w hx).mono ?_
  rintro e w' ⟨v, us, rfl, h1, h2, h3⟩
  have hl : us.length ≤ 5000 := by
    have e1 := congrArg List.length h2
    have e3 := hx.sm
    rw [tus_len, tus_len] at e1
    omega
  obtain ⟨A, c, rfl, hL⟩ := h1.lst hl
  exact ⟨⟨A, us, c⟩, rfl, h1, hL, h2, h3⟩
/-- All its blocks lie below m. -/
def LtB (x : LV) (m : Nat) : Prop := (∀ a, x.A = some a → a.block < m) ∧ ∀ t ∈ x.ts, ∀ a, t.A = some a → a.block < m
theorem OwnL.lt {w : World} {lo : Nat} {x : LV} (h : OwnL w lo x.val x.ts) : LtB x w.heap.size :=
  ⟨fun a ha => (World.ownsRow.lt h.row a.block (by unfold LV.val; rw [ha]; rfl)).2, fun t ht a ha => ((h.tup t ht).lo a ha).2⟩
theorem LtB.mono {x : LV} {m n : Nat} (h : LtB x m) (hn : m ≤ n) : LtB x n := ⟨fun a ha => Nat.lt_of_lt_of_le (h.1 a ha) hn, fun t ht a ha => Nat.lt_of_lt_of_le (h.2 t ht a ha) hn⟩
/-- .. where elder blocks have turned. -/
theorem OwnL.fr {w w' : World} {lo : Nat} {v : Value} {ts : List TV} {S : List Nat} (h : OwnL w lo v ts) (hf : Fr w w' S) (hS : ∀ s ∈ S, s < lo) : OwnL w' lo v ts :=
  ⟨rowFrS h.row hf fun s hs hm => by have := (World.ownsRow.lt h.row s (by simpa using hs)).1; have := hS s hm; omega, fun t ht => (h.tup t ht).fr hf fun a ha hm => by have := ((h.tup t ht).lo a ha).1; have := hS _ hm; omega, h.sm, h.off⟩
theorem OwnL.ok' {w : World} {lo : Nat} {x : LV} {v : Value} (h : OwnL w lo v x.ts) (hs : x.ts.length ≤ 5000) (hv : v = x.val) : x.Ok w := by
  obtain ⟨A, c, e, hL⟩ := h.lst hs
  rw [hv] at e
  unfold LV.val at e
  injection e with e1 e2 e3
  unfold LV.Ok
  rw [e1, e3]
  exact hL
/-- A delta of two lists of the call's own is answered. -/
def DeL (w : World) (P Q : List Tu) (e : Ending) (w' : World) : Prop :=
  ∃ (x y : LV) (m : Nat), e = .returned (.tuple #[.agg #[.slice x.A x.ts.length x.c, .slice y.A y.ts.length y.c], .int .i64 0]) ∧ OwnL w' w.heap.size x.val x.ts ∧ x.Ok w' ∧ LtB x m ∧ w.heap.size ≤ m ∧ OwnL w' m y.val y.ts ∧ y.Ok w' ∧ tus x.ts = P ∧ tus y.ts = Q ∧ Below w.heap.size w w'
/-- No delta: an error. -/
def DeErr (w : World) (n : Int) (e : Ending) (w' : World) : Prop := e = .returned (.tuple #[.agg #[.slice none 0 0, .slice none 0 0], .int .i64 n]) ∧ Below w.heap.size w w'
theorem two_lists (w : World) (a b : LV) : Rd (w.alloc (.cells #[.slice a.A a.ts.length a.c, .slice b.A b.ts.length b.c] 35)) (w.alloc (.cells #[.slice a.A a.ts.length a.c, .slice b.A b.ts.length b.c] 35)).heap.size (some ⟨w.heap.size, 0, none⟩) ([a, b].map LV.val) := by
  have := Rd.new w #[.slice a.A a.ts.length a.c, .slice b.A b.ts.length b.c] 35 (0, 0)
  rw [alloc1_size]
  exact this
theorem set2 {w : World} {b : Nat} {t : TypeId} {x0 x1 : Value} (h : w.heap[b]? = some (.cells #[x0, x1] t (0, 0))) (v0 v1 : Value) :
    ((w.setCell ⟨b, 0, none⟩ v0).setCell ⟨b, 1, none⟩ v1).heap[b]? = some (.cells #[v0, v1] t (0, 0)) := by
  have h1 := heap_setCell_same w b 0 #[x0, x1] t v0 h
  have h2 := heap_setCell_same _ b 1 _ t v1 h1
  simpa using h2
theorem below_set2 {B b : Nat} {a w : World} (h : Below B a w) (hb : B ≤ b) (v0 v1 : Value) : Below B a ((w.setCell ⟨b, 0, none⟩ v0).setCell ⟨b, 1, none⟩ v1) :=
  (h.setCell hb _).setCell hb _
theorem fr_set2 (w : World) (b : Nat) (v0 v1 : Value) : Fr w ((w.setCell ⟨b, 0, none⟩ v0).setCell ⟨b, 1, none⟩ v1) [b] :=
  ((Fr.refl w [b]).setCell (List.mem_singleton.2 rfl) _).setCell (List.mem_singleton.2 rfl) _
end Go.Proofs.Ytgjjdmkoamjdpaa
/- TupH, what this seat can fill of it. -/
namespace Go.Proofs.Ytgjjdmkoamjdpaa
/- Back, Empty; Diff in one word. -/
open Go.RowKit Go.Maps

/-- Diff, plainly. -/
def diffP (a b : List Tu) : Int × List Tu × List Tu := if (risB a && risB b) = true then (0, woL b a, woL a b) else (1, [], [])
/-- Apply, plainly. -/
def applyP (s a d : List Tu) : Int × List Tu :=
  if (risB s && (risB a && risB d)) = true then
    if meetL a s = true then (2, []) else if 0 < (woL d s).length then (4, []) else (0, setL (woL s d ++ a))
  else (1, [])
/-- Then, plainly. -/
def thenP (a1 a2 b1 b2 : List Tu) : Int × List Tu × List Tu :=
  if (risB a1 && (risB a2 && (risB b1 && risB b2))) = true then
    if (meetL a1 b1 || meetL a2 b2 || meetL a1 a2 || meetL b1 b2) = true then (2, [], []) else (0, setL (woL a1 b2 ++ woL b1 a2), setL (woL a2 b1 ++ woL b2 a1))
  else (1, [], [])
def nilL : LV := ⟨none, [], 0⟩
theorem nil_own (w : World) (lo : Nat) : OwnL w lo nilL.val nilL.ts := ⟨World.ownsRow_nil _ _ _ _, fun _ h => (nomatch h), fun _ h => (nomatch h), .nil⟩
theorem nil_ok (w : World) : nilL.Ok w := Lst.nil _ _ _
theorem nil_lt (m : Nat) : LtB nilL m := ⟨fun _ h => (nomatch h), fun _ h => (nomatch h)⟩
/-- What a call answers that has a delta and an error's number. -/
def DePost (w : World) (p : Int × List Tu × List Tu) (e : Ending) (w' : World) : Prop :=
  ∃ (x y : LV) (m : Nat), e = .returned (.tuple #[.agg #[.slice x.A x.ts.length x.c, .slice y.A y.ts.length y.c], .int .i64 p.1]) ∧ OwnL w' w.heap.size x.val x.ts ∧ x.Ok w' ∧ LtB x m ∧ w.heap.size ≤ m ∧ OwnL w' m y.val y.ts ∧ y.Ok w' ∧ tus x.ts = p.2.1 ∧ tus y.ts = p.2.2 ∧ Below w.heap.size w w'
theorem DeErr.post {w : World} {n : Int} {e : Ending} {w' : World} (h : DeErr w n e w') : DePost w (n, [], []) e w' :=
  ⟨nilL, nilL, w.heap.size, h.1, nil_own _ _, nil_ok _, nil_lt _, Nat.le_refl _, nil_own _ _, nil_ok _, rfl, rfl, h.2⟩
theorem DeL.post {w : World} {P Q : List Tu} {e : Ending} {w' : World} (h : DeL w P Q e w') : DePost w (0, P, Q) e w' := h
theorem keep_set2 {w : World} {b q i : Nat} {v : Option Value} (h : w.cell? ⟨q, i, none⟩ = v) (hne : q ≠ b) (v0 v1 : Value) : ((w.setCell ⟨b, 0, none⟩ v0).setCell ⟨b, 1, none⟩ v1).cell? ⟨q, i, none⟩ = v := by
  rw [World.cell?_setCell_other _ _ _ _ (by intro e; injection e with e; exact hne e.symm), World.cell?_setCell_other _ _ _ _ (by intro e; injection e with e; exact hne e.symm)]
  exact h
/-- What Back answers. -/
def BaPost (w : World) (P Q : List Tu) (e : Ending) (w' : World) : Prop :=
  ∃ (x y : LV), e = .returned (.agg #[.slice x.A x.ts.length x.c, .slice y.A y.ts.length y.c]) ∧ OwnL w' w.heap.size x.val x.ts ∧ x.Ok w' ∧ OwnL w' w.heap.size y.val y.ts ∧ y.Ok w' ∧ tus x.ts = P ∧ tus y.ts = Q ∧ Below w.heap.size w w'
end Go.Proofs.Ytgjjdmkoamjdpaa
/- JoTK, what this seat can fill of it. -/
namespace Go.Proofs.Ytgjjdmkoamjdpaa
/- TupK, what this seat can fill of it. -/
open Go.RowKit Go.Maps

theorem rd_at {w : World} {t : TV} (h : t.Ok w) {b o : Nat} (e : t.A = some ⟨b, o, none⟩) {k : Nat} (hk : k < t.l.length) : w.cell? ⟨b, o + k, none⟩ = some (.int .i64 t.l[k]) := by
  obtain ⟨b', o', e', _, hc⟩ := h.cell hk
  rw [e] at e'
  injection e' with e'
  injection e' with e1 e2
  subst e1 e2
  exact hc
theorem hasL_snoc (l : List Tu) (u t : Tu) : hasL (l ++ [u]) t = (hasL l t || decide (cmpI u t = 0)) := by
  unfold hasL
  rw [List.any_append]
  simp
end Go.Proofs.Ytgjjdmkoamjdpaa
/- JoTL, what this seat can fill of it. -/
namespace Go.Proofs.Ytgjjdmkoamjdpaa
/- TupL, what this seat can fill of it. -/
open Go.RowKit Go.Maps

theorem cmp_m1 {a b : Tu} : cmpI a b = -1 ↔ cmpI a b < 0 := by
  have := cmpI_rng a b
  omega
theorem list_same {a b : List Tu} (hl : a.length = b.length) (h : ∀ i, (ha : i < a.length) → (hb : i < b.length) → cmpI a[i] b[i] = 0) : a = b :=
  List.ext_getElem hl fun i ha hb => cmpI_eq (h i ha hb)
end Go.Proofs.Ytgjjdmkoamjdpaa
/- JoTM, what this seat can fill of it. -/
namespace Go.Proofs.Ytgjjdmkoamjdpaa
/- TupM, what this seat can fill of it. -/
open Go.RowKit Go.Maps

/-- append of one tuple, out of a row just made. -/
theorem wpList_app1 (wr : World) {ops : Array Oper} {rest : List Oper} {o : Oper} {a : Act} {Q : Exit → Act → World → Prop} (hgd : o.guard = none) (s x : Operand)
    (ho : o.op = .call { callee := .builtin .append, args := #[s, x], argTypes := #[35, 35] })
    (base : Nat) (v : Value) (O : List TV) (hs : a.eval s = v) (hown : OwnT wr base v O) (t : TV) (hx : a.eval x = .slice (some ⟨wr.heap.size, 0, none⟩) 1 1) (hlen : O.length ≤ 15000) (hbase : base ≤ wr.heap.size)
    (h : ∀ v' w', OwnT w' base v' (O ++ [t]) → Below base wr w' → wpList Try.prog ops Q rest (a.put o.dst v') w') : wpList Try.prog ops Q (o :: rest) a (wr.alloc (.cells #[.slice t.A t.l.length t.c] 63)) := by
  have hown' := World.ownsRow.alloc hown (.cells #[.slice t.A t.l.length t.c] 63)
  have hb' : base ≤ (wr.alloc (.cells #[.slice t.A t.l.length t.c] 63)).heap.size := by simp; omega
  refine wpList_appT _ hgd s x ho base v O hs hown' (wr.heap.size + 1) _ 1 [t] 1 hx rfl (Rd.new wr #[.slice t.A t.l.length t.c] 63 (0, 0)) (by simp; omega) hb' ?_
  intro v' w' h1 h2
  exact h v' w' h1 (((Below.refl _ wr).alloc hbase _).trans (OwnT.low hown' h2 hb'))
theorem below_drawn {w w' : World} (h : ∃ n, w' = w.drewN n) : Below w.heap.size w w' := by
  obtain ⟨n, rfl⟩ := h
  exact below_draws (Below.refl _ _) n
theorem OwnT.drawn {w w' : World} {base : Nat} {v : Value} {O : List TV} (ho : OwnT w base v O) (h : ∃ n, w' = w.drewN n) : OwnT w' base v O := by
  obtain ⟨n, rfl⟩ := h
  exact ho
/-- What the document's Set answers. -/
def SePost (w : World) (l : List TV) (e : Ending) (w' : World) : Prop :=
  ∃ v O, e = .returned v ∧ OwnT w' w.heap.size v O ∧ tus O = setL (tus l) ∧ (∀ t ∈ O, t ∈ l) ∧ Below w.heap.size w w'
/-- Where a tuple is put in: behind j ones. -/
def InsAt (O N : List TV) (x : TV) (j : Nat) (b : Bool) : Prop :=
  (b = false ∧ N = O.take j ∧ ∀ q ∈ O.take j, ¬ cmpI x.l q.l < 0) ∨ (b = true ∧ tus N ++ tus (O.drop j) = insS x.l (tus O) ∧ N.length = j + 1)
theorem InsAt.len {O N : List TV} {x : TV} {j : Nat} {b : Bool} (h : InsAt O N x j b) : N.length ≤ j + 1 := by
  rcases h with ⟨_, rfl, _⟩ | ⟨_, _, h⟩
  · rw [List.length_take]; omega
  · omega
theorem InsAt.on {O N : List TV} {x : TV} {j : Nat} (h : InsAt O N x j true) (hj : j < O.length) : InsAt O (N ++ [O[j]]) x (j + 1) true := by
  rcases h with ⟨h, _⟩ | ⟨_, h, hl⟩
  · cases h
  · refine .inr ⟨rfl, ?_, by rw [List.length_append, hl]; rfl⟩
    rw [← h, drop_tus hj, tus_app, List.append_assoc]
    rfl
theorem InsAt.skip {O N : List TV} {x : TV} {j : Nat} (h : InsAt O N x j false) (hj : j < O.length) (hc : ¬ cmpI x.l O[j].l < 0) : InsAt O (N ++ [O[j]]) x (j + 1) false := by
  rcases h with ⟨_, rfl, h⟩ | ⟨h, _⟩
  · refine .inl ⟨rfl, by rw [List.take_succ_eq_append_getElem hj], fun q hq => ?_⟩
    rw [List.take_succ_eq_append_getElem hj] at hq
    rcases List.mem_append.1 hq with hq | hq
    · exact h q hq
    · rw [List.mem_singleton.1 hq]; exact hc
  · cases h
theorem InsAt.here {O N : List TV} {x : TV} {j : Nat} (h : InsAt O N x j false) (hj : j < O.length) (hc : cmpI x.l O[j].l < 0) : InsAt O (N ++ [x] ++ [O[j]]) x (j + 1) true := by
  rcases h with ⟨_, rfl, h⟩ | ⟨h, _⟩
  · refine .inr ⟨rfl, ?_, by simp; omega⟩
    have hO : tus O = tus (O.take j) ++ O[j].l :: tus (O.drop (j + 1)) := by
      rw [← drop_tus hj, ← tus_app, List.take_append_drop]
    rw [hO, insS_here hc _ (fun q hq => by obtain ⟨t, ht, rfl⟩ := List.mem_map.1 hq; exact h t ht)]
    simp [tus]
  · cases h
theorem InsAt.endF {O N : List TV} {x : TV} {j : Nat} (h : InsAt O N x j false) (hj : O.length ≤ j) : tus (N ++ [x]) = insS x.l (tus O) := by
  rcases h with ⟨_, rfl, h⟩ | ⟨h, _⟩
  · rw [List.take_of_length_le hj] at h ⊢
    rw [insS_end _ (fun q hq => by obtain ⟨t, ht, rfl⟩ := List.mem_map.1 hq; exact h t ht), tus_app]
    rfl
  · cases h
theorem InsAt.endT {O N : List TV} {x : TV} {j : Nat} (h : InsAt O N x j true) (hj : O.length ≤ j) : tus N = insS x.l (tus O) := by
  rcases h with ⟨h, _⟩ | ⟨_, h, _⟩
  · cases h
  · rw [List.drop_of_length_le hj] at h
    simpa [tus] using h
end Go.Proofs.Ytgjjdmkoamjdpaa
/- TupQ, what this seat can fill of it. -/
namespace Go.Proofs.Ytgjjdmkoamjdpaa
/- The law's awake, few, Own, spoil. -/
open Go.RowKit Go.Maps

theorem rd_lit {W : World} {b : Nat} {xs : List Value} {t : TypeId} {fr : Nat × Nat} (h : W.heap[b]? = some (.cells xs.toArray t fr)) : Rd W W.heap.size (some ⟨b, 0, none⟩) xs := fun _ =>
  ⟨b, 0, rfl, heap_lt h, fun j u hu => by rw [Nat.zero_add, cell_of_row W b j _ _ _ h, ← hu, List.getElem?_toArray]⟩
theorem tv_lit {W : World} {b : Nat} {l : Tu} (h : W.heap[b]? = some (.cells (intsV l).toArray 3 (0, 0))) (hl : l.length ≤ 5000) : TV.Ok W ⟨some ⟨b, 0, none⟩, l, l.length⟩ := ⟨rd_lit h, Nat.le_refl _, hl⟩
theorem lv_lit {W : World} {b : Nat} {ts : List TV} (h : W.heap[b]? = some (.cells (vals ts).toArray 63 (0, 0))) (hk : ∀ t ∈ ts, t.Ok W) (hs : ts.length ≤ 5000) : LV.Ok W ⟨some ⟨b, 0, none⟩, ts, ts.length⟩ := ⟨rd_lit h, hk, Nat.le_refl _, hs⟩
/-- A list of one tuple of one number. -/
theorem one_num {W : World} {x : LV} {n : Int} (h : x.Ok W) (e : tus x.ts = [[n]]) : ∃ b o b' o' c', x.A = some ⟨b, o, none⟩ ∧ x.ts.length = 1 ∧ b < W.heap.size ∧ b' < W.heap.size ∧ W.cell? ⟨b, o, none⟩ = some (.slice (some ⟨b', o', none⟩) 1 c') ∧ W.cell? ⟨b', o', none⟩ = some (.int .i64 n) := by
  obtain ⟨A, ts, c⟩ := x
  rcases ts with _ | ⟨t, r⟩
  · cases e
  · injection e with e1 e2
    have hr : r = [] := List.map_eq_nil_iff.1 e2
    subst hr
    obtain ⟨b, o, hA, hb, hc⟩ := Lst.cell h (k := 0) (by simp)
    obtain ⟨b', o', hA', hb', hc'⟩ := (Lst.at h (k := 0) (by simp)).cell (k := 0) (by simp [e1])
    simp only [List.getElem_cons_zero] at hc hA' hc'
    refine ⟨b, o, b', o', t.c, hA, rfl, hb, hb', ?_, ?_⟩
    · rw [hA', e1] at hc
      exact hc
    · simp only [e1, List.getElem_cons_zero] at hc'
      exact hc'
theorem keepA {W : World} {k : Nat} {o o' : Obj} (h : W.heap[k]? = some o) : (W.alloc o').heap[k]? = some o := (Below.heap_alloc _ _ _ (heap_lt h)).trans h
theorem newA {W : World} {n : Nat} {o : Obj} (h : W.heap.size = n) : (W.alloc o).heap[n]? = some o := by
  subst h
  exact heap_alloc_new W o
theorem at6 (w : World) (o0 o1 o2 o3 o4 o5 : Obj) : let W := (((((w.alloc o0).alloc o1).alloc o2).alloc o3).alloc o4).alloc o5
    W.heap[w.heap.size]? = some o0 ∧ W.heap[w.heap.size + 1]? = some o1 ∧ W.heap[w.heap.size + 1 + 1]? = some o2 ∧ W.heap[w.heap.size + 1 + 1 + 1]? = some o3 ∧ W.heap[w.heap.size + 1 + 1 + 1 + 1]? = some o4 ∧ W.heap[w.heap.size + 1 + 1 + 1 + 1 + 1]? = some o5 ∧ Below w.heap.size w W := by
  have s1 := alloc1_size w o0
  have s2 := (alloc1_size (w.alloc o0) o1).trans (congrArg (· + 1) s1)
  have s3 := (alloc1_size ((w.alloc o0).alloc o1) o2).trans (congrArg (· + 1) s2)
  have s4 := (alloc1_size (((w.alloc o0).alloc o1).alloc o2) o3).trans (congrArg (· + 1) s3)
  have s5 := (alloc1_size ((((w.alloc o0).alloc o1).alloc o2).alloc o3) o4).trans (congrArg (· + 1) s4)
  refine ⟨keepA (keepA (keepA (keepA (keepA (newA rfl))))), keepA (keepA (keepA (keepA (newA s1)))), keepA (keepA (keepA (newA s2))), keepA (keepA (newA s3)), keepA (newA s4), newA s5, ?_⟩
  exact (((((((Below.refl w.heap.size w).alloc (Nat.le_refl _) _).alloc (by simp) _).alloc (by simp; omega) _).alloc (by simp; omega) _).alloc (by simp; omega) _).alloc (by simp; omega) _)
theorem diff_lit : diffP [[1], [2]] [[2], [3]] = (0, [[3]], [[1]]) := by decide +kernel
theorem then_lit : thenP [[3]] [] [[4]] [[3]] = (0, [[4]], []) := by decide +kernel
end Go.Proofs.Ytgjjdmkoamjdpaa
/- TupR, what this seat can fill of it. -/
namespace Go.Proofs.Ytgjjdmkoamjdpaa
/- The law's few and Own. -/
open Go.RowKit Go.Maps

/-- A list of whatever length. -/
structure LV.Raw (w : World) (x : LV) : Prop where
  rd : Rd w w.heap.size x.A (vals x.ts)
  tup : ∀ t ∈ x.ts, Rd w w.heap.size t.A (intsV t.l) ∧ t.l.length ≤ t.c
  cap : x.ts.length ≤ x.c
def fewL (x : LV) : Bool := decide (x.ts.length ≤ 40) && x.ts.all fun t => decide (t.l.length ≤ 40)
def fewB (ls : List LV) : Bool := ls.all fewL
theorem LV.Raw.ok {w : World} {x : LV} (h : x.Raw w) (hf : fewL x = true) : x.Ok w ∧ x.ts.length ≤ 40 := by
  unfold fewL at hf
  rw [Bool.and_eq_true, decide_eq_true_eq, List.all_eq_true] at hf
  refine ⟨⟨h.rd, fun t ht => ?_, h.cap, by omega⟩, hf.1⟩
  have h1 := h.tup t ht
  have h2 := hf.2 t ht
  rw [decide_eq_true_eq] at h2
  exact ⟨h1.1, h1.2, by omega⟩
theorem LV.Raw.below {w w' : World} {x : LV} (h : x.Raw w) (hb : Below w.heap.size w w') : x.Raw w' :=
  ⟨(h.rd.below hb (Nat.le_refl _)).more hb.size, fun t ht => ⟨((h.tup t ht).1.below hb (Nat.le_refl _)).more hb.size, (h.tup t ht).2⟩, h.cap⟩
theorem LV.Raw.cell {w : World} {x : LV} (h : x.Raw w) {k : Nat} (hk : k < x.ts.length) : ∃ b o, x.A = some ⟨b, o, none⟩ ∧ b < w.heap.size ∧ w.cell? ⟨b, o + k, none⟩ = some (.slice x.ts[k].A x.ts[k].l.length x.ts[k].c) := by
  obtain ⟨b, o, e, hb, hc⟩ := h.rd.get (k := k) (by rw [vals_len]; exact hk)
  refine ⟨b, o, e, hb, hc.trans ?_⟩
  simp [vals, TV.val]
/-- append of a tuple onto an empty one just made. -/
theorem run_appI0 (W : World) (x : TV) (hx : x.Ok W) :
    ∃ u : TV, ∃ w', (Builtin.append_ #[63, 63] 63 #[.slice (some ⟨W.heap.size, 0, none⟩) 0 0, .slice x.A x.l.length x.c]).run Try.prog (W.alloc (.cells #[] 3)) = .ok (.slice u.A u.l.length u.c) w' ∧ u.l = x.l ∧ OwnI w' W.heap.size u ∧ Below W.heap.size W w' := by
  obtain ⟨i0, hi, hz0, hz1, hz2⟩ := info_parts infoInt
  have hb1 : Below W.heap.size W (W.alloc (.cells #[] 3)) := (Below.refl _ _).alloc (Nat.le_refl _) _
  have h0 : (W.alloc (.cells #[] 3)).ownsRow W.heap.size 3 1 (.slice (some ⟨W.heap.size, 0, none⟩) 0 0) 0 [] := own_lit0 W (Nat.le_refl _)
  obtain ⟨v', w', h1, h2, h3, _⟩ := run_appR (P := Try.prog) (W.alloc (.cells #[] 3)) W.heap.size 63 63 3 i0 _ 1 8 Try.underlying63 hi hz0 hz1 hz2 rfl (by omega) _ 0 [] h0 (W.alloc (.cells #[] 3)).heap.size x.A x.l.length x.c (intsV x.l) (by rw [intsV_len]; omega) (hx.below hb1).rd (intsV_one _) (by have := hx.sm; omega) (by omega) hb1.size
  rw [Nat.zero_add, List.nil_append] at h2
  obtain ⟨A, c, rfl, _, _, _⟩ := own_shape h2
  exact ⟨⟨A, x.l, c⟩, w', h1, rfl, h2, append0_below h3⟩
/-- Own's state behind k tuples. -/
structure OwAt (w wr : World) (ts us : List TV) (k : Nat) (out : Value) : Prop where
  len : us.length = k
  row : OwnT wr w.heap.size out us
  eq : tus us = (tus ts).take k
  tup : ∀ u ∈ us, OwnI wr w.heap.size u
  off : us.Pairwise Off
  below : Below w.heap.size w wr
theorem OwAt.next {w wr w5 w6 : World} {ts us : List TV} {k : Nat} {u : TV} {out out' : Value} (h : OwAt w wr ts us k out) (hk : k < ts.length) (hu : u.l = ts[k].l) (ho : OwnI w5 wr.heap.size u) (hb : Below wr.heap.size wr w5)
    (hr : OwnT w6 w.heap.size out' (us ++ [u])) (hg : (w5.alloc (.cells #[.slice u.A u.l.length u.c] 63)).grownBy w6 out.ownBlock) : OwAt w w6 ts (us ++ [u]) (k + 1) out' := by
  have hsz := h.below.size
  have hr5 := own_below h.row hb (Nat.le_refl _)
  have hb6 : Below w5.heap.size w5 (w5.alloc (.cells #[.slice u.A u.l.length u.c] 63)) := (Below.refl _ _).alloc (Nat.le_refl _) _
  have hr6 := own_below hr5 hb6 (Nat.le_refl _)
  have hfr : Fr (w5.alloc (.cells #[.slice u.A u.l.length u.c] 63)) w6 out.ownBlock.toList := by
    rcases ho' : out.ownBlock with _ | g
    · rw [ho'] at hg; exact Fr.of_grown0 hg _
    · rw [ho'] at hg; exact Fr.of_grown hg
  have hapart : ∀ t : TV, OwnI (w5.alloc (.cells #[.slice u.A u.l.length u.c] 63)) w.heap.size t → ∀ a, t.A = some a → a.block ∉ out.ownBlock.toList := fun t ht a ha hm =>
    own_apart ht hr6 (by decide) a.block (by unfold TV.val; rw [ha]; simp [Value.ownBlock]) hm
  have tu : OwnI (w5.alloc (.cells #[.slice u.A u.l.length u.c] 63)) w.heap.size u := own_mono (OwnI.below ho hb6) hsz
  have tt : ∀ t ∈ us, OwnI (w5.alloc (.cells #[.slice u.A u.l.length u.c] 63)) w.heap.size t := fun t ht => ((h.tup t ht).below hb).below hb6
  refine ⟨by rw [List.length_append, h.len]; rfl, hr, ?_, fun t ht => ?_, ?_, ?_⟩
  · rw [tus_app, h.eq, List.take_succ_eq_append_getElem (by rw [tus_len]; exact hk), tus_at ts k hk]
    show _ ++ [u.l] = _
    rw [hu]
  · rcases List.mem_append.1 ht with ht | ht
    · exact (tt t ht).fr hfr (hapart t (tt t ht))
    · rw [List.mem_singleton.1 ht]
      exact tu.fr hfr (hapart u tu)
  · rw [List.pairwise_append]
    refine ⟨h.off, List.pairwise_singleton _ _, fun x hx y hy a b ha hb' e => ?_⟩
    rw [List.mem_singleton.1 hy] at hb'
    have h1 := OwnI.lo ho b hb'
    have h2 := (h.tup x hx).lo a ha
    omega
  · refine (h.below.trans (lower hb hsz)).trans ((lower hb6 (Nat.le_trans hsz hb.size)).trans (hfr.below (Nat.le_trans (Nat.le_trans hsz hb.size) hb6.size) fun x hx => ?_))
    exact own_ge h.row x hx
end Go.Proofs.Ytgjjdmkoamjdpaa
