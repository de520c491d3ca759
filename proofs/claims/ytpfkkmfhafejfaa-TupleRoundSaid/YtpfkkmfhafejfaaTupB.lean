/- Tuples in memory: a tuple, a list of them; the order of two, whether two are the same. -/
import Derived.Test.YtpfkkmfhafejfaaProg
import Derived.Test.YtpfkkmfhafejfaaTupA
import Derived.Test.YtpfkkmfhafejfaaFr
import Derived.Deep.Cut
import Derived.Deep.CutRange
import Derived.Deep.CutBlock
import Derived.IntWalk
namespace Go.Proofs.Ytpfkkmfhafejfaa
open Go.RowKit Go.Maps

/-- A tuple's value, with what it reads as. -/
structure TV where
  A : Option Addr
  l : Tu
  c : Nat
instance : Inhabited TV := ⟨⟨none, [], 0⟩⟩
def TV.val (t : TV) : Value := .slice t.A t.l.length t.c
def intsV (l : Tu) : List Value := l.map (Value.int .i64)
theorem intsV_len (l : Tu) : (intsV l).length = l.length := List.length_map _
theorem intsV_at (l : Tu) (k : Nat) (h : k < l.length) : (intsV l)[k]? = some (.int .i64 l[k]) := by simp [intsV, h]
structure TV.Ok (w : World) (t : TV) : Prop where
  rd : Rd w w.heap.size t.A (intsV t.l)
  cap : t.l.length ≤ t.c
  sm : t.l.length ≤ 1000
theorem TV.Ok.below {w w' : World} {t : TV} (h : t.Ok w) (hb : Below w.heap.size w w') : t.Ok w' := ⟨(h.rd.below hb (Nat.le_refl _)).more hb.size, h.cap, h.sm⟩
theorem TV.Ok.drewN {w : World} {t : TV} (h : t.Ok w) (n : Nat) : t.Ok (w.drewN n) := ⟨h.rd, h.cap, h.sm⟩
theorem TV.Ok.cell {w : World} {t : TV} (h : t.Ok w) {k : Nat} (hk : k < t.l.length) : ∃ b o, t.A = some ⟨b, o, none⟩ ∧ b < w.heap.size ∧ w.cell? ⟨b, o + k, none⟩ = some (.int .i64 t.l[k]) := by
  obtain ⟨b, o, e, hb, hc⟩ := h.rd.get (k := k) (by rw [intsV_len]; exact hk)
  refine ⟨b, o, e, hb, hc.trans ?_⟩
  simp [intsV]
/-- The values of a list of tuples. -/
def vals (ts : List TV) : List Value := ts.map TV.val
theorem vals_len (ts : List TV) : (vals ts).length = ts.length := List.length_map _
theorem vals_app (a b : List TV) : vals (a ++ b) = vals a ++ vals b := List.map_append
theorem vals_one (ts : List TV) : ∀ u ∈ vals ts, u.oneCell' = true := by
  intro u hu
  obtain ⟨t, _, rfl⟩ := List.mem_map.1 hu
  rfl
def tus (ts : List TV) : List Tu := ts.map TV.l
theorem tus_len (ts : List TV) : (tus ts).length = ts.length := List.length_map _
theorem tus_app (a b : List TV) : tus (a ++ b) = tus a ++ tus b := List.map_append
theorem tus_take (a : List TV) (k : Nat) : tus (a.take k) = (tus a).take k := List.map_take
theorem tus_at (ts : List TV) (k : Nat) (h : k < ts.length) : (tus ts)[k]'(by rw [tus_len]; exact h) = ts[k].l := by simp [tus]
theorem mem_tus {ts : List TV} {t : TV} (h : t ∈ ts) : t.l ∈ tus ts := List.mem_map.2 ⟨t, h, rfl⟩
/-- A list of tuples in memory. -/
structure Lst (w : World) (A : Option Addr) (c : Nat) (ts : List TV) : Prop where
  rd : Rd w w.heap.size A (vals ts)
  ok : ∀ t ∈ ts, t.Ok w
  cap : ts.length ≤ c
  sm : ts.length ≤ 1000
theorem Lst.below {w w' : World} {A : Option Addr} {c : Nat} {ts : List TV} (h : Lst w A c ts) (hb : Below w.heap.size w w') : Lst w' A c ts :=
  ⟨(h.rd.below hb (Nat.le_refl _)).more hb.size, fun t ht => (h.ok t ht).below hb, h.cap, h.sm⟩
theorem Lst.drewN {w : World} {A : Option Addr} {c : Nat} {ts : List TV} (h : Lst w A c ts) (n : Nat) : Lst (w.drewN n) A c ts := ⟨h.rd, fun t ht => (h.ok t ht).drewN n, h.cap, h.sm⟩
theorem Lst.cell {w : World} {A : Option Addr} {c : Nat} {ts : List TV} (h : Lst w A c ts) {k : Nat} (hk : k < ts.length) : ∃ b o, A = some ⟨b, o, none⟩ ∧ b < w.heap.size ∧ w.cell? ⟨b, o + k, none⟩ = some (.slice ts[k].A ts[k].l.length ts[k].c) := by
  obtain ⟨b, o, e, hb, hc⟩ := h.rd.get (k := k) (by rw [vals_len]; exact hk)
  refine ⟨b, o, e, hb, hc.trans ?_⟩
  simp [vals, TV.val]
theorem Lst.at {w : World} {A : Option Addr} {c : Nat} {ts : List TV} (h : Lst w A c ts) {k : Nat} (hk : k < ts.length) : ts[k].Ok w := h.ok _ (List.getElem_mem hk)

/-- The order of two numbers. -/
def cmpX (x y : Int) : Int := if x < y then -1 else if y < x then 1 else 0
theorem cmpInt_any (x y : Int) (w : World) : Calls Try.prog 48 #[.int .i64 x, .int .i64 y] w fun e w' => e = .returned (.int .i64 (cmpX x y)) ∧ w = w' := by
  have k1 : ∀ x : Int, Calls Try.prog 59 #[.int .i64 x] w fun e w' => e = .returned (.bool false) ∧ w = w' := fun x => by
    go_enter Try.func59, Try.ntmps59
    go_wp2
    go_ret
    exact ⟨rfl, rfl⟩
  unfold cmpX
  by_cases h1 : x < y
  · rw [if_pos h1]
    go_enter Try.func48, Try.ntmps48
    go_wp2_with ((with_reducible refine (k1 _).mono ?_); rintro e w' ⟨rfl, rfl⟩)
    go_ret
    exact ⟨rfl, rfl⟩
  · rw [if_neg h1]
    by_cases h2 : y < x
    · rw [if_pos h2]
      go_enter Try.func48, Try.ntmps48
      go_wp2_with ((with_reducible refine (k1 _).mono ?_); rintro e w' ⟨rfl, rfl⟩)
      go_ret
      exact ⟨rfl, rfl⟩
    · rw [if_neg h2]
      go_enter Try.func48, Try.ntmps48
      go_wp2_with ((with_reducible refine (k1 _).mono ?_); rintro e w' ⟨rfl, rfl⟩)
      go_ret
      exact ⟨rfl, rfl⟩
theorem drop_cons {l : Tu} {k : Nat} (h : k < l.length) : l.drop k = l[k] :: l.drop (k + 1) := List.drop_eq_getElem_cons h
set_option maxHeartbeats 1000000 in
theorem cmpS_any (a b : TV) (w : World) (ha : a.Ok w) (hb : b.Ok w) : Calls Try.prog 37 #[.slice a.A a.l.length a.c, .slice b.A b.l.length b.c] w fun e w' => e = .returned (.int .i64 (cmpI a.l b.l)) ∧ w = w' := by
  obtain ⟨R, hR⟩ : ∃ R, R = cmpI a.l b.l := ⟨_, rfl⟩
  rw [← hR]
  have hal := ha.sm
  have hbl := hb.sm
  have HA := Lib.hid (And.intro ha (And.intro hb hR))
  clear ha hb hR
  go_enter Try.func37, Try.ntmps37
  go_wp2_with (fail)
  go_loop [11] (fun i => ∃ k : Nat, k ≤ a.l.length ∧ k ≤ b.l.length ∧ i = .int .i64 k ∧ cmpI (a.l.drop k) (b.l.drop k) = R) (fun i => a.l.length - (intOf i).toNat)
  case atStart => exact ⟨0, by omega, by omega, rfl, by rw [HA.out.2.2]; rfl⟩
  case round =>
    obtain ⟨k, hk, hkb, rfl, hrel⟩ := hrel
    by_cases hlt : k < a.l.length
    · obtain ⟨xb, xo, hxa, _, hxc⟩ := HA.out.1.cell hlt
      rw [drop_cons hlt] at hrel
      by_cases hlb : k < b.l.length
      · obtain ⟨yb, yo, hya, _, hyc⟩ := HA.out.2.1.cell hlb
        rw [drop_cons hlb, cmpI_cons] at hrel
        generalize a.l[k] = x at *
        generalize b.l[k] = y at *
        have hge : ¬ (b.l.length : Int) ≤ (k : Int) := by omega
        rw [hxa, hya]
        have hc := cmpInt_any x y w
        unfold cmpX at hc
        by_cases h1 : x < y
        · rw [if_pos h1] at hrel hc
          have HR := Lib.hid hrel
          clear hrel
          go_wp2_with ((with_reducible refine hc.mono ?_); rintro e w' ⟨rfl, rfl⟩)
          go_ret
          exact ⟨ret_int HR.out, rfl⟩
        · rw [if_neg h1] at hrel hc
          by_cases h2 : y < x
          · rw [if_pos h2] at hrel hc
            have HR := Lib.hid hrel
            clear hrel
            go_wp2_with ((with_reducible refine hc.mono ?_); rintro e w' ⟨rfl, rfl⟩)
            go_ret
            exact ⟨ret_int HR.out, rfl⟩
          · rw [if_neg h2] at hrel hc
            have HR := Lib.hid hrel
            clear hrel
            go_wp2_with ((with_reducible refine hc.mono ?_); rintro e w' ⟨rfl, rfl⟩)
            go_round
            case rel => exact ⟨k + 1, by omega, by omega, by go_num, HR.out⟩
            case measure => simp [intOf]; omega
      · have hge : (b.l.length : Int) ≤ (k : Int) := by omega
        rw [List.drop_of_length_le (Nat.not_lt.1 hlb), cmpI] at hrel
        rw [hxa]
        generalize a.l[k] = x at *
        have HR := Lib.hid hrel
        clear hrel
        go_wp2_with (fail)
        go_ret
        exact ⟨ret_int HR.out, rfl⟩
    · rw [List.drop_of_length_le (Nat.not_lt.1 hlt)] at hrel
      by_cases hlb : a.l.length < b.l.length
      · rw [drop_cons (show k < b.l.length by omega), cmpI] at hrel
        have HR := Lib.hid hrel
        clear hrel
        go_wp2_with (fail)
        go_ret
        exact ⟨ret_int HR.out, rfl⟩
      · rw [List.drop_of_length_le (show b.l.length ≤ k by omega), cmpI] at hrel
        have HR := Lib.hid hrel
        clear hrel
        go_wp2_with (fail)
        go_ret
        exact ⟨ret_int HR.out, rfl⟩
/-- Cmp. -/
theorem cmpT_any (a b : TV) (w : World) (ha : a.Ok w) (hb : b.Ok w) : Calls Try.prog 20 #[.slice a.A a.l.length a.c, .slice b.A b.l.length b.c] w fun e w' => e = .returned (.int .i64 (cmpI a.l b.l)) ∧ w = w' := by
  have hc := cmpS_any a b w ha hb
  generalize cmpI a.l b.l = R at *
  clear ha hb
  go_enter Try.func20, Try.ntmps20
  go_wp2_with ((with_reducible refine hc.mono ?_); rintro e w' ⟨rfl, rfl⟩)
  go_ret
  exact ⟨rfl, rfl⟩
/-- same. -/
theorem sameT_any (a b : TV) (w : World) (ha : a.Ok w) (hb : b.Ok w) : Calls Try.prog 34 #[.slice a.A a.l.length a.c, .slice b.A b.l.length b.c] w fun e w' => e = .returned (.bool (decide (cmpI a.l b.l = 0))) ∧ w = w' := by
  have hc := cmpT_any a b w ha hb
  generalize cmpI a.l b.l = R at *
  clear ha hb
  by_cases h0 : R = 0
  · subst h0
    go_enter Try.func34, Try.ntmps34
    go_wp2_with ((with_reducible refine hc.mono ?_); rintro e w' ⟨rfl, rfl⟩)
    go_ret
    exact ⟨rfl, rfl⟩
  · have hd : decide (R = 0) = false := decide_eq_false h0
    have h0' : (R == 0) = false := beq_eq_false_iff_ne.2 h0
    rw [hd]
    clear hd
    go_enter Try.func34, Try.ntmps34
    go_wp2_with ((with_reducible refine hc.mono ?_); rintro e w' ⟨rfl, rfl⟩)
    go_ret
    exact ⟨rfl, rfl⟩
end Go.Proofs.Ytpfkkmfhafejfaa
