/- Rows of parts: own, few, and append of parts onto a row of the call's own. -/
import Derived.Test.YtinhmchekdolmaaProg
import Derived.Test.YtinhmchekdolmaaKeyC
import Derived.WalkKit
import Derived.WalkSpells
import Derived.WalkLawsBesides
import Derived.Deep.QuietTactic
import Derived.BigQuiet
import Derived.KernelRfl
import Derived.Lib.Hide
namespace Go.Proofs.Ytinhmchekdolmaa
open Go.RowKit

section
variable {w w' : World} {base : Nat} {e : TypeId} {v : Value} {size n : Nat} {xs : List Value}
theorem own_shape (h : w.ownsRow base e size v n xs) : ∃ A c, v = .slice A n c ∧ n ≤ c ∧ c ≤ maxLen ∧ Rd w w.heap.size A xs := by
  have h' := h
  rcases h.2 with ⟨hv, h0⟩ | ⟨g, cap, cur, hv, hg, hh, hle, hm, hr⟩
  · exact ⟨none, 0, by rw [hv, h0], by omega, by simp [maxLen], by
      have : xs = [] := List.eq_nil_of_length_eq_zero (by rw [h.1, h0]; simp)
      rw [this]; exact Rd.emp _ _ _⟩
  · subst hv
    exact ⟨some ⟨g, 0, none⟩, cap, rfl, hle, hm, Rd.ofOwn h'⟩
theorem own_below (h : w.ownsRow base e size v n xs) {B : Nat} (hb : Below B w w') (hB : w.heap.size ≤ B) : w'.ownsRow base e size v n xs := by
  refine World.ownsRow.kept (row := none) h ⟨hb.os, hb.tape, hb.output, hb.size, fun k hk _ => hb.block k (by omega)⟩ ?_
  rcases h.2 with ⟨hv, _⟩ | ⟨g, cap, cur, hv, _⟩
  · left; rw [hv]; rfl
  · right; rw [hv]; simp [Value.ownBlock]
theorem own_mono (h : w.ownsRow base e size v n xs) {base' : Nat} (hb : base' ≤ base) : w.ownsRow base' e size v n xs := by
  refine ⟨h.1, ?_⟩
  rcases h.2 with h2 | ⟨g, cap, cur, hv, hg, r⟩
  · exact .inl h2
  · exact .inr ⟨g, cap, cur, hv, by omega, r⟩
theorem own_lit0 (w : World) (hb : base ≤ w.heap.size) : (w.alloc (.cells #[] e)).ownsRow base e size (.slice (some ⟨w.heap.size, 0, .none⟩) 0 0) 0 [] :=
  World.ownsRow_made (e := e) (size := size) w #[] 0 hb (by simp [maxLen]) (by simp)
end

/-- append onto a row of the call's own, of elements of whatever size; the source may be nil or empty. -/
theorem run_appR {P : Program} (w : World) (base : Nat) (t ty e : TypeId) (i : TypeInfo) (z : Value) (size bytes : Nat) (ht : P.underlying t = some (.slice e)) (hi : P.info? e = some i) (hz : i.zero = some z)
    (hsize : i.size = size) (hby : i.bytes = bytes) (hzs : z.cells.size = size) (hs0 : 0 < size) (v : Value) (n : Nat) (xs : List Value) (hown : w.ownsRow base e size v n xs)
    (B : Nat) (A : Option Addr) (m c : Nat) (ys : List Value) (hm : ys.length = m * size) (hr : Rd w B A ys) (h1 : ∀ u ∈ ys, u.oneCell' = true) (hlen : (n + m) * bytes ≤ 140737488355328) (hb1 : 1 ≤ bytes) (hbase : base ≤ w.heap.size) :
    ∃ v' w', (Builtin.append_ #[t, t] ty #[v, .slice A m c]).run P w = .ok v' w' ∧ w'.ownsRow base e size v' (n + m) (xs ++ ys) ∧ w.grownBy w' v.ownBlock ∧ (v'.ownBlock = v.ownBlock ∨ v'.ownBlock = some w.heap.size) := by
  have hml : n + m ≤ maxLen := by
    have : n + m ≤ (n + m) * bytes := Nat.le_mul_of_pos_right _ (by omega)
    simp only [maxLen]; omega
  rcases Nat.eq_zero_or_pos m with h0 | h0
  · subst h0
    have hk : ys = [] := List.eq_nil_of_length_eq_zero (by rw [hm]; simp)
    subst hk
    rcases A with _ | p
    · refine ⟨v, w, ?_, by simpa using hown, World.grownBy.refl w _, .inl rfl⟩
      rcases hown.2 with ⟨rfl, _⟩ | ⟨g, cap, cur, rfl, _, _, hnc, _⟩
      · simp [Builtin.append_, run_underlying ht, sizeOf, typeInfo, hi, Builtin.lenOf, Builtin.firstCells]
      · simp [Builtin.append_, run_underlying ht, sizeOf, typeInfo, hi, Builtin.lenOf, Builtin.firstCells, hnc, storeCells]
    · obtain ⟨v', w', hrun, h2, h3, _, h5⟩ := run_append_own_at (P := P) w base t ty e i z size bytes ht hi hz hsize hby hzs hs0 v _ _ hown p 0 c [] (by simp) (by simp) (by simp) hml hlen hbase
      exact ⟨v', w', hrun, h2, h3, h5⟩
  · have hne : ys ≠ [] := by
      rintro rfl
      have h2 : 0 < m * size := Nat.mul_pos h0 hs0
      rw [← hm] at h2
      simp at h2
    obtain ⟨b, o, rfl, _, hc⟩ := hr hne
    obtain ⟨v', w', hrun, h2, h3, _, h5⟩ := run_append_own_at (P := P) w base t ty e i z size bytes ht hi hz hsize hby hzs hs0 v _ _ hown ⟨b, o, none⟩ m c ys hm (fun j u hu => by rw [plainAdd]; exact hc j u hu) h1 hml hlen hbase
    exact ⟨v', w', hrun, h2, h3, h5⟩

theorem wpList_appR {P : Program} (w : World) {ops : Array Oper} {rest : List Oper} {o : Oper} {a : Act} {Q : Exit → Act → World → Prop} (hgd : o.guard = none) (s x : Operand) (t : TypeId)
    (ho : o.op = .call { callee := .builtin .append, args := #[s, x], argTypes := #[t, t] })
    (base : Nat) (e : TypeId) (i : TypeInfo) (z : Value) (size bytes : Nat) (ht : P.underlying t = some (.slice e)) (hi : P.info? e = some i) (hz : i.zero = some z)
    (hsize : i.size = size) (hby : i.bytes = bytes) (hzs : z.cells.size = size) (hs0 : 0 < size) (v : Value) (n : Nat) (xs : List Value) (hs : a.eval s = v) (hown : w.ownsRow base e size v n xs)
    (B : Nat) (A : Option Addr) (m c : Nat) (ys : List Value) (hx : a.eval x = .slice A m c) (hm : ys.length = m * size) (hr : Rd w B A ys) (h1 : ∀ u ∈ ys, u.oneCell' = true) (hlen : (n + m) * bytes ≤ 140737488355328) (hb1 : 1 ≤ bytes) (hbase : base ≤ w.heap.size)
    (h : ∀ v' w', w'.ownsRow base e size v' (n + m) (xs ++ ys) → w.grownBy w' v.ownBlock → (v'.ownBlock = v.ownBlock ∨ v'.ownBlock = some w.heap.size) → wpList P ops Q rest (a.put o.dst v') w') : wpList P ops Q (o :: rest) a w := by
  refine wpList_plain hgd fun K hK => ?_
  obtain ⟨v', w', hrun, h2, h3, h4⟩ := run_appR (P := P) w base t o.type e i z size bytes ht hi hz hsize hby hzs hs0 v n xs hown B A m c ys hm hr h1 hlen hb1 hbase
  unfold Oper.wp execOp
  simp only [ho, resolve, invoke, builtin, Sem.run_bind, Sem.run_pure, Result.andThen_ok, List.map_toArray, List.map_cons, List.map_nil, hs, hx, hrun]
  exact hK _ _ (h v' w' h2 h3 h4)

theorem pcs_one (ks : List KPart) : ∀ u ∈ pcs ks, u.oneCell' = true := by
  intro u hu
  obtain ⟨p, _, hp⟩ := List.mem_flatMap.1 hu
  simp only [KPart.cells, List.mem_cons, List.not_mem_nil, or_false] at hp
  rcases hp with rfl | rfl | rfl <;> rfl
theorem pcs_append (a b : List KPart) : pcs (a ++ b) = pcs a ++ pcs b := List.flatMap_append

/-- The slice value v, of the call's own, holds the parts ks (e: the number of their type). -/
def OwnP (w : World) (base : Nat) (e : TypeId) (v : Value) (ks : List KPart) : Prop := w.ownsRow base e 3 v ks.length (pcs ks)

theorem infoPart : (Try.prog.info? 38).map (fun i => (i.zero, i.size, i.bytes)) = some (some (.agg #[.bool false, .string ⟨#[]⟩, .int .i64 0]), 3, 32) := by kernel_rfl

set_option maxRecDepth 100000 in
theorem own_any (A : Option Addr) (ks : List KPart) (n c B : Nat) (w : World) (hn : n = ks.length) (hr : Rd w B A (pcs ks)) (hB : B ≤ w.heap.size) (hl : ks.length ≤ 4398046511104) :
    Calls Try.prog 12 #[.slice A n c] w fun e w' => ∃ v, e = .returned v ∧ OwnP w' w.heap.size 38 v ks ∧ Below w.heap.size w w' := by
  subst hn
  obtain ⟨i0, hi, hz0, hz1, hz2⟩ := info_parts infoPart
  have hlen := pcs_length ks
  have HL := Lib.hid hlen
  clear hlen
  go_enter Try.func12, Try.ntmps12
  go_wp2_with (at_builtin; refine wpList_appR _ rfl (.tmp 3) (.tmp 4) _ rfl w.heap.size 38 i0 _ 3 32 Try.underlying22 hi hz0 hz1 hz2 rfl (by omega) (.slice (some ⟨w.heap.size, 0, none⟩) 0 0) 0 [] rfl (own_lit0 w (Nat.le_refl _)) B A ks.length c (pcs ks) rfl HL.out (hr.alloc hB _) (pcs_one ks) (by omega) (by omega) (by simp) ?_; intro v1 w1 hown1 hg1 hat1)
  have hb1 : Below w.heap.size w w1 := ((Below.refl _ _).alloc (Nat.le_refl _) _).grown hg1 (by simp) (by intro k hk; simp [Value.ownBlock] at hk; omega)
  go_ret
  exact ⟨_, rfl, by simpa [OwnP] using hown1, hb1⟩

def fewN (ks : List KPart) : Nat := (ks.map fun p => p.s.size % 100000).sum
def fewB (ks : List KPart) : Bool := decide (ks.length ≤ 60) && decide (fewN ks ≤ 5000)
theorem fewN_le (ks : List KPart) : fewN ks ≤ ks.length * 99999 := by
  induction ks with
  | nil => simp [fewN]
  | cons p ks ih => simp only [fewN, List.map_cons, List.sum_cons, List.length_cons] at ih ⊢; have := Nat.mod_lt p.s.size (show 100000 > 0 by omega); omega
theorem fewN_append (a b : List KPart) : fewN (a ++ b) = fewN a + fewN b := by simp [fewN]

set_option maxRecDepth 100000 in
theorem few_any (A : Option Addr) (ks : List KPart) (n c B : Nat) (w : World) (hn : n = ks.length) (hr : Rd w B A (pcs ks)) (_ : B ≤ w.heap.size) (hl : ks.length ≤ 4398046511104) (hf : ∀ q ∈ ks, q.fits) :
    Calls Try.prog 11 #[.slice A n c] w fun e w' => e = .returned (.bool (fewB ks)) ∧ w = w' := by
  subst hn
  have HF := Lib.hid hf
  clear hf
  go_enter Try.func11, Try.ntmps11
  go_wp2
  go_loop [3, 7] (fun z i => ∃ k : Nat, k ≤ ks.length ∧ i = .int .i64 (k : Int) ∧ z = .int .i64 (fewN (ks.take k) : Int)) (fun _ i => ks.length - (intOf i).toNat)
  case atStart => exact ⟨0, by omega, rfl, rfl⟩
  case round =>
    obtain ⟨k, hk, rfl, rfl⟩ := hrel
    have hfk := fewN_le (ks.take k)
    have hlk : (ks.take k).length ≤ 4398046511104 := by rw [List.length_take]; omega
    obtain ⟨Z, hZ⟩ : ∃ Z, Z = fewN (ks.take k) := ⟨_, rfl⟩
    have hZb : Z ≤ 439804651110400000 := by rw [hZ]; omega
    rw [← hZ]
    have HZ := Lib.hid hZ
    clear hZ hfk hlk
    rcases Nat.lt_or_ge k ks.length with h8 | h8
    · obtain ⟨q, hq⟩ : ∃ q, q = ks[k] := ⟨_, rfl⟩
      have hqf : q.fits := HF.out q (by rw [hq]; exact List.getElem_mem _)
      have hsn : ks.take (k + 1) = ks.take k ++ [q] := by rw [hq]; exact kTake _ _ _
      have hq0 := hqf.1
      obtain ⟨pb, po, rfl, hpB, c0, c1, c2⟩ := hr.part h8
      rw [← hq] at c0 c1 c2
      have HS := Lib.hid hsn
      clear hsn hq hqf
      go_wp2
      go_round
      case rel => exact ⟨k + 1, by omega, by go_num, by rw [HS.out, fewN_append, ← HZ.out]; simp [fewN]⟩
      case measure => simp [intOf]; omega
    · obtain rfl : k = ks.length := by omega
      have hb : Hid (fewB ks = (decide (ks.length ≤ 60) && decide (Z ≤ 5000))) := by show fewB ks = _; rw [HZ.out, List.take_length]; rfl
      by_cases h1 : (ks.length : Int) ≤ 60
      · go_wp2
        go_ret
        refine ⟨?_, rfl⟩
        have h2 : ks.length ≤ 60 := by omega
        rw [hb.out, decide_eq_true h2, Bool.true_and]
        exact congrArg Ending.returned (congrArg Value.bool (decide_eq_decide.2 (by omega)))
      · go_wp2
        go_ret
        refine ⟨?_, rfl⟩
        have h2 : ¬ ks.length ≤ 60 := by omega
        rw [hb.out, decide_eq_false h2, Bool.false_and]
        rfl
end Go.Proofs.Ytinhmchekdolmaa
