/- The document's words (rhizomeref08): letter, sign; what its loops keep. -/
import Derived.Test.YtfgojbfdjbochaaDoorWdI
import Derived.Test.YtfgojbfdjbochaaDoorWdN
namespace Go.Proofs.YtfgojbfdjbochaaDoor
open Go.RowKit Go.Maps

set_option maxRecDepth 100000 in
theorem refLetter_any (r : Nat) (w : World) : Calls Tryd.prog 19 #[.int .i64 (r : Int)] w fun e w' => e = .returned (.bool (decide (isLet r))) ∧ w = w' := by
  by_cases h1 : 97 ≤ r
  · have h1' : (97 : Int) ≤ (r : Int) := by omega
    by_cases h2 : r ≤ 122
    · have h2' : (r : Int) ≤ 122 := by omega
      have hd : decide (isLet r) = true := decide_eq_true ⟨h1, h2⟩
      rw [hd]
      clear h1 h2 hd
      go_enter Tryd.func19, Tryd.ntmps19
      go_wp2
      go_ret
      exact ⟨rfl, rfl⟩
    · have h2' : ¬ (r : Int) ≤ 122 := by omega
      have hd : decide (isLet r) = false := decide_eq_false (fun h => h2 h.2)
      rw [hd]
      clear h1 h2 hd
      go_enter Tryd.func19, Tryd.ntmps19
      go_wp2
      go_ret
      exact ⟨rfl, rfl⟩
  · have h1' : ¬ (97 : Int) ≤ (r : Int) := by omega
    have hd : decide (isLet r) = false := decide_eq_false (fun h => h1 h.1)
    rw [hd]
    clear h1 hd
    go_enter Tryd.func19, Tryd.ntmps19
    go_wp2
    go_ret
    exact ⟨rfl, rfl⟩
theorem one_str (w : World) (b : UInt8) : (convert 41 9 (.slice (some ⟨w.heap.size, 0, none⟩) 1 1)).run Tryd.prog (w.alloc (.cells #[.int .u8 (b.toNat : Int)] 5)) = .ok (.string ⟨[b].toArray⟩) (w.alloc (.cells #[.int .u8 (b.toNat : Int)] 5)) :=
  strAt (Rd.new w #[.int .u8 (b.toNat : Int)] 5 (0, 0)) rfl
set_option maxRecDepth 100000 in
theorem refSign_any (r : Nat) (w : World) : Calls Tryd.prog 20 #[.int .i64 (r : Int)] w fun e w' => e = .returned (.string ⟨(sgn r).toArray⟩) ∧ Below w.heap.size w w' := by
  by_cases h : r = 40 ∨ r = 41 ∨ r = 44 ∨ r = 61 ∨ r = 59
  · rcases h with rfl | rfl | rfl | rfl | rfl
    · have h1 := one_str w 40
      simp only [show ((40 : UInt8).toNat : Int) = 40 from rfl] at h1
      go_enter Tryd.func20, Tryd.ntmps20
      go_wp2
      go_ret
      exact ⟨by rfl, (Below.refl _ _).alloc (Nat.le_refl _) _⟩
    · have h1 := one_str w 41
      simp only [show ((41 : UInt8).toNat : Int) = 41 from rfl] at h1
      go_enter Tryd.func20, Tryd.ntmps20
      go_wp2
      go_ret
      exact ⟨by rfl, (Below.refl _ _).alloc (Nat.le_refl _) _⟩
    · have h1 := one_str w 44
      simp only [show ((44 : UInt8).toNat : Int) = 44 from rfl] at h1
      go_enter Tryd.func20, Tryd.ntmps20
      go_wp2
      go_ret
      exact ⟨by rfl, (Below.refl _ _).alloc (Nat.le_refl _) _⟩
    · have h1 := one_str w 61
      simp only [show ((61 : UInt8).toNat : Int) = 61 from rfl] at h1
      go_enter Tryd.func20, Tryd.ntmps20
      go_wp2
      go_ret
      exact ⟨by rfl, (Below.refl _ _).alloc (Nat.le_refl _) _⟩
    · have h1 := one_str w 59
      simp only [show ((59 : UInt8).toNat : Int) = 59 from rfl] at h1
      go_enter Tryd.func20, Tryd.ntmps20
      go_wp2
      go_ret
      exact ⟨by rfl, (Below.refl _ _).alloc (Nat.le_refl _) _⟩
  · simp only [not_or] at h
    have h1 : ((r : Int) == 40) = false := neI h.1
    have h2 : ((r : Int) == 41) = false := neI h.2.1
    have h3 : ((r : Int) == 44) = false := neI h.2.2.1
    have h5 : ((r : Int) == 61) = false := neI h.2.2.2.1
    have h7 : ((r : Int) == 59) = false := neI h.2.2.2.2
    by_cases h4 : r = 8592
    · subst h4
      clear h h1 h2 h3 h5 h7
      go_enter Tryd.func20, Tryd.ntmps20
      go_wp2
      go_ret
      exact ⟨by rfl, Below.refl _ _⟩
    · have h4b : ((r : Int) == 8592) = false := neI h4
      by_cases h6 : r = 8743
      · subst h6
        clear h h1 h2 h3 h5 h7 h4 h4b
        go_enter Tryd.func20, Tryd.ntmps20
        go_wp2
        go_ret
        exact ⟨by rfl, Below.refl _ _⟩
      · have h6b : ((r : Int) == 8743) = false := neI h6
        have hs : sgn r = [] := by unfold sgn; rw [if_neg h.1, if_neg h.2.1, if_neg (by omega), if_neg (by omega), if_neg (by omega)]
        rw [hs]
        clear h hs h4 h6
        go_enter Tryd.func20, Tryd.ntmps20
        go_wp2
        go_ret
        exact ⟨rfl, Below.refl _ _⟩

/-! The runes with their places. -/
theorem rpl_at : ∀ (rs : List Nat) (p : Nat × Nat) (i : Nat) (h : i < rs.length), (rpl p rs)[i]? = some (rs[i], (plc p (rs.take i)).1, (plc p (rs.take i)).2)
  | [], _, _, h => by simp at h
  | r :: rs, p, 0, _ => by simp [rpl, plc]
  | r :: rs, p, i + 1, h => by
    have := rpl_at rs (bh p r) i (by simpa using h)
    simp only [rpl, List.getElem?_cons_succ, this, List.getElem_cons_succ, List.take_succ_cons]
    rfl
theorem rcsV_at {L : List (Nat × Nat × Nat)} {i : Nat} {x : Nat × Nat × Nat} (h : L[i]? = some x) {j : Nat} (hj : j < 3) : (rcsV L)[i * 3 + j]? = (rcV x)[j]? := by
  induction L generalizing i with
  | nil => simp at h
  | cons y L ih =>
    have e : rcsV (y :: L) = rcV y ++ rcsV L := by simp [rcsV]
    rcases i with _ | i
    · simp at h
      subst h
      rw [e, List.getElem?_append_left (by simp [rcV]; omega)]
      congr 1
      omega
    · rw [e, List.getElem?_append_right (by simp [rcV]; omega)]
      have : (i + 1) * 3 + j - (rcV y).length = i * 3 + j := by simp [rcV]; omega
      rw [this]
      exact ih (by simpa using h)
theorem own_rune {w : World} {base : Nat} {A : Option Addr} {n c : Nat} {L : List (Nat × Nat × Nat)} (h : w.ownsRow base 37 3 (.slice A n c) n (rcsV L)) {i : Nat} {x : Nat × Nat × Nat} (hi : L[i]? = some x) (hn : L.length = n) :
    ∃ g, A = some ⟨g, 0, none⟩ ∧ g < w.heap.size ∧ n ≤ c ∧ c ≤ maxLen ∧ w.cell? ⟨g, i * 3, none⟩ = some (.int .i64 (x.1 : Int)) ∧ w.cell? ⟨g, i * 3 + 1, none⟩ = some (.int .i64 (x.2.1 : Int)) ∧ w.cell? ⟨g, i * 3 + 2, none⟩ = some (.int .i64 (x.2.2 : Int)) := by
  have hlt := (List.getElem?_eq_some_iff.1 hi).1
  obtain ⟨g, c', e, h1, h2, h3, h4⟩ := own_form h (by omega)
  injection e with e1 _ e3
  subst e1 e3
  have hat : ∀ j, j < 3 → w.cell? ⟨g, i * 3 + j, none⟩ = (rcV x)[j]? := fun j hj => by
    rw [World.ownsRow.cellAt h (i * 3 + j) (by omega), rcsV_at hi hj]
  exact ⟨g, rfl, h2, h3, h4, hat 0 (by omega), hat 1 (by omega), hat 2 (by omega)⟩
theorem infoWr : (Tryd.prog.info? 56).map (fun i => (i.zero, i.size, i.bytes)) = some (some (.agg #[.bool false, .string .empty, .int .i64 0, .int .i64 0]), 4, 40) := by kernel_rfl
/-- append of a word of the document's. -/
theorem app_wordR {W : World} {base : Nat} {A : Option Addr} {c : Nat} {L : List Wd} (hown : W.ownsRow base 56 4 (.slice A L.length c) L.length (wdsV L)) (x : Wd) (hB : base ≤ W.heap.size) (hn : L.length ≤ 1000000) :
    ∃ (A' : Option Addr) (c' : Nat) (w' : World), (Builtin.append_ #[27, 27] 27 #[.slice A L.length c, .slice (some ⟨W.heap.size, 0, none⟩) 1 1]).run Tryd.prog (W.alloc (.cells #[.bool x.nm, .string ⟨x.tx.toArray⟩, .int .i64 (x.ln : Int), .int .i64 (x.co : Int)] 56)) = .ok (.slice A' (L.length + 1) c') w' ∧
      w'.ownsRow base 56 4 (.slice A' (L ++ [x]).length c') (L ++ [x]).length (wdsV (L ++ [x])) ∧ Below base W w' := by
  obtain ⟨i, hi, hz0, hz1, hz2⟩ := info_parts infoWr
  have hb : Below base W (W.alloc (.cells #[.bool x.nm, .string ⟨x.tx.toArray⟩, .int .i64 (x.ln : Int), .int .i64 (x.co : Int)] 56)) := (Below.refl _ _).alloc hB _
  obtain ⟨v', w', hrun, h1, h2, h3⟩ := run_appR (P := Tryd.prog) (W.alloc (.cells #[.bool x.nm, .string ⟨x.tx.toArray⟩, .int .i64 (x.ln : Int), .int .i64 (x.co : Int)] 56)) base 27 27 56 i _ 4 40 Tryd.underlying27 hi hz0 hz1 hz2 rfl (by omega) (.slice A L.length c) L.length (wdsV L) (World.ownsRow.alloc hown _) (W.heap.size + 1) (some ⟨W.heap.size, 0, none⟩) 1 1 (wdV x) rfl (Rd.new W #[.bool x.nm, .string ⟨x.tx.toArray⟩, .int .i64 (x.ln : Int), .int .i64 (x.co : Int)] 56 (0, 0)) (by simp [wdV, Value.oneCell']) (by omega) (by omega) (by simp; omega)
  obtain ⟨A', c', rfl, _, _, _⟩ := own_shape h1
  have hl : (L ++ [x]).length = L.length + 1 := by simp
  refine ⟨A', c', w', hrun, ?_, hb.trans (grown_below' h2 (fun z hz => (World.ownsRow.lt hown z hz).1) (by simp; omega))⟩
  rw [hl, wdsV_append]
  have : wdsV [x] = wdV x := by simp [wdsV]
  rw [this]
  exact h1

/-! What the loops keep. -/
theorem take_drop {rs : List Nat} {i : Nat} (h : i < rs.length) : rs.drop i = rs[i] :: rs.drop (i + 1) := List.drop_eq_getElem_cons h
theorem plc_take {rs : List Nat} {i : Nat} (h : i < rs.length) : plc (1, 1) (rs.take (i + 1)) = bh (plc (1, 1) (rs.take i)) rs[i] := by
  rw [List.take_succ_eq_append_getElem h, plc_app]
  rfl
/-- Within a remark. -/
theorem rem_on {O : List Wd} {p : Nat × Nat} {r : Nat} {rest : List Nat} (h : r ≠ 10) : mach ⟨O, 2, p⟩ (r :: rest) = mach ⟨O, 2, bh p r⟩ rest := mach_ok _ (by unfold tk; rw [if_pos rfl, if_neg h])
theorem rem_end {O : List Wd} {p : Nat × Nat} {rest : List Nat} : mach ⟨O, 2, p⟩ (10 :: rest) = mach ⟨O, 0, bh p 10⟩ rest := mach_ok _ (by unfold tk; rw [if_pos rfl, if_pos rfl])
theorem rem_begin {O : List Wd} {p : Nat × Nat} {rest : List Nat} : mach ⟨O, 0, p⟩ (35 :: rest) = mach ⟨O, 2, p⟩ (35 :: rest) := by
  rw [rem_on (by decide)]
  exact mach_ok _ (by unfold tk; rw [if_neg (by simp), if_neg (by decide), if_pos rfl])
/-- A name that is open, where none goes on. -/
theorem name_shut {O : List Wd} {p : Nat × Nat} {rest : List Nat} (h : ∀ r t, rest = r :: t → ¬ isLet r) : mach ⟨O, 1, p⟩ rest = mach ⟨O, 0, p⟩ rest := by
  rcases rest with _ | ⟨r, t⟩
  · rfl
  · have hr := h r t rfl
    have : tk ⟨O, 1, p⟩ r = tk ⟨O, 0, p⟩ r := by
      unfold tk
      simp only
      simp only [if_neg (show ¬ (1 : Nat) = 2 by decide), if_neg (show ¬ (0 : Nat) = 2 by decide), if_neg hr]
    rw [mach_cons, mach_cons, this]
/-- What a name that is gathered keeps. -/
def NameInv (X : Except (Nat × Nat) (List Wd)) (O : List Wd) (p : Nat × Nat) (t : List UInt8) (q : Nat × Nat) (rest : List Nat) : Prop :=
  (t = [] ∧ q = p ∧ mach ⟨O, 0, p⟩ rest = X) ∨ (1 ≤ t.length ∧ t.length ≤ 16 ∧ mach ⟨O ++ [⟨true, t, p.1, p.2⟩], 1, q⟩ rest = X) ∨ (16 < t.length ∧ X = .error p)
theorem NameInv.step {X : Except (Nat × Nat) (List Wd)} {O : List Wd} {p q : Nat × Nat} {t : List UInt8} {r : Nat} {rest : List Nat} (h : NameInv X O p t q (r :: rest)) (hr : isLet r) : NameInv X O p (t ++ [UInt8.ofNat r]) (bh q r) rest := by
  rcases h with ⟨rfl, rfl, h⟩ | ⟨h1, h2, h⟩ | ⟨h1, h⟩
  · have ht : tk ⟨O, 0, q⟩ r = .ok ⟨O ++ [⟨true, [UInt8.ofNat r], q.1, q.2⟩], 1, bh q r⟩ := by
      unfold tk
      simp only
      rw [if_neg (by simp), if_pos hr]
      unfold letS
      simp only
      rw [if_neg (by simp)]
    rw [mach_ok _ ht] at h
    exact .inr (.inl ⟨by simp, by simp, h⟩)
  · by_cases h16 : t.length = 16
    · have ht : tk ⟨O ++ [⟨true, t, p.1, p.2⟩], 1, q⟩ r = .error p := by
        unfold tk
        simp only
        rw [if_neg (by simp), if_pos hr]
        unfold letS
        simp only
        rw [if_pos trivial, List.getLast?_concat]
        simp only
        rw [if_pos h16]
      rw [mach_bad _ ht] at h
      exact .inr (.inr ⟨by simp; omega, h.symm⟩)
    · have ht : tk ⟨O ++ [⟨true, t, p.1, p.2⟩], 1, q⟩ r = .ok ⟨O ++ [⟨true, t ++ [UInt8.ofNat r], p.1, p.2⟩], 1, bh q r⟩ := by
        unfold tk
        simp only
        rw [if_neg (by simp), if_pos hr]
        unfold letS
        simp only
        rw [if_pos trivial, List.getLast?_concat]
        simp only [List.dropLast_concat]
        rw [if_neg h16]
      rw [mach_ok _ ht] at h
      exact .inr (.inl ⟨by simp, by simp; omega, h⟩)
  · exact .inr (.inr ⟨by simp; omega, h⟩)
theorem NameInv.fin {X : Except (Nat × Nat) (List Wd)} {O : List Wd} {p q : Nat × Nat} {t : List UInt8} {rest : List Nat} (h : NameInv X O p t q rest) (ht : 1 ≤ t.length) (hr : ∀ r u, rest = r :: u → ¬ isLet r) :
    (t.length ≤ 16 ∧ mach ⟨O ++ [⟨true, t, p.1, p.2⟩], 0, q⟩ rest = X) ∨ (16 < t.length ∧ X = .error p) := by
  rcases h with ⟨rfl, _, _⟩ | ⟨h1, h2, h⟩ | h
  · simp at ht
  · rw [name_shut hr] at h
    exact .inl ⟨h2, h⟩
  · exact .inr h
end Go.Proofs.YtfgojbfdjbochaaDoor
