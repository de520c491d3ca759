/- Plain facts: texts one behind the other; words whose places are moved. Nothing of the program's run is stated here. -/
import Derived.Test.YtfgojbfdjbochaaDoorWdA
namespace Go.Proofs.YtfgojbfdjbochaaDoor

theorem decodeN_ext (n n' b0 b1 b2 b3 c1 c2 c3 : Nat) (p : Nat × Nat) (hp : Lib.decodeN n' b0 c1 c2 c3 = p) (hv : ¬ (p.1 = 65533 ∧ p.2 = 1)) (hn : n' ≤ n)
    (e1 : 1 < n' → c1 = b1) (e2 : 2 < n' → c2 = b2) (e3 : 3 < n' → c3 = b3) : Lib.decodeN n b0 b1 b2 b3 = p := by
  unfold Lib.decodeN at hp ⊢
  repeat' split at hp
  all_goals subst hp
  all_goals dsimp only at hv
  all_goals first | (exact absurd ⟨rfl, rfl⟩ hv) | skip
  · rename_i h0
    rw [if_pos h0]
  · rename_i h0 h1 h2
    obtain rfl := e1 h1.2.1
    rw [if_neg h0, if_pos ⟨h1.1, by omega, h1.2.2⟩, if_pos h2]
  · rename_i h0 h1 h2 h3
    obtain rfl := e1 h2.2.1.1
    obtain rfl := e2 h2.2.2.1
    rw [if_neg h0, if_neg (by omega), if_pos ⟨h2.1, ⟨by omega, h2.2.1.2⟩, ⟨by omega, h2.2.2.2⟩⟩, if_pos h3]
  · rename_i h0 h1 h2 h3 h4
    obtain rfl := e1 h3.2.1.1
    obtain rfl := e2 h3.2.2.1.1
    obtain rfl := e3 h3.2.2.2.1
    rw [if_neg h0, if_neg (by omega), if_neg (by omega), if_pos ⟨h3.1, ⟨by omega, h3.2.1.2⟩, ⟨by omega, h3.2.2.1.2⟩, ⟨by omega, h3.2.2.2.2⟩⟩, if_pos h4]
theorem getD_app (a b : List UInt8) (k : Nat) (h : k < a.length) : (a ++ b).getD k 0 = a.getD k 0 := by
  simp only [List.getD, List.getElem?_append_left h]
theorem decodeL_app (a b : List UInt8) (hn : a ≠ []) (hb : ¬ badD a) : Lib.decodeL (a ++ b) = Lib.decodeL a := by
  have hl : 0 < a.length := List.length_pos_iff.2 hn
  rw [Lib.decodeL_N (a ++ b), getD_app a b 0 hl]
  refine decodeN_ext _ a.length _ _ _ _ (a.getD 1 0).toNat (a.getD 2 0).toNat (a.getD 3 0).toNat _ (Lib.decodeL_N a).symm hb (by simp) ?_ ?_ ?_
  · intro h; rw [getD_app _ _ _ h]
  · intro h; rw [getD_app _ _ _ h]
  · intro h; rw [getD_app _ _ _ h]
theorem app_both : ∀ (n : Nat) (a b : List UInt8), a.length ≤ n → Lib.validD a = true → rns (a ++ b) = rns a ++ rns b ∧ Lib.validD (a ++ b) = Lib.validD b
  | 0, a, b, h, _ => by
    have : a = [] := List.eq_nil_of_length_eq_zero (by omega)
    subst this
    exact ⟨rfl, rfl⟩
  | n + 1, a, b, h, hv => by
    by_cases hn : a = []
    · subst hn; exact ⟨rfl, rfl⟩
    · obtain ⟨h1, h2⟩ := valid_not hn hv
      have hl : 0 < a.length := List.length_pos_iff.2 hn
      have hw := Lib.decodeL_width a
      have hle := Lib.decodeL_le a hn
      have hne : a ++ b ≠ [] := by simp [hn]
      have hd := decodeL_app a b hn h1
      have hnb : ¬ badD (a ++ b) := by unfold badD; rw [hd]; exact h1
      have hdrop : (a ++ b).drop (Lib.decodeL a).2 = a.drop (Lib.decodeL a).2 ++ b := List.drop_append_of_le_length hle
      obtain ⟨i1, i2⟩ := app_both n (a.drop (Lib.decodeL a).2) b (by rw [List.length_drop]; omega) h2
      refine ⟨?_, ?_⟩
      · rw [rns_cons hne hnb, hd, hdrop, i1, rns_cons hn h1]
        rfl
      · have hs : ¬ ((Lib.decodeL (a ++ b)).1 = 65533 ∧ (Lib.decodeL (a ++ b)).2 = 1) := hnb
        rw [Lib.validD_step _ hne, if_neg hs, hd, hdrop, i2]
theorem rns_app {a : List UInt8} (b : List UInt8) (hv : Lib.validD a = true) : rns (a ++ b) = rns a ++ rns b := (app_both a.length a b (Nat.le_refl _) hv).1
theorem valid_app {a : List UInt8} (b : List UInt8) (hv : Lib.validD a = true) : Lib.validD (a ++ b) = Lib.validD b := (app_both a.length a b (Nat.le_refl _) hv).2
/-- A byte below 128 is a rune. -/
theorem ascii_one (x : UInt8) (hx : x.toNat < 128) : rns [x] = [x.toNat] ∧ Lib.validD [x] = true := by
  have hd : Lib.decodeL [x] = (x.toNat, 1) := by
    rw [Lib.decodeL_N]
    unfold Lib.decodeN
    have : ([x].getD 0 0).toNat = x.toNat := rfl
    rw [this, if_pos hx]
  have hb : ¬ badD [x] := by unfold badD; rw [hd]; simp only; omega
  refine ⟨?_, ?_⟩
  · rw [rns_cons (by simp) hb, hd]; rfl
  · have hs : ¬ ((Lib.decodeL [x]).1 = 65533 ∧ (Lib.decodeL [x]).2 = 1) := hb
    rw [Lib.validD_step _ (by simp), if_neg hs, hd]; rfl
theorem ascii_all : ∀ (l : List UInt8), (∀ x ∈ l, x.toNat < 128) → rns l = l.map (·.toNat) ∧ Lib.validD l = true
  | [], _ => ⟨rfl, rfl⟩
  | x :: l, h => by
    obtain ⟨a1, a2⟩ := ascii_one x (h x (by simp))
    obtain ⟨b1, b2⟩ := ascii_all l fun y hy => h y (by simp [hy])
    have e : x :: l = [x] ++ l := rfl
    rw [e, rns_app l a2, valid_app l a2, a1, b1]
    exact ⟨rfl, b2⟩
/-- A splitter behind runes. -/
def runS : Sp → List Nat → Except (Nat × Nat) Sp
  | s, [] => .ok s
  | s, r :: rs => match tk s r with
    | .ok s' => runS s' rs
    | .error p => .error p
theorem mach_run {s s' : Sp} : ∀ {a : List Nat} (b : List Nat), runS s a = .ok s' → mach s (a ++ b) = mach s' b
  | [], b, h => by cases h; rfl
  | r :: a, b, h => by
    rw [runS] at h
    rcases ht : tk s r with q | s2
    · rw [ht] at h; cases h
    · rw [ht] at h
      rw [List.cons_append, mach_ok _ ht]
      exact mach_run b h
theorem runS_app {s s' s'' : Sp} : ∀ {a b : List Nat}, runS s a = .ok s' → runS s' b = .ok s'' → runS s (a ++ b) = .ok s''
  | [], b, h, h2 => by cases h; exact h2
  | r :: a, b, h, h2 => by
    rw [runS] at h
    rw [List.cons_append, runS]
    rcases ht : tk s r with q | s2
    · rw [ht] at h; cases h
    · rw [ht] at h
      simp only
      exact runS_app h h2
theorem plc_app (p : Nat × Nat) (a b : List Nat) : plc p (a ++ b) = plc (plc p a) b := by simp [plc]

/-! Places that are moved. -/
def shP (P q : Nat × Nat) : Nat × Nat := (q.1 + P.1 - 1, if q.1 = 1 then q.2 + P.2 - 1 else q.2)
def shW (P : Nat × Nat) (x : Wd) : Wd := ⟨x.nm, x.tx, (shP P (x.ln, x.co)).1, (shP P (x.ln, x.co)).2⟩
def shS (P : Nat × Nat) (s : Sp) : Sp := ⟨s.ws.map (shW P), s.wi, shP P s.pl⟩
/-- Places from line 1, column 1 on. -/
structure Pos (s : Sp) : Prop where
  l : 1 ≤ s.pl.1
  c : 1 ≤ s.pl.2
  w : ∀ x ∈ s.ws, 1 ≤ x.ln ∧ 1 ≤ x.co
theorem bh_sh (P q : Nat × Nat) (r : Nat) (hP : 1 ≤ P.1 ∧ 1 ≤ P.2) (hq : 1 ≤ q.1 ∧ 1 ≤ q.2) : bh (shP P q) r = shP P (bh q r) := by
  unfold bh shP
  by_cases h : r = 10
  · rw [if_pos h, if_pos h]
    simp only
    rw [if_neg (by omega)]
    exact Prod.ext (by simp only; omega) rfl
  · rw [if_neg h, if_neg h]
    simp only
    refine Prod.ext rfl ?_
    simp only
    split <;> omega
theorem bh_pos (q : Nat × Nat) (r : Nat) (hq : 1 ≤ q.1 ∧ 1 ≤ q.2) : 1 ≤ (bh q r).1 ∧ 1 ≤ (bh q r).2 := by
  unfold bh
  split
  · simp only; omega
  · simp only; omega
theorem plc_pos : ∀ (rs : List Nat) (q : Nat × Nat), 1 ≤ q.1 ∧ 1 ≤ q.2 → 1 ≤ (plc q rs).1 ∧ 1 ≤ (plc q rs).2
  | [], _, h => h
  | r :: rs, q, h => plc_pos rs (bh q r) (bh_pos q r h)
theorem plc_sh : ∀ (rs : List Nat) (P q : Nat × Nat), 1 ≤ P.1 ∧ 1 ≤ P.2 → 1 ≤ q.1 ∧ 1 ≤ q.2 → plc (shP P q) rs = shP P (plc q rs)
  | [], _, _, _, _ => rfl
  | r :: rs, P, q, hP, hq => by rw [plc_cons, plc_cons, bh_sh P q r hP hq, plc_sh rs P _ hP (bh_pos q r hq)]
theorem shP_ge (P q : Nat × Nat) (hq : 1 ≤ q.1 ∧ 1 ≤ q.2) : P.1 < (shP P q).1 ∨ (P.1 = (shP P q).1 ∧ P.2 ≤ (shP P q).2) := by
  unfold shP
  simp only
  by_cases h : q.1 = 1
  · rw [if_pos h]; omega
  · left; omega
theorem shP_one (P : Nat × Nat) (hP : 1 ≤ P.1 ∧ 1 ≤ P.2) : shP P (1, 1) = P := by
  unfold shP
  simp only [if_pos]
  exact Prod.ext (by simp only; omega) (by simp only; omega)
def exMap {α β γ δ : Type} (f : α → β) (g : γ → δ) : Except α γ → Except β δ
  | .ok x => .ok (g x)
  | .error p => .error (f p)
theorem tk_sh (P : Nat × Nat) (s : Sp) (r : Nat) (hP : 1 ≤ P.1 ∧ 1 ≤ P.2) (hs : Pos s) : tk (shS P s) r = exMap (shP P) (shS P) (tk s r) := by
  have hb := bh_sh P s.pl r hP ⟨hs.l, hs.c⟩
  have e1 : (shS P s).wi = s.wi := rfl
  have e2 : (shS P s).pl = shP P s.pl := rfl
  have e3 : (shS P s).ws = s.ws.map (shW P) := rfl
  unfold tk
  rw [e1, e2, e3, hb]
  split
  · rfl
  split
  · unfold letS
    rw [e1, e2, e3, hb]
    split
    · rw [List.getLast?_map]
      rcases hg : s.ws.getLast? with _ | c
      · rfl
      · simp only [Option.map_some]
        have : (shW P c).tx = c.tx := rfl
        rw [this]
        split
        · rfl
        · simp [exMap, shS, shW, List.map_dropLast]
    · simp [exMap, shS, shW]
  split
  · simp [exMap, shS]
  split
  · simp [exMap, shS]
  split
  · simp [exMap]
  · simp [exMap, shS, shW]
theorem tk_pos {s s' : Sp} {r : Nat} (hs : Pos s) (h : tk s r = .ok s') : Pos s' := by
  have hb := bh_pos s.pl r ⟨hs.l, hs.c⟩
  unfold tk at h
  split at h
  · cases h; exact ⟨hb.1, hb.2, hs.w⟩
  split at h
  · unfold letS at h
    split at h
    · rcases hg : s.ws.getLast? with _ | c
      · rw [hg] at h; cases h
      · rw [hg] at h
        simp only at h
        split at h
        · cases h
        · cases h
          refine ⟨hb.1, hb.2, fun x hx => ?_⟩
          simp only [List.mem_append, List.mem_singleton] at hx
          rcases hx with hx | rfl
          · exact hs.w x (List.dropLast_subset _ hx)
          · exact hs.w c (List.mem_of_getLast? hg)
    · cases h
      refine ⟨hb.1, hb.2, fun x hx => ?_⟩
      simp only [List.mem_append, List.mem_singleton] at hx
      rcases hx with hx | rfl
      · exact hs.w x hx
      · exact ⟨hs.l, hs.c⟩
  split at h
  · cases h; exact ⟨hb.1, hb.2, hs.w⟩
  split at h
  · cases h; exact ⟨hb.1, hb.2, hs.w⟩
  split at h
  · cases h
  · cases h
    refine ⟨hb.1, hb.2, fun x hx => ?_⟩
    simp only [List.mem_append, List.mem_singleton] at hx
    rcases hx with hx | rfl
    · exact hs.w x hx
    · exact ⟨hs.l, hs.c⟩
theorem tk_err {s : Sp} {r : Nat} {q : Nat × Nat} (hs : Pos s) (h : tk s r = .error q) : 1 ≤ q.1 ∧ 1 ≤ q.2 := by
  unfold tk at h
  split at h
  · cases h
  split at h
  · unfold letS at h
    split at h
    · rcases hg : s.ws.getLast? with _ | c
      · rw [hg] at h; cases h; exact ⟨hs.l, hs.c⟩
      · rw [hg] at h
        simp only at h
        split at h
        · cases h; exact hs.w c (List.mem_of_getLast? hg)
        · cases h
    · cases h
  split at h
  · cases h
  split at h
  · cases h
  split at h
  · cases h; exact ⟨hs.l, hs.c⟩
  · cases h
theorem mach_sh (P : Nat × Nat) (hP : 1 ≤ P.1 ∧ 1 ≤ P.2) : ∀ (rs : List Nat) (s : Sp), Pos s → mach (shS P s) rs = exMap (shP P) (List.map (shW P)) (mach s rs)
  | [], s, _ => rfl
  | r :: rs, s, hs => by
    have ht := tk_sh P s r hP hs
    rw [mach_cons, mach_cons, ht]
    rcases h : tk s r with q | s'
    · rfl
    · simp only [exMap]
      exact mach_sh P hP rs s' (tk_pos hs h)
theorem mach_pos : ∀ (rs : List Nat) (s : Sp), Pos s → match mach s rs with | .ok ws => ∀ x ∈ ws, 1 ≤ x.ln ∧ 1 ≤ x.co | .error q => 1 ≤ q.1 ∧ 1 ≤ q.2
  | [], s, hs => hs.w
  | r :: rs, s, hs => by
    rw [mach_cons]
    rcases h : tk s r with q | s'
    · exact tk_err hs h
    · exact mach_pos rs s' (tk_pos hs h)
theorem pos0 : Pos spl0 := ⟨by simp [spl0], by simp [spl0], fun x h => by simp [spl0] at h⟩
end Go.Proofs.YtfgojbfdjbochaaDoor
