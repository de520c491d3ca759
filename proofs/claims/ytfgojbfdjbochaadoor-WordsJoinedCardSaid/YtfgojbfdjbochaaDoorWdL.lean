/- Plain facts: blanks and remarks ahead of a text; words printed again. Nothing of the program's run is stated here. -/
import Derived.Test.YtfgojbfdjbochaaDoorWdK
namespace Go.Proofs.YtfgojbfdjbochaaDoor

/-- What may stand between words. -/
def gapB (k : Nat) : List UInt8 := [[32], [9], [10], [194, 160], [227, 128, 128], [35, 120, 40, 195, 169, 10], [13, 10], [32, 32]].getD k []
def gapR (k : Nat) : List Nat := [[32], [9], [10], [160], [12288], [35, 120, 40, 233, 10], [13, 10], [32, 32]].getD k []
theorem gap_is : ∀ k, k < 8 → rns (gapB k) = gapR k ∧ Lib.validD (gapB k) = true ∧ (gapB k).length ≤ 6 := by decide +kernel
theorem tk_blank {s : Sp} {r : Nat} (hw : s.wi ≠ 2) (h : isBlk r) : tk s r = .ok ⟨s.ws, 0, bh s.pl r⟩ := by
  have h1 : ¬ isLet r := by unfold isLet isBlk at *; omega
  have h2 : r ≠ 35 := by unfold isBlk at h; omega
  unfold tk
  rw [if_neg hw, if_neg h1, if_neg h2, if_pos h]
theorem gap_run (s : Sp) (hw : s.wi ≠ 2) (k : Nat) (hk : k < 8) : runS s (rns (gapB k)) = .ok ⟨s.ws, 0, plc s.pl (rns (gapB k))⟩ := by
  rw [(gap_is k hk).1]
  have hb : ∀ r, isBlk r → tk s r = .ok ⟨s.ws, 0, bh s.pl r⟩ := fun r h => tk_blank hw h
  have hb0 : ∀ (p : Nat × Nat) r, isBlk r → tk ⟨s.ws, 0, p⟩ r = .ok ⟨s.ws, 0, bh p r⟩ := fun p r h => tk_blank (s := ⟨s.ws, 0, p⟩) (by simp) h
  have hcase : k = 0 ∨ k = 1 ∨ k = 2 ∨ k = 3 ∨ k = 4 ∨ k = 5 ∨ k = 6 ∨ k = 7 := by omega
  rcases hcase with rfl | rfl | rfl | rfl | rfl | rfl | rfl | rfl
  · show runS s [32] = _; rw [runS, hb 32 (by decide)]; rfl
  · show runS s [9] = _; rw [runS, hb 9 (by decide)]; rfl
  · show runS s [10] = _; rw [runS, hb 10 (by decide)]; rfl
  · show runS s [160] = _; rw [runS, hb 160 (by decide)]; rfl
  · show runS s [12288] = _; rw [runS, hb 12288 (by decide)]; rfl
  · show runS s [35, 120, 40, 233, 10] = _
    have h35 : tk s 35 = .ok ⟨s.ws, 2, bh s.pl 35⟩ := by unfold tk; rw [if_neg hw, if_neg (by decide), if_pos rfl]
    rw [runS, h35]
    rfl
  · show runS s [13, 10] = _; rw [runS, hb 13 (by decide)]; simp only; rw [runS, hb0 _ 10 (by decide)]; rfl
  · show runS s [32, 32] = _; rw [runS, hb 32 (by decide)]; simp only; rw [runS, hb0 _ 32 (by decide)]; rfl
/-- Several gaps. -/
def gapsB (ks : List Nat) : List UInt8 := ks.flatMap gapB
theorem gaps_valid : ∀ (ks : List Nat), (∀ k ∈ ks, k < 8) → Lib.validD (gapsB ks) = true ∧ (gapsB ks).length ≤ 6 * ks.length
  | [], _ => ⟨rfl, by simp [gapsB]⟩
  | k :: ks, h => by
    obtain ⟨_, a2, a3⟩ := gap_is k (h k (by simp))
    obtain ⟨b1, b2⟩ := gaps_valid ks fun x hx => h x (by simp [hx])
    have e : gapsB (k :: ks) = gapB k ++ gapsB ks := rfl
    rw [e, valid_app _ a2, List.length_append, List.length_cons]
    exact ⟨b1, by omega⟩
theorem gaps_run : ∀ (ks : List Nat), (∀ k ∈ ks, k < 8) → ∀ s : Sp, s.wi = 0 → runS s (rns (gapsB ks)) = .ok ⟨s.ws, 0, plc s.pl (rns (gapsB ks))⟩
  | [], _, s, hw => by
    obtain ⟨ws, wi, pl⟩ := s
    simp only at hw
    subst hw
    rfl
  | k :: ks, h, s, hw => by
    obtain ⟨_, a2, _⟩ := gap_is k (h k (by simp))
    have e : gapsB (k :: ks) = gapB k ++ gapsB ks := rfl
    have hg := gap_run s (by omega) k (h k (by simp))
    have ih := gaps_run ks (fun x hx => h x (by simp [hx])) ⟨s.ws, 0, plc s.pl (rns (gapB k))⟩ rfl
    rw [e, rns_app _ a2, plc_app]
    exact runS_app hg ih
/-- What stands ahead moves the words of a text. -/
theorem moved (ks : List Nat) (hk : ∀ k ∈ ks, k < 8) (l : List UInt8) (hl : (gapsB ks ++ l).length ≤ 1024) (P : Nat × Nat) (hP : P = plc (1, 1) (rns (gapsB ks))) :
    (splitW (gapsB ks ++ l)).1 = (splitW l).1.map (shW P) ∧ (splitW (gapsB ks ++ l)).2.2.2 = (splitW l).2.2.2 ∧
      ((splitW l).2.2.2 ≠ 0 → P.1 < (splitW (gapsB ks ++ l)).2.1 ∨ (P.1 = (splitW (gapsB ks ++ l)).2.1 ∧ P.2 ≤ (splitW (gapsB ks ++ l)).2.2.1)) := by
  obtain ⟨hv, _⟩ := gaps_valid ks hk
  have hPp : 1 ≤ P.1 ∧ 1 ≤ P.2 := by rw [hP]; exact plc_pos _ _ (by simp)
  have hl2 : ¬ 1024 < l.length := by rw [List.length_append] at hl; omega
  unfold splitW
  rw [if_neg (by omega), if_neg hl2, valid_app _ hv, rns_app _ hv, plc_app, ← hP]
  by_cases h : Lib.validD l = false
  · rw [if_pos h, if_pos h]
    refine ⟨rfl, rfl, fun _ => ?_⟩
    have := plc_sh (rns l) P (1, 1) hPp (by simp)
    rw [shP_one P hPp] at this
    rw [this]
    exact shP_ge P _ (plc_pos _ _ (by simp))
  · rw [if_neg h, if_neg h]
    have hr := gaps_run ks hk spl0 rfl
    rw [mach_run _ hr]
    have hs : (⟨spl0.ws, 0, plc spl0.pl (rns (gapsB ks))⟩ : Sp) = shS P spl0 := by
      show Sp.mk [] 0 (plc (1, 1) (rns (gapsB ks))) = Sp.mk [] 0 (shP P (1, 1))
      rw [← hP, shP_one P hPp]
    rw [hs, mach_sh P hPp _ _ pos0]
    have hp := mach_pos (rns l) spl0 pos0
    rcases hm : mach spl0 (rns l) with q | ws
    · rw [hm] at hp
      exact ⟨rfl, rfl, fun _ => shP_ge P q hp⟩
    · exact ⟨rfl, rfl, fun h0 => absurd rfl h0⟩

/-! Words as they are. -/
def wfW (x : Wd) : Prop := (x.nm = true ∧ 1 ≤ x.tx.length ∧ x.tx.length ≤ 16 ∧ ∀ b ∈ x.tx, isLet b.toNat) ∨ (x.nm = false ∧ (x.tx = [40] ∨ x.tx = [41] ∨ x.tx = [44] ∨ x.tx = [61] ∨ x.tx = [59]))
structure WfS (s : Sp) : Prop where
  all : ∀ x ∈ s.ws, wfW x
  open_ : s.wi = 1 → ∃ o c, s.ws = o ++ [c] ∧ c.nm = true
theorem let_byte {r : Nat} (h : isLet r) : isLet (UInt8.ofNat r).toNat := by
  unfold isLet at *
  rw [UInt8.toNat_ofNat']
  omega
theorem sgn_wf {r : Nat} (h : sgn r ≠ []) : sgn r = [40] ∨ sgn r = [41] ∨ sgn r = [44] ∨ sgn r = [61] ∨ sgn r = [59] := by
  unfold sgn at *
  repeat' split
  all_goals simp_all
theorem tk_wf {s s' : Sp} {r : Nat} (hs : WfS s) (h : tk s r = .ok s') : WfS s' := by
  unfold tk at h
  split at h
  · cases h
    refine ⟨hs.all, fun hh => ?_⟩
    simp only at hh
    split at hh <;> omega
  split at h
  · rename_i hl
    unfold letS at h
    split at h
    · rename_i hw
      obtain ⟨o, c, ho, hc⟩ := hs.open_ hw
      rw [ho, List.getLast?_concat] at h
      simp only [List.dropLast_concat] at h
      split at h
      · cases h
      · rename_i h16
        cases h
        have hcw := hs.all c (by rw [ho]; simp)
        refine ⟨fun x hx => ?_, fun _ => ⟨o, _, rfl, hc⟩⟩
        simp only [List.mem_append, List.mem_singleton] at hx
        rcases hx with hx | rfl
        · exact hs.all x (by rw [ho]; simp [hx])
        · rcases hcw with ⟨_, h1, h2, h3⟩ | ⟨h0, _⟩
          · refine .inl ⟨hc, by simp, by simp only [List.length_append, List.length_singleton]; omega, fun b hb => ?_⟩
            simp only [List.mem_append, List.mem_singleton] at hb
            rcases hb with hb | rfl
            · exact h3 b hb
            · exact let_byte hl
          · rw [hc] at h0; cases h0
    · cases h
      refine ⟨fun x hx => ?_, fun _ => ⟨s.ws, _, rfl, rfl⟩⟩
      simp only [List.mem_append, List.mem_singleton] at hx
      rcases hx with hx | rfl
      · exact hs.all x hx
      · exact .inl ⟨rfl, by simp, by simp, fun b hb => by simp only [List.mem_singleton] at hb; subst hb; exact let_byte hl⟩
  split at h
  · cases h; exact ⟨hs.all, fun hh => by simp at hh⟩
  split at h
  · cases h; exact ⟨hs.all, fun hh => by simp at hh⟩
  split at h
  · cases h
  · rename_i hsg
    cases h
    refine ⟨fun x hx => ?_, fun hh => by simp at hh⟩
    simp only [List.mem_append, List.mem_singleton] at hx
    rcases hx with hx | rfl
    · exact hs.all x hx
    · exact .inr ⟨rfl, sgn_wf hsg⟩
theorem mach_wf : ∀ (rs : List Nat) (s : Sp) (ws : List Wd), WfS s → mach s rs = .ok ws → ∀ x ∈ ws, wfW x
  | [], s, ws, hs, h => by cases h; exact hs.all
  | r :: rs, s, ws, hs, h => by
    rw [mach_cons] at h
    rcases ht : tk s r with q | s'
    · rw [ht] at h; cases h
    · rw [ht] at h; exact mach_wf rs s' ws (tk_wf hs ht) h
theorem split_wf (l : List UInt8) : ∀ x ∈ (splitW l).1, wfW x := by
  unfold splitW
  split
  · intro x hx; cases hx
  split
  · intro x hx; cases hx
  · rcases hm : mach spl0 (rns l) with q | ws
    · intro x hx; cases hx
    · exact mach_wf _ _ _ ⟨(fun x hx => by cases hx), (fun h => by simp [spl0] at h)⟩ hm
/-- More letters of a name that is open. -/
theorem name_run : ∀ (t : List UInt8) (o : List Wd) (c : Wd) (p : Nat × Nat), (∀ b ∈ t, isLet b.toNat) → c.tx.length + t.length ≤ 16 →
    runS ⟨o ++ [c], 1, p⟩ (t.map (·.toNat)) = .ok ⟨o ++ [⟨c.nm, c.tx ++ t, c.ln, c.co⟩], 1, (p.1, p.2 + t.length)⟩
  | [], o, c, p, _, _ => by simp [runS]
  | b :: t, o, c, p, h, hl => by
    have hb := h b (by simp)
    have hne : b.toNat ≠ 10 := by unfold isLet at hb; omega
    simp only [List.length_cons] at hl
    have ht : tk ⟨o ++ [c], 1, p⟩ b.toNat = .ok ⟨o ++ [⟨c.nm, c.tx ++ [b], c.ln, c.co⟩], 1, (p.1, p.2 + 1)⟩ := by
      unfold tk
      simp only
      rw [if_neg (by simp), if_pos hb]
      unfold letS
      simp only
      rw [if_pos trivial, List.getLast?_concat]
      simp only [List.dropLast_concat]
      rw [if_neg (by omega)]
      have h1 : UInt8.ofNat b.toNat = b := by simp
      have h2 : bh p b.toNat = (p.1, p.2 + 1) := if_neg hne
      rw [h1, h2]
    rw [List.map_cons, runS, ht]
    simp only
    rw [name_run t o ⟨c.nm, c.tx ++ [b], c.ln, c.co⟩ (p.1, p.2 + 1) (fun x hx => h x (by simp [hx])) (by simp; omega)]
    simp only [List.append_assoc, List.singleton_append, List.length_cons]
    congr 3
    omega
theorem word_run (x : Wd) (hx : wfW x) (o : List Wd) (p : Nat × Nat) : ∃ wi, wi ≠ 2 ∧ runS ⟨o, 0, p⟩ (x.tx.map (·.toNat)) = .ok ⟨o ++ [⟨x.nm, x.tx, p.1, p.2⟩], wi, (p.1, p.2 + x.tx.length)⟩ := by
  obtain ⟨nm, tx, ln, co⟩ := x
  simp only
  rcases hx with ⟨h1, h2, h3, h4⟩ | ⟨h1, h2⟩
  · simp only at h1 h2 h3 h4
    subst h1
    rcases tx with _ | ⟨b, t⟩
    · simp at h2
    · have hb := h4 b (by simp)
      have hne : b.toNat ≠ 10 := by unfold isLet at hb; omega
      have ht : tk ⟨o, 0, p⟩ b.toNat = .ok ⟨o ++ [⟨true, [b], p.1, p.2⟩], 1, (p.1, p.2 + 1)⟩ := by
        unfold tk
        simp only
        rw [if_neg (by simp), if_pos hb]
        unfold letS
        simp only
        rw [if_neg (by simp)]
        have e1 : UInt8.ofNat b.toNat = b := by simp
        have e2 : bh p b.toNat = (p.1, p.2 + 1) := if_neg hne
        rw [e1, e2]
      refine ⟨1, by simp, ?_⟩
      simp only [List.length_cons] at h3
      rw [List.map_cons, runS, ht]
      simp only
      rw [name_run t o ⟨true, [b], p.1, p.2⟩ (p.1, p.2 + 1) (fun y hy => h4 y (by simp [hy])) (by simp; omega)]
      simp only [List.singleton_append, List.length_cons]
      congr 3
      omega
  · simp only at h1 h2
    subst h1
    refine ⟨0, by simp, ?_⟩
    rcases h2 with rfl | rfl | rfl | rfl | rfl
    all_goals rfl
/-- Words printed with a blank behind each. -/
def againT (ws : List Wd) : List UInt8 := ws.flatMap fun x => x.tx ++ [32]
def relab : Nat → List Wd → List Wd
  | _, [] => []
  | c, x :: ws => ⟨x.nm, x.tx, 1, c⟩ :: relab (c + x.tx.length + 1) ws
theorem wf_ascii {x : Wd} (hx : wfW x) : ∀ b ∈ x.tx, b.toNat < 128 := by
  intro b hb
  rcases hx with ⟨_, _, _, h4⟩ | ⟨_, h2⟩
  · have := h4 b hb
    unfold isLet at this
    omega
  · rcases h2 with h | h | h | h | h <;> (rw [h] at hb; simp only [List.mem_singleton] at hb; subst hb; decide)
theorem again_run : ∀ (ws : List Wd), (∀ x ∈ ws, wfW x) → ∀ (o : List Wd) (c : Nat), runS ⟨o, 0, (1, c)⟩ ((againT ws).map (·.toNat)) = .ok ⟨o ++ relab c ws, 0, (1, c + (againT ws).length)⟩
  | [], _, o, c => by simp [againT, relab, runS]
  | x :: ws, h, o, c => by
    obtain ⟨wi, hwi, h1⟩ := word_run x (h x (by simp)) o (1, c)
    have h2 := tk_blank (s := ⟨o ++ [⟨x.nm, x.tx, 1, c⟩], wi, (1, c + x.tx.length)⟩) (r := 32) hwi (by decide)
    have h3 : runS ⟨o ++ [⟨x.nm, x.tx, 1, c⟩], wi, (1, c + x.tx.length)⟩ [32] = .ok ⟨o ++ [⟨x.nm, x.tx, 1, c⟩], 0, (1, c + x.tx.length + 1)⟩ := by rw [runS, h2]; rfl
    have ih := again_run ws (fun y hy => h y (by simp [hy])) (o ++ [⟨x.nm, x.tx, 1, c⟩]) (c + x.tx.length + 1)
    have e : (againT (x :: ws)).map (·.toNat) = x.tx.map (·.toNat) ++ ([32] ++ (againT ws).map (·.toNat)) := by
      simp [againT]
    have hl : (againT (x :: ws)).length = x.tx.length + 1 + (againT ws).length := by simp [againT]; omega
    rw [e, hl]
    have := runS_app h1 (runS_app h3 ih)
    rw [this, relab]
    simp only [List.append_assoc, List.singleton_append]
    congr 3
    omega
theorem again_ascii (ws : List Wd) (h : ∀ x ∈ ws, wfW x) : ∀ b ∈ againT ws, b.toNat < 128 := by
  intro b hb
  simp only [againT, List.mem_flatMap, List.mem_append, List.mem_singleton] at hb
  obtain ⟨x, hx, hb⟩ := hb
  rcases hb with hb | rfl
  · exact wf_ascii (h x hx) b hb
  · decide
theorem again (ws : List Wd) (h : ∀ x ∈ ws, wfW x) : splitW (againT ws) = if 1024 < (againT ws).length then ([], 0, 0, 3) else (relab 1 ws, 0, 0, 0) := by
  obtain ⟨a1, a2⟩ := ascii_all _ (again_ascii ws h)
  unfold splitW
  split
  · rfl
  · rw [if_neg (by rw [a2]; simp), a1]
    have hr := again_run ws h [] 1
    have := mach_run [] hr
    rw [List.append_nil] at this
    show endW (mach ⟨[], 0, (1, 1)⟩ _) = _
    rw [this]
    rfl
theorem relab_len : ∀ (ws : List Wd) (c : Nat), (relab c ws).length = ws.length
  | [], _ => rfl
  | x :: ws, c => by simp [relab, relab_len ws]
end Go.Proofs.YtfgojbfdjbochaaDoor
