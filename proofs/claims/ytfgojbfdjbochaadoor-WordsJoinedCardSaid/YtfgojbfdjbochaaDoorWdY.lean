/- Plain facts: names and signs joined by blanks and remarks. Nothing of the program's run is stated here. -/
import Derived.Test.YtfgojbfdjbochaaDoorWdN
namespace Go.Proofs.YtfgojbfdjbochaaDoor

def nb (b : UInt8) : UInt8 := UInt8.ofNat (97 + b.toNat % 26)
theorem nb_toNat (b : UInt8) : (nb b).toNat = 97 + b.toNat % 26 := by
  unfold nb
  rw [UInt8.toNat_ofNat']
  omega
/-- The first letters of a name. -/
def nmK (l : List UInt8) (k : Nat) : List UInt8 := (l.take k).map nb
def nameB (l : List UInt8) : List UInt8 := nmK l 16
theorem nmK_len (l : List UInt8) (k : Nat) : (nmK l k).length ≤ k := by simp [nmK]; omega
theorem nmK_succ {l : List UInt8} {k : Nat} (h : k < l.length) : nmK l (k + 1) = nmK l k ++ [nb l[k]] := by
  unfold nmK
  rw [List.take_succ_eq_append_getElem h, List.map_append]
  rfl
theorem nmK_all {l : List UInt8} {k : Nat} (h : l.length ≤ k) (h2 : k ≤ 16) : nmK l k = nameB l := by
  unfold nameB nmK
  rw [List.take_of_length_le h, List.take_of_length_le (by omega)]
def rawB (k : Nat) : List UInt8 := [[40], [41], [44], [61], [59], [226, 134, 144], [226, 136, 167]].getD k []
def plnB (k : Nat) : List UInt8 := [[40], [41], [44], [61], [59], [61], [44]].getD k []
def rawR (k : Nat) : Nat := [40, 41, 44, 61, 59, 8592, 8743].getD k 0
theorem raw_is : ∀ k, k < 7 → rns (rawB k) = [rawR k] ∧ Lib.validD (rawB k) = true ∧ sgn (rawR k) = plnB k ∧ ¬ isLet (rawR k) ∧ rawR k ≠ 35 ∧ ¬ isBlk (rawR k) ∧ plnB k ≠ [] ∧ (rawB k).length ≤ 3 := by decide +kernel
def sgB : Option Nat → List UInt8
  | some k => rawB k
  | none => []
def sgW : Option Nat → List (List UInt8)
  | some k => [plnB k]
  | none => []
structure Pc where
  nm : List UInt8
  sg : Option Nat
  gp : Nat
def pcB (P : Pc) : List UInt8 := P.nm ++ sgB P.sg ++ gapB P.gp
def pcW (P : Pc) : List (List UInt8) := (if P.nm = [] then [] else [P.nm]) ++ sgW P.sg
structure Pc.ok (P : Pc) : Prop where
  nm : P.nm.length ≤ 16 ∧ ∀ b ∈ P.nm, isLet b.toNat
  sg : ∀ k, P.sg = some k → k < 7
  gp : P.gp < 8
theorem nameB_ok (l : List UInt8) : (nameB l).length ≤ 16 ∧ ∀ b ∈ nameB l, isLet b.toNat := by
  refine ⟨nmK_len l 16, fun b hb => ?_⟩
  simp only [nameB, nmK, List.mem_map] at hb
  obtain ⟨x, _, rfl⟩ := hb
  unfold isLet
  rw [nb_toNat]
  omega
theorem tk_sign {s : Sp} {r : Nat} (hw : s.wi ≠ 2) (h1 : ¬ isLet r) (h2 : r ≠ 35) (h3 : ¬ isBlk r) (h4 : sgn r ≠ []) : tk s r = .ok ⟨s.ws ++ [⟨false, sgn r, s.pl.1, s.pl.2⟩], 0, bh s.pl r⟩ := by
  unfold tk
  rw [if_neg hw, if_neg h1, if_neg h2, if_neg h3, if_neg h4]
theorem let_ascii {l : List UInt8} (h : ∀ b ∈ l, isLet b.toNat) : ∀ b ∈ l, b.toNat < 128 := fun b hb => by
  have := h b hb
  unfold isLet at this
  omega
theorem pc_run (P : Pc) (hP : P.ok) (s : Sp) (hw : s.wi = 0) : Lib.validD (pcB P) = true ∧ ∃ s', runS s (rns (pcB P)) = .ok s' ∧ s'.wi = 0 ∧ s'.ws.map Wd.tx = s.ws.map Wd.tx ++ pcW P := by
  obtain ⟨nm, sg, gp⟩ := P
  obtain ⟨⟨h1, h2⟩, h3, h4⟩ := hP
  simp only at h1 h2 h3 h4
  obtain ⟨n1, n2⟩ := ascii_all nm (let_ascii h2)
  obtain ⟨_, g2, _⟩ := gap_is gp h4
  -- the name
  have hname : ∃ s1 : Sp, runS s (rns nm) = .ok s1 ∧ s1.wi ≠ 2 ∧ s1.ws.map Wd.tx = s.ws.map Wd.tx ++ (if nm = [] then [] else [nm]) := by
    by_cases hn : nm = []
    · subst hn
      exact ⟨s, rfl, by omega, by simp⟩
    · obtain ⟨o, wi, p⟩ := s
      simp only at hw
      subst hw
      have hwf : wfW ⟨true, nm, 0, 0⟩ := .inl ⟨rfl, List.length_pos_iff.2 hn, h1, h2⟩
      obtain ⟨wi, hwi, hr⟩ := word_run ⟨true, nm, 0, 0⟩ hwf o p
      rw [n1]
      exact ⟨_, hr, hwi, by simp [hn]⟩
  obtain ⟨s1, r1, w1, t1⟩ := hname
  have hsign : Lib.validD (sgB sg) = true ∧ ∃ s2 : Sp, runS s1 (rns (sgB sg)) = .ok s2 ∧ s2.wi ≠ 2 ∧ s2.ws.map Wd.tx = s1.ws.map Wd.tx ++ sgW sg := by
    rcases sg with _ | k
    · exact ⟨rfl, s1, rfl, w1, by simp [sgW]⟩
    · obtain ⟨a1, a2, a3, a4, a5, a6, a7, _⟩ := raw_is k (h3 k rfl)
      refine ⟨a2, ⟨s1.ws ++ [⟨false, sgn (rawR k), s1.pl.1, s1.pl.2⟩], 0, bh s1.pl (rawR k)⟩, ?_, by simp, by simp [a3, sgW]⟩
      show runS s1 (rns (rawB k)) = _
      rw [a1, runS, tk_sign w1 a4 a5 a6 (by rw [a3]; exact a7)]
      rfl
  obtain ⟨sv, s2, r2, w2, t2⟩ := hsign
  have r3 := gap_run s2 w2 gp h4
  have hv12 : Lib.validD (nm ++ (sgB sg)) = true := by rw [valid_app _ n2]; exact sv
  refine ⟨?_, ⟨s2.ws, 0, plc s2.pl (rns (gapB gp))⟩, ?_, rfl, ?_⟩
  · unfold pcB
    rw [valid_app _ hv12]
    exact g2
  · unfold pcB
    rw [rns_app _ hv12, rns_app _ n2]
    exact runS_app (runS_app r1 r2) r3
  · unfold pcW
    simp only
    rw [t2, t1, List.append_assoc]
def pcsB (Ps : List Pc) : List UInt8 := Ps.flatMap pcB
def pcsW (Ps : List Pc) : List (List UInt8) := Ps.flatMap pcW
theorem pcs_run : ∀ (Ps : List Pc), (∀ P ∈ Ps, P.ok) → ∀ s : Sp, s.wi = 0 → Lib.validD (pcsB Ps) = true ∧ ∃ s', runS s (rns (pcsB Ps)) = .ok s' ∧ s'.wi = 0 ∧ s'.ws.map Wd.tx = s.ws.map Wd.tx ++ pcsW Ps
  | [], _, s, hw => ⟨rfl, s, rfl, hw, by simp [pcsW]⟩
  | P :: Ps, h, s, hw => by
    obtain ⟨v1, s1, r1, w1, t1⟩ := pc_run P (h P (by simp)) s hw
    obtain ⟨v2, s2, r2, w2, t2⟩ := pcs_run Ps (fun x hx => h x (by simp [hx])) s1 w1
    have e : pcsB (P :: Ps) = pcB P ++ pcsB Ps := rfl
    have e2 : pcsW (P :: Ps) = pcW P ++ pcsW Ps := rfl
    rw [e, e2, valid_app _ v1, rns_app _ v1]
    exact ⟨v2, s2, runS_app r1 r2, w2, by rw [t2, t1, List.append_assoc]⟩
/-- Names and signs that are joined are split into just these. -/
theorem joined (Ps : List Pc) (h : ∀ P ∈ Ps, P.ok) : (1024 < (pcsB Ps).length ∧ splitW (pcsB Ps) = ([], 0, 0, 3)) ∨
    (¬ 1024 < (pcsB Ps).length ∧ ∃ ws, splitW (pcsB Ps) = (ws, 0, 0, 0) ∧ ws.map Wd.tx = pcsW Ps ∧ ∀ x ∈ ws, wfW x) := by
  by_cases hl : 1024 < (pcsB Ps).length
  · exact .inl ⟨hl, if_pos hl⟩
  · right
    obtain ⟨v, s', r, _, t⟩ := pcs_run Ps h spl0 rfl
    have hm := mach_run [] r
    rw [List.append_nil] at hm
    have hX : splitW (pcsB Ps) = (s'.ws, 0, 0, 0) := by
      unfold splitW
      rw [if_neg hl, if_neg (by rw [v]; simp), hm]
      rfl
    have hwf := split_wf (pcsB Ps)
    rw [hX] at hwf
    exact ⟨hl, s'.ws, hX, by rw [t]; simp [spl0], hwf⟩
theorem pcsB_take (Ps : List Pc) (k : Nat) (h : k < Ps.length) : pcsB (Ps.take (k + 1)) = pcsB (Ps.take k) ++ pcB Ps[k] := by
  unfold pcsB
  rw [List.take_succ_eq_append_getElem h, List.flatMap_append, List.flatMap_singleton]
theorem pcsW_take (Ps : List Pc) (k : Nat) (h : k < Ps.length) : pcsW (Ps.take (k + 1)) = pcsW (Ps.take k) ++ pcW Ps[k] := by
  unfold pcsW
  rw [List.take_succ_eq_append_getElem h, List.flatMap_append, List.flatMap_singleton]
theorem pcB_len (P : Pc) (h : P.ok) : (pcB P).length ≤ 25 := by
  unfold pcB
  have h1 := h.nm.1
  have h2 := gapB_len P.gp
  rw [List.length_append, List.length_append]
  rcases hs : P.sg with _ | k
  · simp only [sgB, List.length_nil]; omega
  · have := (raw_is k (h.sg k hs)).2.2.2.2.2.2.2
    simp only [sgB]; omega
theorem pcsB_len : ∀ (Ps : List Pc), (∀ P ∈ Ps, P.ok) → (pcsB Ps).length ≤ 25 * Ps.length
  | [], _ => by simp [pcsB]
  | P :: Ps, h => by
    have h1 := pcB_len P (h P (by simp))
    have h2 := pcsB_len Ps fun x hx => h x (by simp [hx])
    have e : pcsB (P :: Ps) = pcB P ++ pcsB Ps := rfl
    rw [e, List.length_append, List.length_cons]
    omega
theorem pcW_len (P : Pc) : (pcW P).length ≤ 2 := by
  unfold pcW
  rw [List.length_append]
  split
  · rcases P.sg with _ | k <;> simp [sgW]
  · rcases P.sg with _ | k <;> simp [sgW]
theorem pcsW_len : ∀ (Ps : List Pc), (pcsW Ps).length ≤ 2 * Ps.length
  | [] => by simp [pcsW]
  | P :: Ps => by
    have h1 := pcW_len P
    have h2 := pcsW_len Ps
    have e : pcsW (P :: Ps) = pcW P ++ pcsW Ps := rfl
    rw [e, List.length_append, List.length_cons]
    omega
/-- Is a word's first byte a letter just if it is a name? -/
theorem wf_first {x : Wd} (h : wfW x) : ∃ b t, x.tx = b :: t ∧ x.nm = (decide ((97 : Int) ≤ (b.toNat : Int)) && decide ((b.toNat : Int) ≤ 122)) := by
  rcases h with ⟨h1, h2, _, h4⟩ | ⟨h1, h2⟩
  · rcases ht : x.tx with _ | ⟨b, t⟩
    · rw [ht] at h2; simp at h2
    · have := h4 b (by rw [ht]; simp)
      unfold isLet at this
      refine ⟨b, t, rfl, ?_⟩
      rw [h1]
      have e1 : (97 : Int) ≤ (b.toNat : Int) := by omega
      have e2 : (b.toNat : Int) ≤ 122 := by omega
      simp [e1, e2]
  · rw [h1]
    rcases h2 with h | h | h | h | h <;> exact ⟨_, _, h, by decide⟩
end Go.Proofs.YtfgojbfdjbochaaDoor
