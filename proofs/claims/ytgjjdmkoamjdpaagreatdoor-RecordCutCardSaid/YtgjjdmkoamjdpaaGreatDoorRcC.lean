/- The bytes of a change in form: appendChange. -/
import Derived.Test.YtgjjdmkoamjdpaaGreatDoorRcB
namespace Go.Proofs.YtgjjdmkoamjdpaaGreatDoor
open Go.RowKit Go.Maps

/-- append of bytes onto a row of the call's own. -/
theorem app_onto (w : World) (base : Nat) (v : Value) (l : List UInt8) (hown : OwnB w base 5 v l) (hB : base ≤ w.heap.size) (A : Option Addr) (m c : Nat) (k : List UInt8) (hm : m = k.length) (hr : Rd w w.heap.size A (u8s k)) (hl : l.length + k.length ≤ 100000) :
    ∃ v' w', (Builtin.append_ #[32, 32] 32 #[v, .slice A m c]).run Tryz.prog w = .ok v' w' ∧ OwnB w' base 5 v' (l ++ k) ∧ Fr w w' v.ownBlock.toList ∧ (∀ s ∈ v'.ownBlock.toList, s ∈ v.ownBlock.toList ∨ w.heap.size ≤ s) ∧ Below base w w' ∧ w.heap.size ≤ w'.heap.size := by
  obtain ⟨i0, hi, hz0, hz1, hz2⟩ := info_parts infoU8
  obtain ⟨v', w', h1, h2, h3, h4⟩ := run_appB (P := Tryz.prog) w base 32 32 5 i0 _ Tryz.underlying32 hi hz0 hz1 hz2 rfl v l hown w.heap.size A m c k hm hr (by omega) hB
  refine ⟨v', w', h1, h2, ?_, fun s hs => ?_, grown_below' h3 (fun z hz => (World.ownsRow.lt hown z hz).1) hB, h3.size⟩
  · cases hv : v.ownBlock with
    | none => rw [hv] at h3; exact Fr.of_grown0 h3 _
    | some b => rw [hv] at h3; exact Fr.of_grown h3
  · rcases h4 with e | e
    · rw [e] at hs; exact .inl hs
    · rw [e] at hs
      exact .inr (by simp at hs; omega)
theorem wpL_appK {ops : Array Oper} {rest : List Oper} {o : Oper} {a : Act} {Q : Exit → Act → World → Prop} (w : World) (hgd : o.guard = none) (s x : Operand) (t : TypeId)
    (ho : o.op = .call { callee := .builtin .append, args := #[s, x], argTypes := #[t, t] }) (hty : o.type = t) (v y v' : Value) (w' : World) (hs : a.eval s = v) (hx : a.eval x = y)
    (hrun : (Builtin.append_ #[t, t] t #[v, y]).run Tryz.prog w = .ok v' w') (h : wpList Tryz.prog ops Q rest (a.put o.dst v') w') : wpList Tryz.prog ops Q (o :: rest) a w := by
  refine wpList_plain hgd fun K hK => ?_
  exact step_appK' w s x t ho hty v y v' w' hs hx hrun (hK _ _ h)
def keyBs (c : ChV) : List UInt8 := keyB (keyL c)
/-- The bytes of a change. -/
def chB (c : ChV) : List UInt8 := UInt8.ofNat (keyBs c).length :: (keyBs c ++ if c.kind = 5 then encV c.v else [])
theorem nodeB_iff {n : Int} : nodeB n = true ↔ 1 ≤ n ∧ n ≤ 1000 := by unfold nodeB; rw [Bool.and_eq_true, decide_eq_true_eq, decide_eq_true_eq]
theorem cntB_le : ∀ (l : List UInt8) (b : UInt8), Lib.countByte l b ≤ l.length := fun l b => by
  unfold Lib.countByte
  exact List.count_le_length
theorem strK_sz {s : ByteArray} (h : isNm s.data.toList = true) : partSz (strK s) ≤ 35 ∧ (strK s).fits := by
  have h1 := isNm_len h
  have hl : s.data.toList.length = s.size := Array.length_toList
  have h2 := cntB_le s.data.toList 0
  constructor
  · unfold partSz strK
    simp only [if_true]
    omega
  · refine ⟨?_, ?_, ?_⟩
    · show s.size ≤ _; omega
    · show (-9223372036854775808 : Int) ≤ 0; omega
    · show (0 : Int) ≤ _; omega
theorem numK_sz {n : Int} (h : 1 ≤ n ∧ n ≤ 1000) : partSz (numK n) = 9 ∧ (numK n).fits := ⟨rfl, by show (0 : Nat) ≤ _; omega, by show (-9223372036854775808 : Int) ≤ n; omega, by show n ≤ (9223372036854775807 : Int); omega⟩
/-- What a change in form is made of. -/
theorem form_facts {c : ChV} (h : formB c = true) : (1 ≤ c.kind ∧ c.kind ≤ 6) ∧ keySz (keyL c) ≤ 62 ∧ (∀ p ∈ keyL c, p.fits) ∧ (c.kind = 5 → ckN c.v = 0) ∧ (keyL c).length ≤ 4 := by
  unfold formB at h
  unfold keyL
  by_cases h12 : c.kind = 1 ∨ c.kind = 2
  · rw [if_pos h12] at h ⊢
    have k1 := numK_sz (n := c.kind) (by omega)
    have k2 := numK_sz (nodeB_iff.1 h)
    refine ⟨by omega, ?_, ?_, by omega, by simp⟩
    · simp [keySz, k1.1, k2.1]
    · intro p hp; simp at hp; rcases hp with rfl | rfl
      · exact k1.2
      · exact k2.2
  · rw [if_neg h12] at h ⊢
    by_cases h34 : c.kind = 3 ∨ c.kind = 4
    · rw [if_pos h34] at h ⊢
      rw [Bool.and_eq_true, Bool.and_eq_true] at h
      have k1 := numK_sz (n := c.kind) (by omega)
      have k2 := numK_sz (nodeB_iff.1 h.1.1)
      have k3 := strK_sz h.1.2
      have k4 := numK_sz (nodeB_iff.1 h.2)
      refine ⟨by omega, ?_, ?_, by omega, by simp⟩
      · simp [keySz, k1.1, k2.1, k4.1]; have := k3.1; omega
      · intro p hp; simp at hp; rcases hp with rfl | rfl | rfl | rfl
        · exact k1.2
        · exact k2.2
        · exact k3.2
        · exact k4.2
    · rw [if_neg h34] at h ⊢
      by_cases h5 : c.kind = 5
      · rw [if_pos h5] at h
        rw [Bool.and_eq_true, Bool.and_eq_true, decide_eq_true_eq] at h
        have k1 := numK_sz (n := c.kind) (by omega)
        have k2 := numK_sz (nodeB_iff.1 h.1.1)
        have k3 := strK_sz h.1.2
        refine ⟨by omega, ?_, ?_, fun _ => h.2, by simp⟩
        · simp [keySz, k1.1, k2.1]; have := k3.1; omega
        · intro p hp; simp at hp; rcases hp with rfl | rfl | rfl
          · exact k1.2
          · exact k2.2
          · exact k3.2
      · rw [if_neg h5] at h
        by_cases h6 : c.kind = 6
        · rw [if_pos h6] at h
          rw [Bool.and_eq_true] at h
          have k1 := numK_sz (n := c.kind) (by omega)
          have k2 := numK_sz (nodeB_iff.1 h.1)
          have k3 := strK_sz h.2
          refine ⟨by omega, ?_, ?_, by omega, by simp⟩
          · simp [keySz, k1.1, k2.1]; have := k3.1; omega
          · intro p hp; simp at hp; rcases hp with rfl | rfl | rfl
            · exact k1.2
            · exact k2.2
            · exact k3.2
        · rw [if_neg h6] at h; cases h
end Go.Proofs.YtgjjdmkoamjdpaaGreatDoor
