/- Unsure, in order; what a crash leaves. -/
import Derived.Test.YtnjljalihjkmcaaDskI
import Derived.Lib.SlKeysI
namespace Go.Proofs.Ytnjljalihjkmcaa
open Go.RowKit Go.Maps Go.Sort Go.Shelf Go.Proofs

/-- The keys of a map, in order. -/
def KeysAre (X : DataW Unit) (F : List Int) : Prop := F.Pairwise (· < ·) ∧ ∀ x, x ∈ F ↔ Maps.has X (kz x) = true

theorem KeysAre.sorted {X : DataW Unit} {F : List Int} (h : KeysAre X F) : F.mergeSort leI = F := by
  refine List.mergeSort_of_pairwise (h.1.imp fun {a b} hab => ?_)
  simp only [leI, decide_eq_true_eq]; omega
theorem KeysAre.nodup {X : DataW Unit} {F : List Int} (h : KeysAre X F) : F.Nodup := h.1.imp fun {a b} hab e => by omega
theorem KeysAre.perm {w : World} {b n : Nat} {X : DataW Unit} {F : List Int} (h : KeysAre X F) (hown : w.ownsMap Try.prog 3 secR b n X) : F.Perm (intKeys X) := by
  obtain ⟨es, hD, hpw, _⟩ := hown.entries keyZ
  obtain ⟨es', hD', hko⟩ := hown.keysOf
  obtain rfl : es = es' := by rw [hD] at hD'; simpa using hD'
  subst hD
  exact perm_intKeys hpw (fun p hp => by obtain ⟨v, hv⟩ := hko p hp; obtain ⟨x, _, hx, _⟩ := Maps.keyOf_i64 Try.underlying3 hv; exact ⟨x, hx⟩) h.nodup h.2
theorem KeysAre.bound {w : World} {b n : Nat} {X : DataW Unit} {F : List Int} (h : KeysAre X F) (hown : w.ownsMap Try.prog 3 secR b n X) : ∀ x ∈ F, -9223372036854775808 ≤ x ∧ x ≤ 9223372036854775807 := fun x hx => by
  have hw := intKeys_wf hown Try.underlying3 x ((h.perm hown).mem_iff.1 hx)
  have b1 : IntKind.i64.min = -9223372036854775808 := by decide +kernel
  have b2 : IntKind.i64.max = 9223372036854775807 := by decide +kernel
  simp [Lit.wf] at hw
  omega
theorem KeysAre.length {w : World} {b n : Nat} {X : DataW Unit} {F : List Int} (h : KeysAre X F) (hown : w.ownsMap Try.prog 3 secR b n X) : F.length ≤ n := by
  have h1 := (h.perm hown).length_eq
  have h2 := hown.size_le
  obtain ⟨es, hD, _⟩ := hown.entries keyZ
  subst hD
  rw [h1]
  simpa [intKeys, Maps.size] using h2

theorem unsure_list (p bs bw T : Nat) (D : DK) (F : List Int) (w : World) (h : DiskAt w p bs bw D T) (hT : T ≤ 1000000000) (hF : KeysAre D.wr F) :
    Calls Try.prog 62 #[.pointer (some ⟨p, 0, none⟩)] w fun e w' => ∃ v, e = .returned v ∧ w'.ownsRow w.heap.size 3 1 v F.length (F.map encZ) ∧ Below w.heap.size w w' := by
  have hp := hF.perm h.2.2.choose_spec.choose_spec.2.1
  refine (unsure_any p bs bw T D w h hT).mono ?_
  rintro e w' ⟨v, ss, rfl, hss, hrow, _, hb⟩
  refine ⟨v, rfl, ?_, hb⟩
  have e1 : ss.mergeSort leI = F := by rw [mergeSort_of_perm_i (hss.trans hp.symm), hF.sorted]
  have e2 : ss.length = F.length := (hss.trans hp.symm).length_eq
  rw [← e2]
  have hrow' := hrow
  change w'.ownsRow _ _ _ _ _ ((ss.mergeSort leI).map encZ) at hrow'
  rw [e1] at hrow'
  exact hrow'

/-- A torn sector. -/
def tearD : DataW Unit → DataW Unit → Int → DataW Unit
  | .lit (.string a), .lit (.string b), c => .lit (.string (tearL a b c))
  | x, _, _ => x
/-- The unsure sector i, the k-th, in a crash. -/
def crashStep (keep : List Bool) (torn cut : Int) (D : DK) (k : Nat) (i : Int) (S : DataW Unit) : DataW Unit :=
  if keep[k]? = some true then S.put (kz i) (D.wr.atKey (kz i) zlit) else if (k : Int) = torn then S.put (kz i) (tearD (D.sure.atKey (kz i) zlit) (D.wr.atKey (kz i) zlit) cut) else S
def crashL (keep : List Bool) (torn cut : Int) (D : DK) : List Int → Nat → DataW Unit → DataW Unit
  | [], _, S => S
  | i :: r, k, S => crashL keep torn cut D r (k + 1) (crashStep keep torn cut D k i S)
theorem crashL_step (keep : List Bool) (torn cut : Int) (D : DK) (F : List Int) (k : Nat) (S : DataW Unit) (hk : k < F.length) :
    crashL keep torn cut D (F.drop k) k S = crashL keep torn cut D (F.drop (k + 1)) (k + 1) (crashStep keep torn cut D k F[k] S) := by
  rw [List.drop_eq_getElem_cons hk]; rfl
def DK.crashed (D : DK) (keep : List Bool) (torn cut : Int) (F : List Int) : DK := ⟨D.size, crashL keep torn cut D F 0 D.sure, .map [], 0, false, 0⟩
end Go.Proofs.Ytnjljalihjkmcaa
