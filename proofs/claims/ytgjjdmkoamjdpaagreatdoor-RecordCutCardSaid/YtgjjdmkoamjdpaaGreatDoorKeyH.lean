/- KeyH, what this seat can fill of it. -/
import Derived.Test.YtgjjdmkoamjdpaaGreatDoorProg
import Derived.Test.YtgjjdmkoamjdpaaGreatDoorKeyA
import Derived.Test.YtgjjdmkoamjdpaaGreatDoorKeyC
import Derived.WalkKit
import Derived.WalkSpells
import Derived.WalkLawsBesides
import Derived.Lib.Bytealg
import Derived.Lib.BytesEntry
import Derived.Deep.QuietTactic
import Derived.Deep.RegionHeld3
import Derived.BigQuiet
import Derived.KernelRfl
import Derived.Lib.Hide
namespace Go.Proofs.YtgjjdmkoamjdpaaGreatDoor
set_option maxRecDepth 100000
/- The contracts of key.Decode and of what it calls. -/
open Go.RowKit

theorem ix_bytes (l : List UInt8) : Lib.bytesOf (l.map fun b => (b.toNat : Int)) = l := by
  induction l with
  | nil => rfl
  | cons b l ih => simp only [Lib.bytesOf, List.map_cons, List.map_map] at ih ⊢; rw [ih]; simp

/-- The entry internal/bytealg.IndexByte at bytes that lie in memory; nil and empty too. -/
theorem run_ixB {P : Program} (w : World) (A : Option Addr) (n c B : Nat) (l : List UInt8) (cv : Int) (hn : n = l.length) (hr : Rd w B A (u8s l)) :
    (Extern.BytealgIndexByte.indexByte #[.slice A n c, .int .u8 cv]).run P w = .ok (.int .i64 (Lib.indexByte l cv.toNat.toUInt8)) w := by
  subst hn
  rcases A with _ | a
  · have h0 : l = [] := by
      rcases l with _ | ⟨b, l⟩
      · rfl
      · obtain ⟨_, _, hp, _⟩ := hr (by simp [u8s])
        cases hp
    subst h0
    exact Lib.run_indexByteNil (P := P) w _ _ _
  · rcases l with _ | ⟨b, l⟩
    · have hl := Lib.run_loadBytesX (P := P) w [] a .empty (by intro j x hj; simp at hj)
      have hs := Lib.run_indexByteString (P := P) .empty cv w
      change Sem.run P (do
        let b ← Extern.Bytes.bytesOf (.slice (some a) 0 c)
        let c ← Extern.Bytes.asByte (.int .u8 cv)
        match (List.range b.size).find? fun i => b[i]! == c with
        | some i => pure (goInt i)
        | none => pure (goInt (-1))) w = _
      change Sem.run P (do
        let b ← Extern.Bytes.bytesOf (.string .empty)
        let c ← Extern.Bytes.asByte (.int .u8 cv)
        match (List.range b.size).find? fun i => b[i]! == c with
        | some i => pure (goInt i)
        | none => pure (goInt (-1))) w = _ at hs
      have he : (⟨ByteArray.empty.data ++ (Lib.bytesOf []).toArray⟩ : ByteArray) = .empty := rfl
      rw [he] at hl
      simp only [List.length_nil] at hl
      simp only [Extern.Bytes.bytesOf, Sem.run_bind, Sem.run_pure, hl, Result.andThen] at hs ⊢
      exact hs
    · obtain ⟨bb, o, ha, _, hc⟩ := hr (by simp [u8s])
      injection ha with ha
      subst ha
      have := Lib.run_indexByteSlice (P := P) w bb o (b :: l).length c ((b :: l).map fun b => (b.toNat : Int)) (by simp) (fun i hi => by
        have h2 := hc i _ (List.getElem?_eq_getElem (by rw [u8s_length]; exact hi))
        rw [h2, u8s_get _ i hi, List.getD_eq_getElem?_getD, List.getElem?_eq_getElem (show i < ((b :: l).map fun b => (b.toNat : Int)).length from by rw [List.length_map]; exact hi), List.getElem_map]
        rfl) cv
      rw [ix_bytes] at this
      exact this

theorem indexByte_any (A : Option Addr) (n c B : Nat) (l : List UInt8) (b : UInt8) (w : World) (hn : n = l.length) (hr : Rd w B A (u8s l)) :
    Calls Tryz.prog 136 #[.slice A n c, .int .u8 (b.toNat : Int)] w fun e w' => e = .returned (.int .i64 (Lib.indexByte l b)) ∧ w = w' := by
  have hx := run_ixB (P := Tryz.prog) w A n c B l (b.toNat : Int) hn hr
  have hb : ((b.toNat : Int).toNat).toUInt8 = b := by simp
  rw [hb] at hx
  obtain ⟨x, hxx⟩ : ∃ x, x = Lib.indexByte l b := ⟨_, rfl⟩
  rw [← hxx] at hx ⊢
  have HX := Lib.hid hx
  clear hx hb hxx hr hn
  go_enter Tryz.func136, Tryz.ntmps136
  go_wp2
  rw [run_callFunc_extern Tryz.func144 (by kernel_rfl) (by kernel_rfl) (by kernel_rfl) (e := Extern.BytealgIndexByte.indexByte) (by kernel_rfl), HX.out]
  simp only [Result.andThen]
  rw [Oper.upon_value]
  go_wp2
  go_ret
  exact ⟨rfl, rfl⟩

/-- What a text's bytes (behind its mark) are read as: the text, and what is behind it. -/
def rdT : List UInt8 → Option (List UInt8 × List UInt8)
  | [] => none
  | [_] => none
  | b :: c :: u =>
    if b = 0 then (if c = 255 then (rdT u).map (fun x => (0 :: x.1, x.2)) else if c = 1 then some ([], u) else none)
    else (rdT (c :: u)).map (fun x => (b :: x.1, x.2))

def rdZ (p : List UInt8) : List UInt8 → Option (List UInt8 × List UInt8)
  | [] => none
  | c :: u => if c = 255 then (rdT u).map (fun x => (p ++ 0 :: x.1, x.2)) else if c = 1 then some (p, u) else none

theorem rdT_split : ∀ l : List UInt8, (Lib.indexByte l 0 = -1 ∧ rdT l = none) ∨ ∃ p t, l = p ++ 0 :: t ∧ Lib.indexByte l 0 = (p.length : Int) ∧ rdT l = rdZ p t
  | [] => .inl ⟨rfl, rfl⟩
  | [b] => by
    by_cases hb : b = 0
    · subst hb
      exact .inr ⟨[], [], rfl, by simp [Lib.indexByte], rfl⟩
    · exact .inl ⟨by simp [Lib.indexByte, hb], rfl⟩
  | b :: c :: u => by
    by_cases hb : b = 0
    · subst hb
      refine .inr ⟨[], c :: u, rfl, by simp [Lib.indexByte], ?_⟩
      rw [rdT, if_pos rfl, rdZ]
      simp
    · rcases rdT_split (c :: u) with ⟨h1, h2⟩ | ⟨p, t, h0, h1, h2⟩
      · refine .inl ⟨?_, ?_⟩
        · rw [Lib.indexByte, h1]; simp [hb]
        · rw [rdT, if_neg hb, h2]; rfl
      · refine .inr ⟨b :: p, t, by rw [h0]; rfl, ?_, ?_⟩
        · rw [Lib.indexByte, h1]
          have h3 : ¬ ((p.length : Int) = -1) := by omega
          simp [hb, h3]
        · rw [rdT, if_neg hb, h2]
          cases t with
          | nil => rfl
          | cons d t =>
            simp only [rdZ]
            split
            · cases rdT t <;> simp
            · split <;> simp
end Go.Proofs.YtgjjdmkoamjdpaaGreatDoor
