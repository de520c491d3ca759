/- KeyI, what this seat can fill of it. -/
import Derived.Test.YtgjjdmkoamjdpaaGreatDoorProg
import Derived.Test.YtgjjdmkoamjdpaaGreatDoorKeyH
import Derived.Test.YtgjjdmkoamjdpaaGreatDoorKeyD
import Derived.WalkKit
import Derived.WalkSpells
import Derived.WalkLawsBesides
import Derived.Deep.QuietTactic
import Derived.BigQuiet
import Derived.KernelRfl
import Derived.Lib.Hide
namespace Go.Proofs.YtgjjdmkoamjdpaaGreatDoor
set_option maxRecDepth 100000
/- key.readText. -/
open Go.RowKit

def lenOf : Value → Nat | .slice _ n _ => n | _ => 0

/-- What a part's reader hands back. -/
def ReadsPart (B : Nat) (w' : World) (r : Option (KPart × List UInt8)) (v : Value) : Prop :=
  match r with
  | none => v = .tuple #[.agg #[.bool false, .string ⟨#[]⟩, .int .i64 0], .slice none 0 0, .bool false]
  | some (p, l) => ∃ A c, v = .tuple #[.agg #[.bool p.text, .string p.s, .int .i64 p.n], .slice A l.length c, .bool true] ∧ Rd w' B A (u8s l) ∧ l.length ≤ c ∧ c ≤ 9223372036854775807

def txt (r : Option (List UInt8 × List UInt8)) : Option (KPart × List UInt8) := r.map fun x => (⟨true, ⟨x.1.toArray⟩, 0⟩, x.2)

theorem strAt0 {w : World} {A : Option Addr} {n c B : Nat} {l : List UInt8} (hr : Rd w B A (u8s l)) (hn : n = l.length) :
    (convert 32 9 (.slice A n c)).run Tryz.prog w = .ok (.string ⟨l.toArray⟩) w :=
  run_strB (P := Tryz.prog) w 32 9 5 A n c B l Tryz.underlying32 Tryz.underlying5 Tryz.underlying9 hn hr

theorem set3 {w : World} {b : Nat} {t : TypeId} {x0 x1 x2 : Value} (h : w.heap[b]? = some (.cells #[x0, x1, x2] t (0, 0))) (v0 v1 v2 : Value) :
    (((w.setCell ⟨b, 0, none⟩ v0).setCell ⟨b, 1, none⟩ v1).setCell ⟨b, 2, none⟩ v2).heap[b]? = some (.cells #[v0, v1, v2] t (0, 0)) := by
  have h1 := heap_setCell_same w b 0 #[x0, x1, x2] t v0 h
  have h2 := heap_setCell_same _ b 1 _ t v1 h1
  have h3 := heap_setCell_same _ b 2 _ t v2 h2
  simpa using h3

theorem res41 {w : World} {b : Nat} {v0 v1 v2 : Value} (h : w.heap[b]? = some (.cells #[v0, v1, v2] 150 (0, 0))) (tmps : Array Value) (h2 : tmps.getD 2 undef = .pointer (some ⟨b, 0, none⟩)) :
    (results Tryz.f113 tmps).run Tryz.prog w = .ok (.tuple #[.agg #[v0, v1, v2], tmps.getD 3 undef, tmps.getD 4 undef]) w := by
  have e0 : w.cell? ⟨b, 0, none⟩ = some v0 := cell_of_row w b 0 _ _ _ h
  have e1 : w.cell? ⟨b, 1, none⟩ = some v1 := cell_of_row w b 1 _ _ _ h
  have e2 : w.cell? ⟨b, 2, none⟩ = some v2 := cell_of_row w b 2 _ _ _ h
  have h2' := h2
  simp only [Array.getD_eq_getD_getElem?] at h2'
  simp [results, Tryz.results113, go_sem, h2', e0, e1, e2]

set_option maxRecDepth 100000 in
set_option maxHeartbeats 2000000 in
theorem kreadText_any (A : Option Addr) (l : List UInt8) (n c B : Nat) (w : World) (hn : n = l.length) (hr : Rd w B A (u8s l)) (hB : B ≤ w.heap.size) (hc : l.length ≤ c) (hcm : c ≤ 9223372036854775807) (hl : l.length ≤ 10000) :
    Calls Tryz.prog 113 #[.slice A n c] w fun e w' => ∃ v, e = .returned v ∧ ReadsPart B w' (txt (rdT l)) v ∧ Below w.heap.size w w' := by
  subst hn
  obtain ⟨i0, hi, hz0, hz1, hz2⟩ := info_parts kinfoU8
  go_enter Tryz.func113, Tryz.ntmps113
  go_wp2
  have hBW : Below w.heap.size w (w.alloc (.cells #[.bool false, .string ⟨#[]⟩, .int .i64 0] 150)) := (Below.refl _ _).alloc (Nat.le_refl _) _
  have hsW : w.heap.size < (w.alloc (.cells #[.bool false, .string ⟨#[]⟩, .int .i64 0] 150)).heap.size := by simp
  have d0 : (w.alloc (.cells #[.bool false, .string ⟨#[]⟩, .int .i64 0] 150)).heap[w.heap.size]? = some (.cells #[.bool false, .string ⟨#[]⟩, .int .i64 0] 150 (0, 0)) := heap_alloc_new w _
  have hrW := hr.alloc hB (.cells #[.bool false, .string ⟨#[]⟩, .int .i64 0] 150)
  obtain ⟨b0, hb0⟩ : ∃ b, b = w.heap.size := ⟨_, rfl⟩
  rw [← hb0] at d0 ⊢
  have hb0W : b0 < (w.alloc (.cells #[.bool false, .string ⟨#[]⟩, .int .i64 0] 150)).heap.size := by omega
  have hb0B : B ≤ b0 := by omega
  generalize w.alloc (.cells #[.bool false, .string ⟨#[]⟩, .int .i64 0] 150) = W at *
  have HB0 := Lib.hid hb0
  clear hb0 hr
  have HD0 := Lib.hid d0
  clear d0
  go_loopw [0, 5] (fun bv sv wr => ∃ A' c' l' s, bv = .slice A' l'.length c' ∧ Rd wr B A' (u8s l') ∧ l'.length ≤ c' ∧ c' ≤ 9223372036854775807 ∧ OwnB wr W.heap.size 5 sv s ∧ Below W.heap.size W wr ∧ s.length + l'.length ≤ 10000 ∧ (rdT l').map (fun x => (s ++ x.1, x.2)) = rdT l) (fun bv _ _ => lenOf bv)
  case atStart => exact ⟨A, c, l, [], rfl, hrW, hc, hcm, OwnB.nil _ _ _, Below.refl _ _, by simpa using hl, by simp⟩
  case round =>
    obtain ⟨A', c', l', s, rfl, hr', hc', hcm', hown, hbk, hsl, heq⟩ := hrel
    have hsz := hbk.size
    have hblk : wr.heap[b0]? = some (.cells #[.bool false, .string ⟨#[]⟩, .int .i64 0] 150 (0, 0)) := (hbk.block b0 hb0W).trans HD0.out
    have e0 : wr.cell? ⟨b0, 0, none⟩ = some (.bool false) := cell_of_row wr b0 0 _ _ _ hblk
    have e1 : wr.cell? ⟨b0, 1, none⟩ = some (.string ⟨#[]⟩) := cell_of_row wr b0 1 _ _ _ hblk
    have e2 : wr.cell? ⟨b0, 2, none⟩ = some (.int .i64 0) := cell_of_row wr b0 2 _ _ _ hblk
    have f0 : wr.frozen? ⟨b0, 0, none⟩ = false := frozen_of_row wr b0 0 _ _ hblk
    have f1 : wr.frozen? ⟨b0, 1, none⟩ = false := frozen_of_row wr b0 1 _ _ hblk
    have f2 : wr.frozen? ⟨b0, 2, none⟩ = false := frozen_of_row wr b0 2 _ _ hblk
    have HBK := Lib.hid hblk
    clear hblk
    have HEQ := Lib.hid heq
    clear heq
    have hix := indexByte_any A' l'.length c' B l' 0 wr rfl hr'
    rcases rdT_split l' with ⟨h1, h2⟩ | ⟨p, t, h0, h1, h2⟩
    · have hnone : rdT l = none := by rw [← HEQ.out, h2]; rfl
      rw [h1] at hix
      have HIX := Lib.hid hix
      have HN := Lib.hid hnone
      clear hix h1 h2 hnone
      go_wp2_with (go_at_call 136; refine HIX.out.mono ?_; rintro e w' ⟨rfl, rfl⟩)
      refine bodyPost_ret (res41 (set3 HBK.out _ _ _) _ rfl) rfl ⟨_, rfl, ?_, ?_⟩
      · rw [HN.out]; rfl
      · exact (((hBW.trans (hbk.mono (by omega))).setCell (by have := HB0.out; simp; omega) _).setCell (by have := HB0.out; simp; omega) _).setCell (by have := HB0.out; simp; omega) _
    · have hnz : rdT l = (rdZ p t).map (fun x => (s ++ x.1, x.2)) := by rw [← HEQ.out, h2]
      rw [h1] at hix
      have hpl : p.length + 1 + t.length = l'.length := by rw [h0]; simp; omega
      obtain ⟨pb, po, hA, hpB, -⟩ := hr'.get (k := 0) (by rw [u8s_length]; omega)
      subst hA
      have HIX := Lib.hid hix
      have HN := Lib.hid hnz
      clear hix h1 h2 hnz
      rcases t with _ | ⟨d, u⟩
      · have hpl' : (p.length : Int) + 1 = (l'.length : Int) := by simp at hpl; omega
        have hq : (((p.length : Int) + 1) == (l'.length : Int)) = true := beq_iff_eq.2 hpl'
        have hp0 : ¬ (p.length : Int) < 0 := by omega
        have hpb : p.length ≤ 10000 := by simp at hpl; omega
        clear h0 hpl hpl'
        go_wp2_with (go_at_call 136; refine HIX.out.mono ?_; rintro e w' ⟨rfl, rfl⟩)
        refine bodyPost_ret (res41 (set3 HBK.out _ _ _) _ rfl) rfl ⟨_, rfl, ?_, ?_⟩
        · rw [HN.out]; rfl
        · exact (((hBW.trans (hbk.mono (by omega))).setCell (by have := HB0.out; simp; omega) _).setCell (by have := HB0.out; simp; omega) _).setCell (by have := HB0.out; simp; omega) _
      · have hpl' : (p.length : Int) + 2 ≤ (l'.length : Int) := by simp at hpl; omega
        have hq : (((p.length : Int) + 1) == (l'.length : Int)) = false := beq_eq_false_iff_ne.2 (by omega)
        have hp0 : ¬ (p.length : Int) < 0 := by omega
        have hpt : l'.take p.length = p := by rw [h0]; simp
        have hud : l'.drop (p.length + 2) = u := by rw [h0]; simp
        have hrp : Rd wr B (some ⟨pb, po, none⟩) (u8s p) := by rw [← hpt, u8s_take]; exact hr'.take _
        have hpl2 : s.length + p.length ≤ 140737488355328 := by simp at hpl; omega
        have hdc : l'[p.length + 1]? = some d := by rw [h0]; simp
        have HPT := Lib.hid hpt
        have HUD := Lib.hid hud
        have HDC := Lib.hid hdc
        have HPL := Lib.hid hpl
        clear h0 hpt hud hdc hpl
        go_wp2_with (first
          | (go_at_call 136; refine HIX.out.mono ?_; rintro e w' ⟨rfl, rfl⟩)
          | (at_builtin; refine wpList_appB _ rfl (.tmp 21) (.tmp 24) _ rfl W.heap.size 5 i0 _ Tryz.underlying32 hi hz0 hz1 hz2 rfl u5 s rfl hown B (some ⟨pb, po, none⟩) p.length c' p rfl rfl hrp hpl2 hsz ?_; intro v2 w2 hown2 hg2 hat2))
        have hb2 : Below W.heap.size wr w2 := (Below.refl _ _).grown hg2 hsz (fun k hk => (World.ownsRow.lt hown k hk).1)
        have hB2 : Below W.heap.size W w2 := hbk.trans hb2
        have hs2 := hB2.size
        have hr2 : Rd w2 B (some ⟨pb, po, none⟩) (u8s l') := hr'.below hb2 (by omega)
        have hcd : w2.cell? ⟨pb, po + (p.length + 1), none⟩ = some (.int .u8 (d.toNat : Int)) := by
          obtain ⟨pb', po', hA, _, hcc⟩ := hr2 (by intro e; have := u8s_length l'; rw [e] at this; simp at this; omega)
          injection hA with hA
          injection hA with h3 h4
          subst h3 h4
          refine hcc (p.length + 1) _ ?_
          have := HDC.out
          simp [u8s, this]
        have hblk : w2.heap[b0]? = some (.cells #[.bool false, .string ⟨#[]⟩, .int .i64 0] 150 (0, 0)) := (hB2.block b0 hb0W).trans HD0.out
        clear hg2 hat2 hown hbk e0 e1 e2 f0 f1 f2 hr' hrp
        have hix1 : (p.length : Int) + 1 < (l'.length : Int) := by omega
        have hix2 : (p.length : Int) + 2 ≤ (c' : Int) := by omega
        have hix3 : (0 : Int) ≤ (p.length : Int) + 1 := by omega
        have HBK2 := Lib.hid hblk
        clear hblk
        go_quiet (fail)
        have e0 : (w2.drewN nq).cell? ⟨b0, 0, none⟩ = some (.bool false) := cell_of_row w2 b0 0 _ _ _ HBK2.out
        have e1 : (w2.drewN nq).cell? ⟨b0, 1, none⟩ = some (.string ⟨#[]⟩) := cell_of_row w2 b0 1 _ _ _ HBK2.out
        have e2 : (w2.drewN nq).cell? ⟨b0, 2, none⟩ = some (.int .i64 0) := cell_of_row w2 b0 2 _ _ _ HBK2.out
        have f0 : (w2.drewN nq).frozen? ⟨b0, 0, none⟩ = false := frozen_of_row w2 b0 0 _ _ HBK2.out
        have f1 : (w2.drewN nq).frozen? ⟨b0, 1, none⟩ = false := frozen_of_row w2 b0 1 _ _ HBK2.out
        have f2 : (w2.drewN nq).frozen? ⟨b0, 2, none⟩ = false := frozen_of_row w2 b0 2 _ _ HBK2.out
        have hown3 := hown2.drewN nq
        have hB3 := below_draws hB2 nq
        have hr3 := hr2.drewN nq
        have hs3 : W.heap.size ≤ (w2.drewN nq).heap.size := hB3.size
        have hblk3 : (w2.drewN nq).heap[b0]? = some (.cells #[.bool false, .string ⟨#[]⟩, .int .i64 0] 150 (0, 0)) := HBK2.out
        have HBK3 := Lib.hid hblk3
        clear hblk3 hown2 hB2 hr2 hs2 hcd hb2
        generalize w2.drewN nq = w3 at *
        have hlu : u.length = l'.length - (p.length + 2) := by rw [← HUD.out, List.length_drop]
        have hcut := hr3.cut (k := p.length + 2) (size := 1) (cap := c') (n := l'.length) (by rw [u8s_length]; omega) (by omega) hc'
        rw [Nat.mul_one, ← u8s_drop, HUD.out, Option.map_some, plainAdd] at hcut
        obtain ⟨RA, hRA⟩ : ∃ RA, RA = (if c' = p.length + 2 then some (⟨pb, po, none⟩ : Addr) else some ⟨pb, po + (p.length + 2), none⟩) := ⟨_, rfl⟩
        rw [← hRA] at hcut ⊢
        have HRR := Lib.hid hcut
        have HLU := Lib.hid hlu
        have hcc : u.length ≤ c' - (p.length + 2) := by omega
        clear hcut hlu hRA hr3
        by_cases d1 : ((d.toNat : Int) == 255) = true
        · have hd : d = 255 := UInt8.toNat_inj.1 (by have := beq_iff_eq.1 d1; show d.toNat = 255; omega)
          have HD := Lib.hid hd
          clear hd
          have hl0 : (s ++ p).length + [(0 : UInt8)].length ≤ 140737488355328 := by have := HPL.out; simp at this ⊢; omega
          go_wp2_with (at_builtin; refine wpList_appB _ rfl (.tmp 39) (.tmp 40) _ rfl W.heap.size 5 i0 _ Tryz.underlying32 hi hz0 hz1 hz2 rfl v2 (s ++ p) rfl (hown3.alloc _) (w3.heap.size + 1) (some ⟨w3.heap.size, 0, none⟩) 1 1 [0] rfl rfl (Rd.new w3 _ _ _) hl0 (by simp; omega) ?_; intro v4 w4 hown4 hg4 hat4)
          go_roundw
          case rel =>
            refine ⟨RA, c' - (p.length + 2), u, s ++ p ++ [0], by rw [HLU.out], ?_, hcc, by omega, hown4, ?_, ?_, ?_⟩
            · exact ((HRR.out.alloc (by have := HB0.out; omega) _).grown hg4 (by simp; omega) (fun k hk => by have := (World.ownsRow.lt hown3 k hk).1; omega))
            · exact hB3.trans (((Below.refl _ _).alloc hs3 _).grown hg4 (by simp; omega) (fun k hk => (World.ownsRow.lt hown3 k hk).1))
            · have := HPL.out; simp at this ⊢; omega
            · rw [HN.out, rdZ, if_pos HD.out]
              cases rdT u <;> simp
          case measure => have := HPL.out; simp [lenOf] at this ⊢; omega
        · have d1' : ((d.toNat : Int) == 255) = false := by simpa using d1
          by_cases d2 : ((d.toNat : Int) == 1) = true
          · have hd : d = 1 := UInt8.toNat_inj.1 (by have := beq_iff_eq.1 d2; show d.toNat = 1; omega)
            have HD := Lib.hid hd
            clear hd d1
            obtain ⟨A2, c2, rfl, -, -, hrs, -⟩ := hown3.shape
            have qs := strAt0 (n := s.length + p.length) (c := c2) hrs (by simp)
            have hb0s : b0 < w3.heap.size := by omega
            clear hown3 hrs
            go_wp2_with (go_at_call 86; (with_reducible refine (str_any _ _).mono ?_); rintro e w4 ⟨rfl, hb4⟩; have g0 := (hb4.cell (p := ⟨b0, 0, none⟩) hb0s).trans e0; have g1 := (hb4.cell (p := ⟨b0, 1, none⟩) hb0s).trans e1; have g2 := (hb4.cell (p := ⟨b0, 2, none⟩) hb0s).trans e2; have k0 := (hb4.frozen (p := ⟨b0, 0, none⟩) hb0s).trans f0; have k1 := (hb4.frozen (p := ⟨b0, 1, none⟩) hb0s).trans f1; have k2 := (hb4.frozen (p := ⟨b0, 2, none⟩) hb0s).trans f2)
            have hblk4 : w4.heap[b0]? = some (.cells #[.bool false, .string ⟨#[]⟩, .int .i64 0] 150 (0, 0)) := (hb4.block b0 hb0s).trans HBK3.out
            have hrd : rdT l = some (s ++ p, u) := by
              rw [HN.out, rdZ, if_neg (by rw [HD.out]; decide), if_pos HD.out]; rfl
            refine bodyPost_ret (res41 (set3 hblk4 _ _ _) _ rfl) rfl ⟨_, rfl, ?_, ?_⟩
            · rw [hrd]
              refine ⟨RA, c' - (p.length + 2), ?_, ?_, hcc, by omega⟩
              · rw [HLU.out]; rfl
              · exact (((HRR.out.below hb4 (by have := HB0.out; omega)).setCell (by simp; omega) _).setCell (by simp; omega) _).setCell (by simp; omega) _
            · exact (((hBW.trans ((hB3.trans (hb4.mono hs3)).mono (by omega))).setCell (by have := HB0.out; simp; omega) _).setCell (by have := HB0.out; simp; omega) _).setCell (by have := HB0.out; simp; omega) _
          · have d2' : ((d.toNat : Int) == 1) = false := by simpa using d2
            clear d1 d2
            go_wp2
            refine bodyPost_ret (res41 (set3 HBK3.out _ _ _) _ rfl) rfl ⟨_, rfl, ?_, ?_⟩
            · have n1 : ¬ d = 255 := by rintro rfl; simp at d1'
              have n2 : ¬ d = 1 := by rintro rfl; simp at d2'
              rw [HN.out, rdZ, if_neg n1, if_neg n2]; rfl
            · exact (((hBW.trans (hB3.mono (by omega))).setCell (by have := HB0.out; simp; omega) _).setCell (by have := HB0.out; simp; omega) _).setCell (by have := HB0.out; simp; omega) _
end Go.Proofs.YtgjjdmkoamjdpaaGreatDoor
