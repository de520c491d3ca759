/- ImagePlays: what is compared behind each call. -/
import Derived.Test.YtdjcpjfomgfjlaaImgPC
import Derived.Deep.CutBlock
import Derived.Deep.CutRange
import Derived.Deep.LoopGhost
namespace Go.Proofs.Ytdjcpjfomgfjlaa
open Go.RowKit Go.Maps

def isBlk (k : Nat) : Code → Bool
  | .block n _ => n == k
  | _ => false
def lastBlk (k : Nat) : Code → Bool
  | .block n _ => n == k
  | .seq _ b => lastBlk k b
  | _ => false
def tailBlk (k : Nat) : Code → Option Code
  | .seq a b => if lastBlk k a then some b else match tailBlk k a with
    | some c => some c
    | none => tailBlk k b
  | .block _ c => tailBlk k c
  | .loop c => tailBlk k c
  | .scope c => tailBlk k c
  | .cond _ a b => match tailBlk k a with
    | some c => some c
    | none => tailBlk k b
  | _ => none
noncomputable def ipTail : Code := ((Try.f5.body.bind (tailBlk 2)).getD .skip)
theorem wp_noway2 {P : Program} {c : Code} {Q : Exit → Act → World → Prop} {a : Act} {w : World} (h : Code.wp P c (Exit.then (fun a w => Q .normal a w) (fun _ _ _ => False)) a w) : Code.wp P c Q a w := by
  refine Code.wp_mono ?_ h
  intro e a' w' hq
  cases e with
  | normal => exact hq
  | exit id => exact hq.elim
  | goto l => exact hq.elim
  | ret => exact hq.elim
  | panic ch => exact hq.elim
  | outgrown => exact hq.elim
def ldS : Option (Nat × List UInt8) → Nat
  | none => 0
  | some (s, _) => s
def ldL : Option (Nat × List UInt8) → List UInt8
  | none => []
  | some (_, d) => d
def ldB : Option (Nat × List UInt8) → Bool
  | none => false
  | some _ => true
theorem loadV_eq (X : Option (Nat × List UInt8)) : loadV X = .tuple #[.int .i64 (ldS X : Int), .string ⟨(ldL X).toArray⟩, .bool (ldB X)] := by
  rcases X with _ | ⟨s, d⟩ <;> rfl
/-- What is left to be turned of some bytes. -/
def Left (wr : World) (A : Option Addr) (n k : Nat) : Prop := ∀ j, k ≤ j → j < n → ∃ (b o : Nat) (x : UInt8) (cs : Array Value), A = some ⟨b, o, none⟩ ∧ wr.cell? ⟨b, o + j, none⟩ = some (.int .u8 (x.toNat : Int)) ∧ wr.heap[b]? = some (.cells cs 5 (0, 0))
/-- What Load answers, in one form. -/
def Loaded (w w' : World) (X : Option (Nat × List UInt8)) (e : Ending) : Prop := ∃ A c, e = .returned (.tuple #[.int .i64 (ldS X : Int), .slice A (ldL X).length c, .bool (ldB X)]) ∧ Rd w' w'.heap.size A (u8s (ldL X)) ∧ Left w' A (ldL X).length 0 ∧ (∀ a, A = some a → w.heap.size ≤ a.block ∧ a.block < w'.heap.size) ∧ (ldL X).length ≤ maxLen ∧ Below w.heap.size w w'
theorem loaded_of {w w' : World} {X : Option (Nat × List UInt8)} {e : Ending} (h : LoadPost w w' X e) : Loaded w w' X e := by
  rcases X with _ | ⟨s, d⟩
  · obtain ⟨rfl, hb⟩ := h
    exact ⟨none, 0, rfl, Rd.emp _ _ _, (fun j _ hj => absurd hj (Nat.not_lt_zero _)), (fun a ha => by cases ha), Nat.zero_le _, hb⟩
  · obtain ⟨A, c, rfl, A', c', e', h1, h2, h3, h4, h5⟩ := h
    injection e' with e'
    injection e' with e1 e2 e3
    subst e1 e3
    refine ⟨A, c, rfl, h2, fun j _ hj => ?_, fun a ha => ⟨(h1 a ha).1, ?_⟩, Nat.le_trans h3 h4, h5⟩
    · have hj' : j < d.length := hj
      obtain ⟨b, o, rfl, hb, hc⟩ := h2.get (k := j) (by rw [u8s_length]; exact hj')
      obtain ⟨_, cs, hcs⟩ := h1 _ rfl
      exact ⟨b, o, d[j], cs, rfl, by rw [hc, u8s_get _ j hj'], hcs⟩
    · obtain ⟨_, cs, hcs⟩ := h1 _ ha
      exact heap_lt hcs
theorem Left.fr {w w' : World} {A : Option Addr} {n k : Nat} (h : Left w A n k) (hb : Below w.heap.size w w') : Left w' A n k := by
  intro j h1 h2
  obtain ⟨b, o, x, cs, rfl, hc, hg⟩ := h j h1 h2
  exact ⟨b, o, x, cs, rfl, (hb.cell (p := ⟨b, o + j, none⟩) (heap_lt hg)).trans hc, (hb.block b (heap_lt hg)).trans hg⟩
theorem Left.step {w : World} {b o n k : Nat} (h : Left w (some ⟨b, o, none⟩) n k) (v : Value) : Left (w.setCell ⟨b, o + k, none⟩ v) (some ⟨b, o, none⟩) n (k + 1) := by
  intro j h1 h2
  obtain ⟨b', o', x, cs, e, hc, hg⟩ := h j (by omega) h2
  cases e
  exact ⟨b, o, x, _, rfl, (World.cell?_setCell_other w _ _ v (by intro e; simp at e; try omega)).trans hc, heap_setCell_same w b (o + k) cs _ v hg⟩
set_option maxRecDepth 1000000 in
set_option maxHeartbeats 4000000 in
theorem ip_rest {W0 wc : World} {ba bx p bs bw q m T first count : Nat} {M : DM} {code : Int} {K : Act → World → Prop} (h : St W0 wc bx p bs bw q m T first count M M) (harea : W0.heap[ba]? = some (.cells #[.int .i64 (m : Int), .int .i64 (first : Int), .int .i64 (count : Int)] 23 (0, 0))) (hfit : first + 2 * count ≤ m) (htwo : 2 ≤ count) (hm40 : m ≤ 40)
    (u0 u1 u3 u4 u8 u10 u11 u13 u14 u15 u16 u17 u18 u19 u20 u21 u22 u23 u24 u25 u26 u27 u28 u29 u30 u31 u32 u33 u34 u35 u36 u37 u38 u39 u40 u41 u42 u43 u44 u45 u46 u47 u48 u49 u50 u51 u52 u53 u54 u55 u56 u57 u58 u59 u60 u61 u62 u63 u64 u65 u66 u67 u68 u69 u70 u71 u72 u73 u74 u75 u76 u77 u78 u79 u80 u81 u82 u83 u84 u85 u86 u87 u88 u89 u90 u91 u92 u93 u94 u95 u96 u97 u98 u99 u100 u101 u102 u103 u104 u105 u106 u107 u108 u109 u110 u111 u112 u113 u114 u115 u116 u117 u118 u119 u120 u121 u122 u123 u124 u125 u126 u127 u128 u129 u130 u131 u132 u133 u134 u135 u136 u137 u138 u139 u140 u141 u142 u143 u144 u145 u146 u147 u148 u149 u150 u151 u152 u153 u154 u155 u156 u157 u158 u159 u160 u161 u162 u163 u164 u165 u166 u167 u168 u169 u170 u171 u172 u173 u174 u175 u176 u177 u178 u179 u180 u181 u182 u183 u184 u185 u186 u187 u188 u189 u190 u191 u192 u193 u194 u195 u196 u197 u198 u199 u200 u201 u202 u203 u204 u205 u206 u207 u208 u209 u210 u211 u212 u213 u214 u215 u216 u217 u218 u219 u220 u221 u222 u223 u224 u225 u226 u227 u228 u229 u230 u231 u232 u233 u234 u235 u236 u237 u238 u239 u240 u241 u242 u243 u244 u245 u246 u247 u248 u249 u250 u251 u252 u253 u254 u255 u256 u257 : Value)
    (hK : ∀ (v15 v16 v17 v18 v19 v20 v21 v205 v206 v207 v208 v209 v210 v211 v212 v213 v214 v215 v216 v217 v218 v219 v220 v221 v222 v223 v224 v225 v226 v227 v228 v229 v230 v231 v232 v233 v234 v235 v236 v237 v238 v239 v240 v241 v242 v243 v244 v245 v246 v247 v248 v249 v250 v251 v252 v253 v254 v255 v256 v257 : Value) (w1 : World), St W0 w1 bx p bs bw q m T first count M M → K ⟨#[u0, u1, .pointer (some ⟨ba, 0, none⟩), u3, u4, .pointer (some ⟨p, 0, none⟩), .int .i64 code, .pointer (some ⟨bx, 0, none⟩), u8, .pointer (some ⟨q, 0, none⟩), u10, u11, .int .i64 code, u13, u14, v15, v16, v17, v18, v19, v20, v21, u22, u23, u24, u25, u26, u27, u28, u29, u30, u31, u32, u33, u34, u35, u36, u37, u38, u39, u40, u41, u42, u43, u44, u45, u46, u47, u48, u49, u50, u51, u52, u53, u54, u55, u56, u57, u58, u59, u60, u61, u62, u63, u64, u65, u66, u67, u68, u69, u70, u71, u72, u73, u74, u75, u76, u77, u78, u79, u80, u81, u82, u83, u84, u85, u86, u87, u88, u89, u90, u91, u92, u93, u94, u95, u96, u97, u98, u99, u100, u101, u102, u103, u104, u105, u106, u107, u108, u109, u110, u111, u112, u113, u114, u115, u116, u117, u118, u119, u120, u121, u122, u123, u124, u125, u126, u127, u128, u129, u130, u131, u132, u133, u134, u135, u136, u137, u138, u139, u140, u141, u142, u143, u144, u145, u146, u147, u148, u149, u150, u151, u152, u153, u154, u155, u156, u157, u158, u159, u160, u161, u162, u163, u164, u165, u166, u167, u168, u169, u170, u171, u172, u173, u174, u175, u176, u177, u178, u179, u180, u181, u182, u183, u184, u185, u186, u187, u188, u189, u190, u191, u192, u193, u194, u195, u196, u197, u198, u199, u200, u201, u202, u203, u204, v205, v206, v207, v208, v209, v210, v211, v212, v213, v214, v215, v216, v217, v218, v219, v220, v221, v222, v223, v224, v225, v226, v227, v228, v229, v230, v231, v232, v233, v234, v235, v236, v237, v238, v239, v240, v241, v242, v243, v244, v245, v246, v247, v248, v249, v250, v251, v252, v253, v254, v255, v256, v257], []⟩ w1) :
    Code.wp Try.prog ipTail (Exit.then K (fun _ _ _ => False)) ⟨#[u0, u1, .pointer (some ⟨ba, 0, none⟩), u3, u4, .pointer (some ⟨p, 0, none⟩), .int .i64 code, .pointer (some ⟨bx, 0, none⟩), u8, .pointer (some ⟨q, 0, none⟩), u10, u11, .int .i64 code, u13, u14, u15, u16, u17, u18, u19, u20, u21, u22, u23, u24, u25, u26, u27, u28, u29, u30, u31, u32, u33, u34, u35, u36, u37, u38, u39, u40, u41, u42, u43, u44, u45, u46, u47, u48, u49, u50, u51, u52, u53, u54, u55, u56, u57, u58, u59, u60, u61, u62, u63, u64, u65, u66, u67, u68, u69, u70, u71, u72, u73, u74, u75, u76, u77, u78, u79, u80, u81, u82, u83, u84, u85, u86, u87, u88, u89, u90, u91, u92, u93, u94, u95, u96, u97, u98, u99, u100, u101, u102, u103, u104, u105, u106, u107, u108, u109, u110, u111, u112, u113, u114, u115, u116, u117, u118, u119, u120, u121, u122, u123, u124, u125, u126, u127, u128, u129, u130, u131, u132, u133, u134, u135, u136, u137, u138, u139, u140, u141, u142, u143, u144, u145, u146, u147, u148, u149, u150, u151, u152, u153, u154, u155, u156, u157, u158, u159, u160, u161, u162, u163, u164, u165, u166, u167, u168, u169, u170, u171, u172, u173, u174, u175, u176, u177, u178, u179, u180, u181, u182, u183, u184, u185, u186, u187, u188, u189, u190, u191, u192, u193, u194, u195, u196, u197, u198, u199, u200, u201, u202, u203, u204, u205, u206, u207, u208, u209, u210, u211, u212, u213, u214, u215, u216, u217, u218, u219, u220, u221, u222, u223, u224, u225, u226, u227, u228, u229, u230, u231, u232, u233, u234, u235, u236, u237, u238, u239, u240, u241, u242, u243, u244, u245, u246, u247, u248, u249, u250, u251, u252, u253, u254, u255, u256, u257], []⟩ wc := by
  conv => arg 2; whnf
  have HK := Lib.hid hK
  have HS := Lib.hid h
  obtain ⟨X, hXE⟩ : ∃ X, X = imgOf M.get first count := ⟨_, rfl⟩
  have hld := (loadI_any h.img).mono fun e w' h => loaded_of h
  rw [← hXE] at hld
  obtain ⟨xs, hxs⟩ : ∃ xs, xs = ldS X := ⟨_, rfl⟩
  obtain ⟨xd, hxd⟩ : ∃ xd, xd = ldL X := ⟨_, rfl⟩
  obtain ⟨xb, hxb⟩ : ∃ xb, xb = ldB X := ⟨_, rfl⟩
  unfold Loaded at hld
  rw [← hxs, ← hxd, ← hxb] at hld
  have HLD := Lib.hid hld
  have HXE := Lib.hid (And.intro hXE (And.intro hxs (And.intro hxd hxb)))
  have HA := Lib.hid (And.intro harea (And.intro hfit (And.intro htwo hm40)))
  obtain ⟨n, hn⟩ : ∃ n, n = xd.length := ⟨_, rfl⟩
  rw [← hn] at HLD
  have HN := Lib.hid hn
  clear h hK hXE hld hxs hxd hxb harea hfit htwo hm40 hn
  go_upto_region 44 with (first
    | (go_at_call 33; (with_reducible refine HLD.out.mono ?_); rintro e w7 ⟨A7, c7, rfl, hr7, hl7, ha7, hm7, hb7⟩)
    | go_in)
  have hX7 := HS.out.box.kept hb7
  obtain ⟨A1, A2, A3, n1, n2, n3, e1, e2, e3, s7, l7, hg7, hv7⟩ := hX7.box
  have q0 := cell_of_row w7 bx 0 _ _ _ hg7; have q1 := cell_of_row w7 bx 1 _ _ _ hg7; have q2 := cell_of_row w7 bx 2 _ _ _ hg7; have q3 := cell_of_row w7 bx 3 _ _ _ hg7; have q4 := cell_of_row w7 bx 4 _ _ _ hg7
  have ga7 := (hX7.below.block ba (heap_lt HA.out.1)).trans HA.out.1
  have d1 := cell_of_row w7 ba 1 _ _ _ ga7; have d2 := cell_of_row w7 ba 2 _ _ _ ga7
  have hrl := hX7.rload hv7 HA.out.2.1 (by have := HA.out.2.2.2; omega) HA.out.2.2.1
  rw [← HXE.out.1, loadV_eq, ← HXE.out.2.1, ← HXE.out.2.2.1, ← HXE.out.2.2.2] at hrl
  have HRL := Lib.hid hrl
  have H7 := Lib.hid (And.intro hX7 (And.intro hg7 (And.intro hv7 (And.intro hb7 (And.intro hr7 (And.intro hl7 ha7))))))
  clear hrl hX7 hg7 hv7 hb7 ga7 hr7 hl7 ha7 HLD
  go_upto_region 45 with (first
    | (go_at_call 34; (with_reducible refine HRL.out.mono ?_); rintro e w8 ⟨rfl, hb8⟩)
    | go_in)
  have hX8 := H7.out.1.kept hb8
  have hg8 := (hb8.block bx (heap_lt H7.out.2.1)).trans H7.out.2.1
  have u0 := cell_of_row w8 bx 0 _ _ _ hg8; have u1 := cell_of_row w8 bx 1 _ _ _ hg8; have u2 := cell_of_row w8 bx 2 _ _ _ hg8; have u3 := cell_of_row w8 bx 3 _ _ _ hg8; have u4 := cell_of_row w8 bx 4 _ _ _ hg8
  have HTL := Lib.hid (tells_any w8 _ _ _ _ _ _ (hX8.both (H7.out.2.2.1.below hb8)))
  have hcv := strAt (n := n) (c := c7) (H7.out.2.2.2.2.1.below hb8 (Nat.le_refl _)) HN.out
  have hl8 := H7.out.2.2.2.2.2.1.fr hb8
  have hb78 := H7.out.2.2.2.1.trans (lower' hb8 H7.out.2.2.2.1.size)
  have HL8 := Lib.hid (And.intro hl8 hb78)
  have hnI : (n : Int) ≤ 9223372036854775807 := by simp only [maxLen] at hm7; omega
  clear hm7
  clear hX8 hg8 hb8 hl8 hb78 HRL q0 q1 q2 q3 q4 d1 d2
  go_upto_region 47 with (first
    | (go_at_call 23; (with_reducible refine HTL.out.mono ?_); rintro e w9 ⟨rfl, hb9⟩)
    | go_in)
  have H9 := Lib.hid (And.intro (HL8.out.1.fr hb9) (HL8.out.2.trans (lower' hb9 HL8.out.2.size)))
  clear hb9 u0 u1 u2 u3 u4 hcv
  go_wp2_with (fail)
  go_loopw [21, 248] (fun _ i wr => ∃ k : Nat, k ≤ n ∧ i = .int .i64 (k : Int) ∧ Fr w9 wr (blkL A7) ∧ Left wr A7 n k)
    (fun _ i _ => n - (intOf i).toNat)
  case atStart => exact ⟨0, by omega, rfl, Fr.refl _ _, H9.out.1⟩
  case round =>
    obtain ⟨k, hk', rfl, hfr, hleft⟩ := hrel
    by_cases hkl : k < n
    · have hkI : (k : Int) < (n : Int) := by omega
      obtain ⟨gb, go, x, cs, rfl, ca, hg⟩ := hleft k (Nat.le_refl _) hkl
      have fz := frozen_of_row wr gb (go + k) _ _ hg
      obtain ⟨x1, hx1⟩ : ∃ x1 : UInt8, x1 = x + 1 := ⟨_, rfl⟩
      have hadd : ((x.toNat : Int) + 1) % 256 = (x1.toNat : Int) := by
        rw [hx1, UInt8.toNat_add]
        show _ = (((x.toNat + 1) % 256 : Nat) : Int)
        omega
      have hst := hleft.step (.int .u8 (x1.toNat : Int))
      have HX := Lib.hid (And.intro hfr (And.intro hst (And.intro hkl hadd)))
      clear hfr hleft hkl hg hx1 hadd hst
      clear HK HS HXE HA HN H7 HTL HL8 H9
      go_wp2_with (fail)
      rw [HX.out.2.2.2]
      refine ⟨⟨k + 1, HX.out.2.2.1, by simp, HX.out.1.setCell (by simp [blkL]) _, HX.out.2.1⟩, by simp [intOf]; have := HX.out.2.2.1; omega⟩
    · obtain rfl : k = n := by omega
      have hgl := blkL_ge (n := wc.heap.size) (fun a ha => (H7.out.2.2.2.2.2.2 a ha).1)
      have hfin := HS.out.kept (H9.out.2.trans (hfr.below H9.out.2.size hgl))
      have HFIN := Lib.hid hfin
      clear hfr hleft hfin hgl
      go_wp2_with (fail)
      exact HK.out _ _ _ _ _ _ _ _ _ _ _ _ _ _ _ _ _ _ _ _ _ _ _ _ _ _ _ _ _ _ _ _ _ _ _ _ _ _ _ _ _ _ _ _ _ _ _ _ _ _ _ _ _ _ _ _ _ _ _ _ _ HFIN.out
end Go.Proofs.Ytdjcpjfomgfjlaa
