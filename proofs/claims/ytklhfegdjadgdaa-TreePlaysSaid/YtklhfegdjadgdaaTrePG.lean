/- play: what each kind of call leaves (Sw), what follows. -/
import Derived.Test.YtklhfegdjadgdaaTrePI
import Derived.Deep.CutRange
import Derived.Deep.CutBlock
namespace Go.Proofs.Ytklhfegdjadgdaa
open Go.RowKit Go.Maps

theorem Bs.ok.stp {w w' : World} {r : Bs} (h : r.ok w) (hs : Stp w w') : r.ok w' := by
  obtain ⟨S, hf, ht⟩ := hs
  exact h.fr hf (Stp.noBytes ht)
theorem RowS.stp {w w' : World} {base : Nat} {A : Option Addr} {c : Nat} {L : List Pr} (h : RowS w base A c L) (hs : Stp w w') : RowS w' base A c L := by
  obtain ⟨S, hf, ht⟩ := hs
  refine rowFrS h hf fun s hs hm => ?_
  obtain ⟨cs, ty, fr, hg, hty⟩ := ht s hm
  rcases h.2 with ⟨hv, _⟩ | ⟨g, cap, cur, hv, _, hgg, _⟩
  · rw [hv] at hs; simp [Value.ownBlock] at hs
  · rw [hv] at hs
    simp [Value.ownBlock] at hs
    subst hs
    rw [hgg] at hg
    injection hg with hg
    injection hg with _ hg
    rcases hty with hty | hty <;> (rw [hty] at hg; cases hg)
/-- What stays while the call of a kind runs: the op's box, the two copies. -/
structure Pw (w0 : World) (lo s1 b5 : Nat) (cs : Array Value) (kk vv : Bs) (w : World) : Prop where
  box : w.heap[b5]? = some (.cells cs 29 (0, 0))
  k : kk.ok w
  v : vv.ok w
  sz : s1 ≤ w.heap.size
  low : Below lo w0 w
section
variable {w0 w w' : World} {lo s1 b5 : Nat} {cs : Array Value} {kk vv : Bs}
theorem Pw.below (h : Pw w0 lo s1 b5 cs kk vv w) (hb : Below w.heap.size w w') (hlo : lo ≤ s1) : Pw w0 lo s1 b5 cs kk vv w' :=
  ⟨(hb.block b5 (heap_lt h.box)).trans h.box, h.k.below hb, h.v.below hb, Nat.le_trans h.sz hb.size, h.low.trans (hb.mono (Nat.le_trans hlo h.sz))⟩
theorem Pw.stp (h : Pw w0 lo s1 b5 cs kk vv w) (hs : Stp w w') (hb : Below lo w w') : Pw w0 lo s1 b5 cs kk vv w' :=
  ⟨hs.block h.box (by decide) (by decide), h.k.stp hs, h.v.stp hs, Nat.le_trans h.sz hb.size, h.low.trans hb⟩
end
/-- What the switch leaves. -/
def Sw (w0 : World) (lo s1 b5 : Nat) (cs : Array Value) (kk vv : Bs) (Z : Nat → Prop) (n : Nat) (t m ok : Value) (w' : World) : Prop :=
  ∃ (q : Nat) (L' : List Pr) (A' : Option Addr) (c' : Nat), t = .pointer (some ⟨q, 0, none⟩) ∧ m = .slice A' L'.length c' ∧ ok = .bool true ∧ TreeZ w' lo q Z L' ∧ RowS w' lo A' c' L' ∧ L'.length ≤ n + 1 ∧ Pw w0 lo s1 b5 cs kk vv w'
/-- What the loops behind the switch keep. -/
structure Lp (w0 : World) (lo q : Nat) (Z : Nat → Prop) (L : List Pr) (A : Option Addr) (c base : Nat) (kk vv : Bs) (w : World) : Prop where
  t : TreeZ w lo q Z L
  m : RowS w lo A c L
  k : Byt w base kk
  v : Byt w base vv
  low : Below lo w0 w
theorem Lp.set {w0 w : World} {lo q b i c base : Nat} {Z : Nat → Prop} {L : List Pr} {A : Option Addr} {kk vv : Bs} {m : Int} {cs : Array Value} (h : Lp w0 lo q Z L A c base kk vv w) (hg : w.heap[b]? = some (.cells cs 5 (0, 0))) (hb : ¬ Z b) (hlo : lo ≤ b) :
    Lp w0 lo q Z L A c base kk vv (w.setCell ⟨b, i, none⟩ (.int .u8 m)) := by
  refine ⟨h.t.byte hg hb, rowFrS h.m (S := [b]) ((Fr.refl _ _).setCell (by simp) _) (fun s hs hm => ?_), h.k.set hg, h.v.set hg, h.low.setCell hlo _⟩
  simp at hm
  subst hm
  rcases h.m.2 with ⟨hv, _⟩ | ⟨g, cap, cur, hv, _, hgg, _⟩
  · rw [hv] at hs; simp [Value.ownBlock] at hs
  · rw [hv] at hs
    simp [Value.ownBlock] at hs
    subst hs
    rw [hgg] at hg
    cases hg
theorem resPlay (w : World) (tmps : Array Value) : (results Try.f6 tmps).run Try.prog w = .ok (.tuple #[tmps.getD 6 undef, tmps.getD 7 undef, tmps.getD 8 undef]) w := by
  simp [results, Try.results6, go_sem]

set_option maxRecDepth 100000 in
set_option maxHeartbeats 8000000 in
theorem play_any (p : Nat) (A : Option Addr) (L : List Pr) (c : Nat) (kind num : Int) (kA vA : Option Addr) (kl vl : List UInt8) (kc vc : Nat) (w : World) (lo B : Nat)
    (hT : TreeW w lo p L) (hm : RowS w lo A c L) (hn : L.length ≤ 500) (hk : Rd w B kA (u8s kl)) (hv : Rd w B vA (u8s vl)) (hB : B ≤ lo) (hlo : lo ≤ w.heap.size) (hlen : kl.length + vl.length ≤ 500) (hnum : num ≤ 9223372036854775807) :
    Calls Try.prog 6 #[.pointer (some ⟨p, 0, none⟩), .slice A L.length c, .agg #[.int .i64 kind, .int .i64 num, .slice kA kl.length kc, .slice vA vl.length vc]] w (PlayPost lo L w) := by
  have hb0 : Below w.heap.size w (w.alloc (.cells #[.int .i64 kind, .int .i64 num, .slice kA kl.length kc, .slice vA vl.length vc] 29)) := (Below.refl _ _).alloc (Nat.le_refl _) _
  have hbox := heap_alloc_new w (.cells #[.int .i64 kind, .int .i64 num, .slice kA kl.length kc, .slice vA vl.length vc] 29)
  have hsz : (w.alloc (.cells #[.int .i64 kind, .int .i64 num, .slice kA kl.length kc, .slice vA vl.length vc] 29)).heap.size = w.heap.size + 1 := by simp
  have k1 : kl.length ≤ 500 := by omega
  have v1 : vl.length ≤ 500 := by omega
  have kI : (kl.length : Int) ≤ 500 := by omega
  have vI : (vl.length : Int) ≤ 500 := by omega
  have HNUM := Lib.hid hnum
  clear hnum
  have HH := Lib.hid (And.intro hT (And.intro hm (And.intro hn (And.intro hk (And.intro hv (And.intro hB (And.intro hlo (And.intro k1 v1))))))))
  clear hT hm hn hk hv hB hlo hlen k1 v1
  go_enter Try.func6, Try.ntmps6
  go_upto_region 1 with (fail)
  generalize w.alloc (.cells #[.int .i64 kind, .int .i64 num, .slice kA kl.length kc, .slice vA vl.length vc] 29) = W0 at hb0 hbox hsz ⊢
  obtain ⟨b5, hb5⟩ : ∃ b, b = w.heap.size := ⟨_, rfl⟩
  rw [← hb5] at hbox ⊢
  have H0 := Lib.hid (And.intro hb0 (And.intro hbox (And.intro hsz hb5)))
  clear hb0 hbox hsz hb5
  go_cut [9, 10] from 28 to 35 (fun k v w' => Cop W0 w' k kl ∧ Cop W0 w' v vl ∧ Below W0.heap.size W0 w')
  case rest =>
    obtain ⟨⟨kk, rfl, hkk, okk, fkk⟩, ⟨vv, rfl, hvv, ovv, fvv⟩, hb1⟩ := hcut
    have hg5 := (hb1.block b5 (heap_lt H0.out.2.1)).trans H0.out.2.1
    have g0 : wc.cell? ⟨b5, 0, none⟩ = some (.int .i64 kind) := cell_of_row wc b5 0 _ _ _ hg5
    have g1 : wc.cell? ⟨b5, 1, none⟩ = some (.int .i64 num) := cell_of_row wc b5 1 _ _ _ hg5
    have g2 : wc.cell? ⟨b5, 2, none⟩ = some (.slice kA kl.length kc) := cell_of_row wc b5 2 _ _ _ hg5
    have g3 : wc.cell? ⟨b5, 3, none⟩ = some (.slice vA vl.length vc) := cell_of_row wc b5 3 _ _ _ hg5
    obtain ⟨kA', kl', kc'⟩ := kk
    obtain ⟨vA', vl', vc'⟩ := vv
    simp only at hkk hvv
    subst hkk hvv
    have hB1 : Below w.heap.size w wc := H0.out.1.trans (hb1.mono H0.out.1.size)
    have hTz : TreeZ wc lo p (fun z => z < w.heap.size ∨ wc.heap.size ≤ z) L := (TreeZ.of HH.out.1 (fun z hz => .inl hz)).below hB1
    have hm1 := HH.out.2.1.below hB1
    have hpw : Pw w lo wc.heap.size b5 #[.int .i64 kind, .int .i64 num, .slice kA kl'.length kc, .slice vA vl'.length vc] ⟨kA', kl', kc'⟩ ⟨vA', vl', vc'⟩ wc := ⟨hg5, okk, ovv, Nat.le_refl _, lower hB1 HH.out.2.2.2.2.2.2.1⟩
    have hrk : Rd wc B kA (u8s kl') := HH.out.2.2.2.1.below hB1 (Nat.le_trans HH.out.2.2.2.2.2.1 HH.out.2.2.2.2.2.2.1)
    have hrv : Rd wc B vA (u8s vl') := HH.out.2.2.2.2.1.below hB1 (Nat.le_trans HH.out.2.2.2.2.2.1 HH.out.2.2.2.2.2.2.1)
    have hs1 : w.heap.size < wc.heap.size := by have := H0.out.2.2.1; have := hb1.size; omega
    have hbk : ∀ a, kA' = some a → w.heap.size < a.block ∧ a.block < wc.heap.size := fun a ha => ⟨by have := fkk a ha; have := H0.out.2.2.1; omega, by obtain ⟨cs, hg⟩ := okk.1.2 a ha; exact heap_lt hg⟩
    have hbv : ∀ a, vA' = some a → w.heap.size < a.block ∧ a.block < wc.heap.size := fun a ha => ⟨by have := fvv a ha; have := H0.out.2.2.1; omega, by obtain ⟨cs, hg⟩ := ovv.1.2 a ha; exact heap_lt hg⟩
    have HR := Lib.hid (And.intro HH.out.2.2.2.1 HH.out.2.2.2.2.1)
    have H1 := Lib.hid (And.intro hTz (And.intro hm1 (And.intro hpw (And.intro hrk (And.intro hrv (And.intro hs1 (And.intro hbk hbv)))))))
    have hlw := HH.out.2.2.2.2.2.2.1
    have hBl := HH.out.2.2.2.2.2.1
    have HS := Lib.hid (And.intro hlw (And.intro hBl (And.intro HH.out.2.2.1 (And.intro HH.out.2.2.2.2.2.2.2.1 HH.out.2.2.2.2.2.2.2.2))))
    clear hTz hm1 hpw hrk hrv hs1 hbk hbv hB1 hlw hBl okk ovv fkk fvv hb1 hg5 H0 HH
    obtain ⟨s1, hs1⟩ : ∃ s1, s1 = wc.heap.size := ⟨_, rfl⟩
    rw [← hs1] at H1
    have HE1 := Lib.hid hs1
    clear hs1
    go_upto_block 0 with (fail)
    go_cut [0, 1, 11] from 12 to 230 (fun t m ok w' => Sw w lo s1 b5 #[.int .i64 kind, .int .i64 num, .slice kA kl'.length kc, .slice vA vl'.length vc] ⟨kA', kl', kc'⟩ ⟨vA', vl', vc'⟩ (fun z => z < w.heap.size ∨ s1 ≤ z) L.length t m ok w')
    case first =>
      by_cases hk1 : kind = 1
      · subst hk1
        have hri := H1.out.1.tree.ris
        have hrp := refPut_any L hri (by have := HS.out.2.2.1; omega) A c kl' vl' wc wc.heap.size H1.out.2.1.rd (Nat.le_refl _)
        have hin := ins_new kl' vl' hri
        have hil := (insL_len (k := kl') (v := vl') L).2
        have hzp := fun (W : World) (hT : TreeZ W lo p (fun z => z < w.heap.size ∨ s1 ≤ z) L) (h1 : s1 ≤ W.heap.size) (h2 : Bs.ok W ⟨kA', kl', kc'⟩) (h3 : Bs.ok W ⟨vA', vl', vc'⟩) (h4 : lo ≤ W.heap.size) => zput_any hT (fun z hz => .inr (Nat.le_trans h1 hz)) ⟨kA', kl', kc'⟩ ⟨vA', vl', vc'⟩ W.heap.size h2.1.1 h3.1.1 (Nat.le_refl _) h2.2.2.2 h3.2.2.2 h4 (by have := HS.out.2.2.1; omega)
        simp only at hzp
        rw [hin] at hzp
        obtain ⟨M, hM⟩ : ∃ M, M = insL kl' vl' L := ⟨_, rfl⟩
        obtain ⟨fr, hfr⟩ : ∃ b, b = (getL kl' L).isNone := ⟨_, rfl⟩
        rw [← hM, ← hfr] at hrp hzp
        rw [← hM] at hil
        have HRP := Lib.hid hrp
        have HZP := Lib.hid hzp
        have hbb : (fr == fr) = true := by simp
        have c3 : (convert 27 9 (.slice kA kl'.length kc)).run Try.prog wc = .ok (.string ⟨kl'.toArray⟩) wc := strAt H1.out.2.2.2.1 rfl
        have c4 : (convert 27 9 (.slice vA vl'.length vc)).run Try.prog wc = .ok (.string ⟨vl'.toArray⟩) wc := strAt H1.out.2.2.2.2.1 rfl
        clear hrp hzp hri hin hM hfr
        go_upto_region 7 with (go_at_call 13; (with_reducible refine HRP.out.mono ?_); rintro e w2 ⟨A2, c2, rfl, hm2, hb2⟩)
        have hp2 := H1.out.2.2.1.below hb2 (Nat.le_trans HS.out.1 (Nat.le_of_lt H1.out.2.2.2.2.2.1))
        have hlo2 : lo ≤ w2.heap.size := Nat.le_trans (Nat.le_trans HS.out.1 (Nat.le_of_lt H1.out.2.2.2.2.2.1)) hp2.sz
        have HZ2 := Lib.hid (HZP.out w2 (H1.out.1.below hb2) hp2.sz hp2.k hp2.v hlo2)
        have HM2 := Lib.hid (And.intro (own_mono hm2 (Nat.le_trans HS.out.1 (Nat.le_of_lt (by have := H1.out.2.2.2.2.2.1; have := HE1.out; omega)))) (And.intro hp2 hil))
        clear hm2 hb2 hp2 hlo2 hil HRP HZP c3 c4
        go_wp2_with (go_at_call 10; (with_reducible refine HZ2.out.mono ?_); rintro e w3 ⟨rfl, ht3, hb3, hs3⟩)
        go_meet
        case rel => exact ⟨p, M, A2, c2, rfl, rfl, by simp, ht3, RowS.stp HM2.out.1 hs3, HM2.out.2.2, HM2.out.2.1.stp hs3 hb3⟩
      by_cases hk2 : kind = 2
      · subst hk2
        have hrg := fun W (h : Rd W W.heap.size A (prS L)) => refGet_any L (by have := HS.out.2.2.1; omega) A c kl' W W.heap.size h (Nat.le_refl _)
        have hrd := refDel_any L (by have := HS.out.2.2.1; omega) A c kl' wc wc.heap.size H1.out.2.1.rd (Nat.le_refl _)
        have hdi := del_is kl' L
        have hil := delL_le kl' L
        have hzd := fun (W : World) (hT : TreeZ W lo p (fun z => z < w.heap.size ∨ s1 ≤ z) L) (h2 : Bs.ok W ⟨kA', kl', kc'⟩) (h4 : lo ≤ W.heap.size) => zdel_any hT ⟨kA', kl', kc'⟩ W.heap.size h2.1.1 h4 (by have := HS.out.2.2.1; omega)
        simp only at hzd
        rw [hdi] at hzd
        have hrg1 := hrg wc H1.out.2.1.rd
        obtain ⟨M, hM⟩ : ∃ M, M = delL kl' L := ⟨_, rfl⟩
        obtain ⟨fr, hfr⟩ : ∃ b, b = (getL kl' L).isSome := ⟨_, rfl⟩
        obtain ⟨gv, hgv⟩ : ∃ b, b = (getL kl' L).getD [] := ⟨_, rfl⟩
        rw [← hM, ← hfr] at hzd
        rw [← hM] at hrd hil
        rw [← hfr, ← hgv] at hrg1
        have HRG := Lib.hid hrg1
        have HRD := Lib.hid hrd
        have HZD := Lib.hid hzd
        have hbb : (fr == fr) = true := by simp
        have c3 : (convert 27 9 (.slice kA kl'.length kc)).run Try.prog wc = .ok (.string ⟨kl'.toArray⟩) wc := strAt H1.out.2.2.2.1 rfl
        have c4 : (convert 27 9 (.slice vA vl'.length vc)).run Try.prog wc = .ok (.string ⟨vl'.toArray⟩) wc := strAt H1.out.2.2.2.2.1 rfl
        clear hrg hrg1 hrd hzd hdi hM hfr hgv
        go_upto_region 11 with (first
          | (go_at_call 14; (with_reducible refine HRG.out.mono ?_); rintro e w' ⟨rfl, rfl⟩)
          | (go_at_call 15; (with_reducible refine HRD.out.mono ?_); rintro e w2 ⟨A2, c2, rfl, hm2, hb2⟩))
        have hp2 := H1.out.2.2.1.below hb2 (Nat.le_trans HS.out.1 (Nat.le_of_lt H1.out.2.2.2.2.2.1))
        have hlo2 : lo ≤ w2.heap.size := Nat.le_trans (Nat.le_trans HS.out.1 (Nat.le_of_lt H1.out.2.2.2.2.2.1)) hp2.sz
        have HZ2 := Lib.hid (HZD.out w2 (H1.out.1.below hb2) hp2.k hlo2)
        have HM2 := Lib.hid (And.intro (own_mono hm2 (Nat.le_trans HS.out.1 (Nat.le_of_lt (by have := H1.out.2.2.2.2.2.1; have := HE1.out; omega)))) (And.intro hp2 (show M.length ≤ L.length + 1 by omega)))
        clear hm2 hb2 hp2 hlo2 hil HRD HZD HRG c3 c4
        go_wp2_with (go_at_call 16; (with_reducible refine HZ2.out.mono ?_); rintro e w3 ⟨rfl, ht3, hb3, hs3⟩)
        go_meet
        case rel => exact ⟨p, M, A2, c2, rfl, rfl, by simp, ht3, RowS.stp HM2.out.1 hs3, HM2.out.2.2, HM2.out.2.1.stp hs3 hb3⟩
      by_cases hk3 : kind = 3
      · subst hk3
        have hg := tget_any H1.out.1.tree ⟨kA', kl', kc'⟩ wc.heap.size H1.out.2.2.1.k.1.1
        simp only at hg
        have hrg := fun W (h : Rd W W.heap.size A (prS L)) => refGet_any L (by have := HS.out.2.2.1; omega) A c kl' W W.heap.size h (Nat.le_refl _)
        have hlow : lo ≤ wc.heap.size := Nat.le_trans HS.out.1 (Nat.le_of_lt (by have := H1.out.2.2.2.2.2.1; have := HE1.out; omega))
        have HLW := Lib.hid hlow
        rcases hgl : getL kl' L with _ | x
        · rw [hgl] at hg hrg
          have hg2 : Calls Try.prog 17 #[.pointer (some ⟨p, 0, none⟩), .slice kA' kl'.length kc'] wc fun e w' => e = .returned (.tuple #[.slice none 0 0, .bool false]) ∧ wc = w' := hg.mono fun e w' h => by
            rcases h with ⟨_, h1, h2⟩ | ⟨v, h1, _⟩
            · exact ⟨h1, h2⟩
            · cases h1
          have HG := Lib.hid hg2
          have HRG := Lib.hid (hrg wc H1.out.2.1.rd)
          have c5 : (convert 27 9 (.slice none 0 0)).run Try.prog wc = .ok (.string ⟨#[]⟩) wc := strAt (l := []) (Rd.emp _ 0 _) rfl
          have c3 : (convert 27 9 (.slice kA kl'.length kc)).run Try.prog wc = .ok (.string ⟨kl'.toArray⟩) wc := strAt H1.out.2.2.2.1 rfl
          clear hg hg2 hrg hgl hlow
          go_wp2_with (first
            | (go_at_call 17; (with_reducible refine HG.out.mono ?_); rintro e w' ⟨rfl, rfl⟩)
            | (go_at_call 14; (with_reducible refine HRG.out.mono ?_); rintro e w' ⟨rfl, rfl⟩))
          go_loopw [104] (fun kv wr => kv = .int .i64 0 ∧ wr = wc) (fun _ _ => 0)
          case atStart => exact ⟨rfl, rfl⟩
          case round =>
            obtain ⟨rfl, rfl⟩ := hrel
            go_wp2_with (fail)
            go_meet
            case rel => exact ⟨p, L, A, c, rfl, rfl, by simp, H1.out.1, H1.out.2.1, by omega, H1.out.2.2.1⟩
        · rw [hgl] at hg hrg
          have hg2 : Calls Try.prog 17 #[.pointer (some ⟨p, 0, none⟩), .slice kA' kl'.length kc'] wc fun e w' => ∃ vA2 vc2, e = .returned (.tuple #[.slice vA2 x.length vc2, .bool true]) ∧ Bs.ok w' ⟨vA2, x, vc2⟩ ∧ (∀ a, vA2 = some a → wc.heap.size ≤ a.block) ∧ Below wc.heap.size wc w' := hg.mono fun e w' h => by
            rcases h with ⟨h1, _⟩ | ⟨⟨a1, a2, a3⟩, h1, h2, h3, h4, h5⟩
            · cases h1
            · injection h1 with h1
              subst h1
              exact ⟨a1, a3, h2, h3, h4, h5⟩
          have HG := Lib.hid hg2
          have HRG := Lib.hid hrg
          clear hg hg2 hrg hgl hlow
          go_upto_region 14 with (go_at_call 17; (with_reducible refine HG.out.mono ?_); rintro e w2 ⟨vA2, vc2, rfl, hv2, hvb, hb2⟩)
          have c5 : (convert 27 9 (.slice vA2 x.length vc2)).run Try.prog w2 = .ok (.string ⟨x.toArray⟩) w2 := strAt hv2.1.1 rfl
          have c3 : (convert 27 9 (.slice kA kl'.length kc)).run Try.prog w2 = .ok (.string ⟨kl'.toArray⟩) w2 := strAt (H1.out.2.2.2.1.below hb2 (Nat.le_trans (Nat.le_trans HS.out.2.1 HS.out.1) (Nat.le_of_lt (by have := H1.out.2.2.2.2.2.1; have := HE1.out; omega)))) rfl
          have o2 : w2.cell? ⟨b5, 2, none⟩ = some (.slice kA kl'.length kc) := (hb2.cell (p := ⟨b5, 2, none⟩) (heap_lt H1.out.2.2.1.box)).trans g2
          have HR2 := Lib.hid (HRG.out w2 (RowS.below H1.out.2.1 hb2).rd)
          have hbt := byt_of (base := wc.heap.size) hv2 hvb
          have hxl : (x.length : Int) ≤ 1000000 := by have := hv2.2.2.2; simp only at this; omega
          have HB := Lib.hid (And.intro hbt hb2)
          simp only [Option.getD_some, Option.isSome_some] at HR2
          have htt : (x == x) = true := by simp
          clear hv2 hvb hb2 hbt HRG HG
          go_upto_region 16 with (go_at_call 14; (with_reducible refine HR2.out.mono ?_); rintro e w' ⟨rfl, rfl⟩)
          clear c5 c3 o2
          go_wp2_with (fail)
          go_loopw [104] (fun kv wr => ∃ j : Nat, j ≤ x.length ∧ kv = .int .i64 (j : Int) ∧ Byt wr wc.heap.size ⟨vA2, x, vc2⟩ ∧ Below wc.heap.size wc wr) (fun kv _ => x.length - (intOf kv).toNat)
          case atStart => exact ⟨0, by omega, rfl, HB.out.1, HB.out.2⟩
          case round =>
            obtain ⟨j, hj, rfl, hbt, hb3⟩ := hrel
            by_cases hjl : j < x.length
            · have hjI : (j : Int) < (x.length : Int) := by omega
              obtain ⟨b, o, m, cs, e, hbase, hg, hcell⟩ := hbt.2.2 j hjl
              change vA2 = _ at e
              subst e
              have hfz := frozen_of_row _ b (o + j) _ _ hg
              have HJ := Lib.hid (fun m' => And.intro (hbt.set (i := o + j) (m := m') hg) (And.intro (hb3.setCell (p := ⟨b, o + j, none⟩) hbase (.int .u8 m')) hjl))
              clear hbt hb3 hjl hj hg
              go_wp2_with (fail)
              exact ⟨⟨j + 1, (HJ.out 0).2.2, by simp, (HJ.out _).1, (HJ.out _).2.1⟩, by simp [intOf]; have := (HJ.out 0).2.2; omega⟩
            · have hjI : ¬ (j : Int) < (x.length : Int) := by omega
              have HJ := Lib.hid hb3
              clear hbt hb3 hjl hj
              go_wp2_with (fail)
              go_meet
              case rel => exact ⟨p, L, A, c, rfl, rfl, by simp, H1.out.1.below HJ.out, RowS.below H1.out.2.1 HJ.out, by omega, H1.out.2.2.1.below HJ.out (Nat.le_trans HS.out.1 (Nat.le_of_lt H1.out.2.2.2.2.2.1))⟩
      by_cases hk4 : kind = 4
      · subst hk4
        have hri := H1.out.1.tree.ris
        have htr := trange_any H1.out.1.tree ⟨kA', kl', kc'⟩ ⟨vA', vl', vc'⟩ wc.heap.size H1.out.2.2.1.k.1.1 H1.out.2.2.1.v.1.1 num (by have := HS.out.2.2.1; omega) (by have := HS.out.2.2.2.2; simp only; omega) HNUM.out
        simp only at htr
        have hrr := fun W (h : Rd W W.heap.size A (prS L)) => refRange_any L hri (by have := HS.out.2.2.1; omega) A c kl' vl' num W W.heap.size h (Nat.le_refl _)
        have hml : (rngL kl' vl' num L).length ≤ 1000 := by rw [rng_most _ _ _ _ (by have := HS.out.2.2.1; omega), List.length_take, rng_len _ _ _ (by have := HS.out.2.2.1; omega)]; have := endL_le vl' L; have := HS.out.2.2.1; omega
        obtain ⟨R, hR⟩ : ∃ R, R = rngL kl' vl' num L := ⟨_, rfl⟩
        rw [← hR] at htr hrr hml
        have HTR := Lib.hid htr
        have HRR := Lib.hid hrr
        have HML := Lib.hid hml
        clear htr hrr hml hri hR
        go_upto_region 23 with (go_at_call 9; (with_reducible refine HTR.out.mono ?_); rintro e w2 ⟨v2, P, rfl, hP, hPL, hb2⟩)
        have hPl : P.length = R.length := by rw [← hPL, prL_len]
        obtain ⟨A2, c2, rfl, _, _, _⟩ := own_shape hP.row
        rw [hPl]
        have hsz : wc.heap.size ≤ w2.heap.size := hb2.size
        have c3 : (convert 27 9 (.slice kA kl'.length kc)).run Try.prog w2 = .ok (.string ⟨kl'.toArray⟩) w2 := strAt (H1.out.2.2.2.1.below hb2 (Nat.le_trans (Nat.le_trans HS.out.2.1 HS.out.1) (Nat.le_of_lt (by have := H1.out.2.2.2.2.2.1; have := HE1.out; omega)))) rfl
        have c4 : (convert 27 9 (.slice vA vl'.length vc)).run Try.prog w2 = .ok (.string ⟨vl'.toArray⟩) w2 := strAt (H1.out.2.2.2.2.1.below hb2 (Nat.le_trans (Nat.le_trans HS.out.2.1 HS.out.1) (Nat.le_of_lt (by have := H1.out.2.2.2.2.2.1; have := HE1.out; omega)))) rfl
        have o1 : w2.cell? ⟨b5, 1, none⟩ = some (.int .i64 num) := (hb2.cell (p := ⟨b5, 1, none⟩) (heap_lt H1.out.2.2.1.box)).trans g1
        have o2 : w2.cell? ⟨b5, 2, none⟩ = some (.slice kA kl'.length kc) := (hb2.cell (p := ⟨b5, 2, none⟩) (heap_lt H1.out.2.2.1.box)).trans g2
        have o3 : w2.cell? ⟨b5, 3, none⟩ = some (.slice vA vl'.length vc) := (hb2.cell (p := ⟨b5, 3, none⟩) (heap_lt H1.out.2.2.1.box)).trans g3
        have HR2 := Lib.hid (HRR.out w2 (RowS.below H1.out.2.1 hb2).rd)
        have HP := Lib.hid (And.intro hP (And.intro hPL (And.intro hPl hb2)))
        clear hP hPL hPl hb2 HRR HTR
        go_upto_region 24 with (first
          | (go_at_call 18; (with_reducible refine HR2.out.mono ?_); rintro e w3 ⟨A3, c3', rfl, hr3, hb3⟩; have hsm := same_any P A2 c2 A3 c3' (HP.out.1.below hb3) (by rw [HP.out.2.1]; exact hr3.rd) (Nat.le_refl _) (by rw [HP.out.2.2.1]; exact HML.out) R.length HP.out.2.2.1.symm)
          | (go_at_call 8; (with_reducible refine hsm.mono ?_); rintro e w4 ⟨rfl, hb4⟩))
        have hb24 := hb3.trans (hb4.mono hb3.size)
        have hsp := spoil_any P A2 c2 (spo_of (HP.out.1.below hb24)) (Nat.le_trans hsz hb24.size) (by rw [HP.out.2.2.1]; exact HML.out) R.length HP.out.2.2.1.symm
        have HSP := Lib.hid hsp
        have HB := Lib.hid (HP.out.2.2.2.trans (hb24.mono hsz))
        clear hsp hb24 hb3 hb4 hsm hr3 HR2 c3 c4 o1 o2 o3
        go_wp2_with (go_at_call 19; (with_reducible refine HSP.out.mono ?_); rintro e w5 ⟨rfl, hb5⟩)
        go_meet
        case rel =>
          have hb := HB.out.trans hb5
          exact ⟨p, L, A, c, rfl, rfl, by simp, H1.out.1.below hb, RowS.below H1.out.2.1 hb, by omega, H1.out.2.2.1.below hb (Nat.le_trans HS.out.1 (Nat.le_of_lt H1.out.2.2.2.2.2.1))⟩
      by_cases hk5 : kind = 5
      · subst hk5
        have HPL : Hid (∀ V : World, Below wc.heap.size wc V → Pw w lo s1 b5 #[.int .i64 5, .int .i64 num, .slice kA kl'.length kc, .slice vA vl'.length vc] ⟨kA', kl', kc'⟩ ⟨vA', vl', vc'⟩ V) := Lib.hid (fun V hb => H1.out.2.2.1.below hb (Nat.le_trans HS.out.1 (Nat.le_of_lt H1.out.2.2.2.2.2.1)))
        have hL9 := HS.out.2.2.1
        have hLI : (L.length : Int) ≤ 500 := by omega
        by_cases hb : num < 0 ∨ (L.length : Int) ≤ num
        · have HAT := Lib.hid (tat_bad H1.out.1.tree num hb)
          go_upto_region 27 with (go_at_call 20; (with_reducible refine HAT.out.mono ?_); rintro e w2 ⟨rfl, hb2⟩)
          have hb3 := hb2.alloc hb2.size (.cells #[.slice none 0 0, .slice none 0 0] 42)
          have e0 := heap_alloc_new w2 (.cells #[.slice none 0 0, .slice none 0 0] 42)
          have q0 := cell_of_row _ _ 0 _ _ _ e0
          have q1 := cell_of_row _ _ 1 _ _ _ e0
          have o1 := (hb3.cell (p := ⟨b5, 1, none⟩) (heap_lt H1.out.2.2.1.box)).trans g1
          have HB := Lib.hid hb3
          clear hb2 hb3 e0 HAT hL9
          by_cases hn : num < 0
          · clear hb
            go_wp2_with (fail)
            go_meet
            case rel => exact ⟨p, L, A, c, rfl, rfl, by simp, H1.out.1.below HB.out, RowS.below H1.out.2.1 HB.out, by omega, HPL.out _ HB.out⟩
          · have hge : (L.length : Int) ≤ num := by omega
            have hnl : ¬ num < (L.length : Int) := by omega
            clear hb
            go_wp2_with (fail)
            go_meet
            case rel => exact ⟨p, L, A, c, rfl, rfl, by simp, H1.out.1.below HB.out, RowS.below H1.out.2.1 HB.out, by omega, HPL.out _ HB.out⟩
        · obtain ⟨i, rfl⟩ : ∃ i : Nat, num = (i : Int) := ⟨num.toNat, by omega⟩
          have hiL : i < L.length := by omega
          have hat := tat_any H1.out.1.tree i hiL (by omega)
          obtain ⟨ab, ao, rfl, hab, r0, r1⟩ := prS_at H1.out.2.1.rd hiL
          generalize L[i] = pr at hat r0 r1
          obtain ⟨pk, px⟩ := pr
          have hat2 : Calls Try.prog 20 #[.pointer (some ⟨p, 0, none⟩), .int .i64 (i : Int)] wc fun e w' => ∃ k1 c1 k2 c2, e = .returned (.tuple #[.agg #[.slice k1 pk.length c1, .slice k2 px.length c2], .int .i64 0]) ∧ Bs.ok w' ⟨k1, pk, c1⟩ ∧ Bs.ok w' ⟨k2, px, c2⟩ ∧ (∀ a, k1 = some a → wc.heap.size ≤ a.block) ∧ (∀ a, k2 = some a → wc.heap.size ≤ a.block) ∧ Below wc.heap.size wc w' := hat.mono fun e w' h => by
            obtain ⟨⟨x1, x2, x3⟩, ⟨y1, y2, y3⟩, h1, h2, h3, h4⟩ := h
            simp only at h2 h3
            subst h2 h3
            exact ⟨x1, x3, y1, y3, h1, h4⟩
          have HAT := Lib.hid hat2
          clear hat hat2
          have hi0 : ¬ (i : Int) < 0 := by omega
          have hiI : (i : Int) < (L.length : Int) := by omega
          have hge : ¬ (L.length : Int) ≤ (i : Int) := by omega
          clear hb
          go_upto_region 27 with (go_at_call 20; (with_reducible refine HAT.out.mono ?_); rintro e w2 ⟨k1, c1, k2, c2, rfl, hk, hx, hkb, hxb, hb2⟩)
          have hb3 := hb2.alloc hb2.size (.cells #[.slice k1 pk.length c1, .slice k2 px.length c2] 42)
          have hbA : Below w2.heap.size w2 (w2.alloc (.cells #[.slice k1 pk.length c1, .slice k2 px.length c2] 42)) := (Below.refl _ _).alloc (Nat.le_refl _) _
          have e0 := heap_alloc_new w2 (.cells #[.slice k1 pk.length c1, .slice k2 px.length c2] 42)
          have hk3 := hk.below hbA
          have hx3 := hx.below hbA
          obtain ⟨n2, hn2⟩ : ∃ n2, n2 = w2.heap.size := ⟨_, rfl⟩
          rw [← hn2] at e0 ⊢
          generalize w2.alloc (.cells #[.slice k1 pk.length c1, .slice k2 px.length c2] 42) = W3 at hb3 e0 hk3 hx3 ⊢
          have q0 := cell_of_row _ _ 0 _ _ _ e0
          have q1 := cell_of_row _ _ 1 _ _ _ e0
          have o1 := (hb3.cell (p := ⟨b5, 1, none⟩) (heap_lt H1.out.2.2.1.box)).trans g1
          have t0 := (hb3.cell (p := ⟨ab, ao + i * 2, none⟩) hab).trans r0
          have t1 := (hb3.cell (p := ⟨ab, ao + i * 2 + 1, none⟩) hab).trans r1
          have s1' : ∀ n, (convert 27 9 (.slice k1 pk.length c1)).run Try.prog (W3.drewN n) = .ok (.string ⟨pk.toArray⟩) (W3.drewN n) := fun n => strAt (hk3.1.1.drewN n) rfl
          have s2' : ∀ n, (convert 27 9 (.slice k2 px.length c2)).run Try.prog (W3.drewN n) = .ok (.string ⟨px.toArray⟩) (W3.drewN n) := fun n => strAt (hx3.1.1.drewN n) rfl
          have u1 : (pk == pk) = true := by simp
          have u2 : (px == px) = true := by simp
          have HB := Lib.hid (And.intro hb3 (And.intro (byt_of (base := wc.heap.size) hk3 hkb) (byt_of (base := wc.heap.size) hx3 hxb)))
          have hcI := (RowS.rd H1.out.2.1)
          clear hk hx hkb hxb hb2 hb3 hbA hk3 hx3 r0 r1 hab e0 HAT hL9 hcI hn2
          obtain ⟨A9, c9, ec, hcl, _, _⟩ := own_shape H1.out.2.1
          injection ec with ec1 ec2 ec3
          have hclI : (L.length : Int) ≤ (c : Int) := by omega
          clear ec1 ec2 ec3
          clear hcl hiL
          go_upto_region 29 with (fail)
          go_quiet (fail)
          go_upto_region 30 with (fail)
          have HB4 := Lib.hid (below_draws HB.out.1 nq)
          have hsp := spo_one (w := W3.drewN nq) (base := wc.heap.size) ⟨k1, pk, c1⟩ ⟨k2, px, c2⟩ HB4.out.size HB.out.2.1 HB.out.2.2
          have hsl := spoil_any [(⟨k1, pk, c1⟩, ⟨k2, px, c2⟩)] (some ⟨W3.heap.size, 0, none⟩) 1 hsp (Nat.le_trans HB4.out.size (by simp)) (by simp) 1 rfl
          simp only at hsl
          have HSL := Lib.hid hsl
          have HB5 := Lib.hid (HB4.out.alloc HB4.out.size (.cells #[.slice k1 pk.length c1, .slice k2 px.length c2] 42))
          clear hsp hsl s1' s2'
          replace q0 : (W3.drewN nq).cell? ⟨n2, 0, none⟩ = some (.slice k1 pk.length c1) := q0
          replace q1 : (W3.drewN nq).cell? ⟨n2, 1, none⟩ = some (.slice k2 px.length c2) := q1
          go_wp2_with (go_at_call 19; (with_reducible refine HSL.out.mono ?_); rintro e w5 ⟨rfl, hb5⟩)
          go_meet
          case rel =>
            have hb := HB5.out.trans hb5
            exact ⟨p, L, some ⟨ab, ao, none⟩, c, rfl, rfl, by simp, H1.out.1.below hb, RowS.below H1.out.2.1 hb, by omega, HPL.out _ hb⟩
      by_cases hk6 : kind = 6
      · subst hk6
        have hrk1 : ∀ n, Calls Try.prog 11 #[.pointer (some ⟨p, 0, none⟩), .slice kA' kl'.length kc'] (wc.drewN n) fun e w' => e = .returned (.int .i64 (rankL kl' L : Int)) ∧ w' = wc.drewN n := fun n => (trank_any (H1.out.1.tree.below (below_draws (Below.refl _ _) n)) ⟨kA', kl', kc'⟩ wc.heap.size (H1.out.2.2.1.k.1.1.drewN n) (by have := HS.out.2.2.1; omega)).mono fun e w' h => ⟨h.1, h.2.symm⟩
        have hrk2 : ∀ n, Calls Try.prog 21 #[.slice A L.length c, .string ⟨kl'.toArray⟩] (wc.drewN n) fun e w' => e = .returned (.int .i64 (rankL kl' L : Int)) ∧ w' = wc.drewN n := fun n => (refRank_any L (by have := HS.out.2.2.1; omega) A c kl' (wc.drewN n) wc.heap.size (H1.out.2.1.rd.drewN n) (Nat.le_refl _)).mono fun e w' h => ⟨h.1, h.2.symm⟩
        obtain ⟨N, hN⟩ : ∃ N, N = rankL kl' L := ⟨_, rfl⟩
        rw [← hN] at hrk1 hrk2
        have HR1 := Lib.hid hrk1
        have HR2 := Lib.hid hrk2
        have c3 : ∀ n, (convert 27 9 (.slice kA kl'.length kc)).run Try.prog (wc.drewN n) = .ok (.string ⟨kl'.toArray⟩) (wc.drewN n) := fun n => strAt (H1.out.2.2.2.1.drewN n) rfl
        clear hrk1 hrk2 hN
        go_upto_region 32 with (fail)
        go_quiet ((first | (go_at_call 11; with_reducible exact Calls.quiet_of_same (HR1.out _)) | (go_at_call 21; with_reducible exact Calls.quiet_of_same (HR2.out _))))
        go_wp2_with (fail)
        go_meet
        case rel => exact ⟨p, L, A, c, rfl, rfl, by simp, H1.out.1.below (below_draws (Below.refl _ _) _), H1.out.2.1.below (below_draws (Below.refl _ _) _), by omega, H1.out.2.2.1.below (below_draws (Below.refl _ _) _) (Nat.le_trans HS.out.1 (Nat.le_of_lt H1.out.2.2.2.2.2.1))⟩
      by_cases hk7 : kind = 7
      · subst hk7
        have hlow : lo ≤ wc.heap.size := Nat.le_trans HS.out.1 (Nat.le_of_lt (by have := H1.out.2.2.2.2.2.1; have := HE1.out; omega))
        have hls : lo ≤ s1 := Nat.le_trans HS.out.1 (Nat.le_of_lt H1.out.2.2.2.2.2.1)
        have HCL := Lib.hid (zclone_any (Z := fun z => z < w.heap.size ∨ s1 ≤ z) H1.out.1.tree (fun z hz => .inr (by have := HE1.out; omega)))
        have hL9 := HS.out.2.2.1
        have hLI : (L.length : Int) ≤ 500 := by omega
        go_upto_region 35 with (go_at_call 22; (with_reducible refine HCL.out.mono ?_); rintro e w2 ⟨q, rfl, hq, hb2⟩)
        have htw := TwoZ.new H1.out.1.tree hb2 hlow hq
        have htr := trange_any htw.left ⟨none, [], 0⟩ ⟨none, [], 0⟩ 0 (Rd.emp _ _ _) (Rd.emp _ _ _) 1073741824 (by omega) (by simp) (by omega)
        simp only [List.length_nil] at htr
        rw [rng_great (by omega) _ (by omega)] at htr
        have HTR := Lib.hid htr
        have H2 := Lib.hid (And.intro htw (And.intro (RowS.below H1.out.2.1 hb2) (H1.out.2.2.1.below hb2 hls)))
        have HLS := Lib.hid (And.intro hls (And.intro hL9 H1.out.1.tree.ris))
        clear htw htr hq hb2 HCL hlow hls hL9
        go_upto_region 38 with (go_at_call 9; (with_reducible refine HTR.out.mono ?_); rintro e w3 ⟨v3, P, rfl, hP, hPL, hb3⟩; obtain ⟨A3, c3, rfl, _, _, _⟩ := own_shape hP.row; have hPl : P.length = L.length := by rw [← hPL, prL_len])
        have H3 := Lib.hid (And.intro (H2.out.1.below hb3) (And.intro (RowS.below H2.out.2.1 hb3) (And.intro (H2.out.2.2.below hb3 HLS.out.1) (And.intro hP (And.intro hPL hPl)))))
        try rw [hPl]
        clear hP hPL hb3 HTR H2
        go_wp2_with (fail)
        go_loopw [218] (fun kv wr => ∃ k : Nat, k ≤ L.length ∧ kv = .int .i64 (k : Int) ∧ TwoZ wr lo p q (fun z => z < w.heap.size ∨ s1 ≤ z) (L.drop k) L ∧ RowS wr lo A c L ∧ Pw w lo s1 b5 #[.int .i64 7, .int .i64 num, .slice kA kl'.length kc, .slice vA vl'.length vc] ⟨kA', kl', kc'⟩ ⟨vA', vl', vc'⟩ wr ∧ Prs wr w2.heap.size (.slice A3 P.length c3) P) (fun kv _ => L.length - (intOf kv).toNat)
        case atStart => exact ⟨0, by omega, rfl, H3.out.1, H3.out.2.1, H3.out.2.2.1, H3.out.2.2.2.1⟩
        case round =>
          obtain ⟨k, hk, rfl, htw, hrw, hpw, hP⟩ := hrel
          by_cases hkn : k < L.length
          · have hkI : (k : Int) < (L.length : Int) := by omega
            have hkP : k < P.length := by have := H3.out.2.2.2.2.2; omega
            obtain ⟨pb, po, rfl, hpc⟩ := prs_at hP hkP
            have hpl := prL_at hkP
            rw [H3.out.2.2.2.2.1, List.getElem?_eq_getElem hkn] at hpl
            injection hpl with hpl
            obtain ⟨d0, d1, o0, o1⟩ := hpc wr (Below.refl _ _)
            have hdh := del_head HLS.out.2.2 k hkn
            rw [hpl] at hdh
            simp only at hdh
            generalize P[k].1 = pk at d0 o0 hdh
            generalize P[k].2 = pv at d1 o1
            have hbX := (Below.refl wr.heap.size wr).alloc (Nat.le_refl _) (.cells #[.slice pk.A pk.l.length pk.c, .slice pv.A pv.l.length pv.c] 42)
            have e0 := heap_alloc_new wr (.cells #[.slice pk.A pk.l.length pk.c, .slice pv.A pv.l.length pv.c] 42)
            have f0 := cell_of_row _ _ 0 _ _ _ e0
            have hzd := twoZ_del (htw.below hbX) pk _ (o0.below hbX).1.1 (by have h1 := hpw.sz; have h2 := hbX.size; have h3 := HLS.out.1; omega) (by rw [List.length_drop]; have := HLS.out.2.1; omega)
            rw [hdh] at hzd
            have HZ := Lib.hid hzd
            have HX := Lib.hid (And.intro (RowS.below hrw hbX) (And.intro (hpw.below hbX HLS.out.1) (And.intro (hP.below hbX) hkn)))
            have hk500 : (k : Int) ≤ 500 := by omega
            clear htw hrw hpw hP hkP hpc hpl o0 o1 hdh hbX e0 hzd hkn hk
            go_wp2_with (go_at_call 16; (with_reducible refine HZ.out.mono ?_); rintro e w4 ⟨rfl, ht4, hb4, hs4⟩)
            exact ⟨⟨k + 1, HX.out.2.2.2, by simp, ht4, RowS.stp HX.out.1 hs4, HX.out.2.1.stp hs4 hb4, hs4.prs HX.out.2.2.1⟩, by simp [intOf]; have := HX.out.2.2.2; omega⟩
          · obtain rfl : k = L.length := by omega
            rw [List.drop_length] at htw
            have hln := tlen_any htw.left
            simp only [List.length_nil] at hln
            have HLN := Lib.hid hln
            have HX := Lib.hid (And.intro htw (And.intro hrw hpw))
            clear htw hrw hpw hP hk hkn hln
            go_wp2_with (go_at_call 7; (with_reducible refine HLN.out.mono ?_); rintro e w4 ⟨rfl, rfl⟩)
            go_meet
            case rel => exact ⟨q, L, A, c, rfl, rfl, by simp, HX.out.1.right, HX.out.2.1, by omega, HX.out.2.2⟩
      have e1 : (kind == 1) = false := beq_eq_false_iff_ne.2 hk1
      have e2 : (kind == 2) = false := beq_eq_false_iff_ne.2 hk2
      have e3 : (kind == 3) = false := beq_eq_false_iff_ne.2 hk3
      have e4 : (kind == 4) = false := beq_eq_false_iff_ne.2 hk4
      have e5 : (kind == 5) = false := beq_eq_false_iff_ne.2 hk5
      have e6 : (kind == 6) = false := beq_eq_false_iff_ne.2 hk6
      have e7 : (kind == 7) = false := beq_eq_false_iff_ne.2 hk7
      clear hk1 hk2 hk3 hk4 hk5 hk6 hk7
      go_wp2_with (fail)
      go_meet
      case rel => exact ⟨p, L, A, c, rfl, rfl, rfl, H1.out.1, H1.out.2.1, by omega, H1.out.2.2.1⟩
    case rest =>
      clear g0 g1 g2 g3
      obtain ⟨q, L', A', c', rfl, rfl, rfl, hTz, hm2, hL2, hpw⟩ := hcut
      have hrk : Rd wc B kA (u8s kl') := HR.out.1.below hpw.low HS.out.2.1
      have hrv : Rd wc B vA (u8s vl') := HR.out.2.below hpw.low HS.out.2.1
      have c1 : ∀ n, (convert 27 9 (.slice kA' kl'.length kc')).run Try.prog (wc.drewN n) = .ok (.string ⟨kl'.toArray⟩) (wc.drewN n) := fun n => strAt (hpw.k.1.1.drewN n) rfl
      have c2 : ∀ n, (convert 27 9 (.slice vA' vl'.length vc')).run Try.prog (wc.drewN n) = .ok (.string ⟨vl'.toArray⟩) (wc.drewN n) := fun n => strAt (hpw.v.1.1.drewN n) rfl
      have c3 : ∀ n, (convert 27 9 (.slice kA kl'.length kc)).run Try.prog (wc.drewN n) = .ok (.string ⟨kl'.toArray⟩) (wc.drewN n) := fun n => strAt (hrk.drewN n) rfl
      have c4 : ∀ n, (convert 27 9 (.slice vA vl'.length vc)).run Try.prog (wc.drewN n) = .ok (.string ⟨vl'.toArray⟩) (wc.drewN n) := fun n => strAt (hrv.drewN n) rfl
      have c10 := c1 0
      have c20 := c2 0
      have c30 := c3 0
      have c40 := c4 0
      simp only [World.drewN_zero] at c10 c20 c30 c40
      have o2 := cell_of_row wc b5 2 _ _ _ hpw.box
      have o3 := cell_of_row wc b5 3 _ _ _ hpw.box
      have hlp : Lp w lo q (fun z => z < w.heap.size ∨ s1 ≤ z) L' A' c' w.heap.size ⟨kA', kl', kc'⟩ ⟨vA', vl', vc'⟩ wc := ⟨hTz, hm2, byt_of hpw.k (fun a ha => Nat.le_of_lt (H1.out.2.2.2.2.2.2.1 a ha).1), byt_of hpw.v (fun a ha => Nat.le_of_lt (H1.out.2.2.2.2.2.2.2 a ha).1), hpw.low⟩
      have HL := Lib.hid (And.intro hlp hL2)
      have kI : (kl'.length : Int) ≤ 500 := by have := HS.out.2.2.2.1; omega
      have vI : (vl'.length : Int) ≤ 500 := by have := HS.out.2.2.2.2; omega
      have kk1 : (kl' != kl') = false := by simp
      have vv1 : (vl' != vl') = false := by simp
      clear hTz hm2 hL2 hpw hrk hrv hlp
      go_upto_region 46 with (fail)
      clear c1 c2 c3 c4 c10 c20 c30 c40 o2 o3 kk1 vv1
      go_wp2_with (fail)
      go_loopw [249] (fun iv wr => ∃ j : Nat, j ≤ kl'.length ∧ iv = .int .i64 (j : Int) ∧ Lp w lo q (fun z => z < w.heap.size ∨ s1 ≤ z) L' A' c' w.heap.size ⟨kA', kl', kc'⟩ ⟨vA', vl', vc'⟩ wr) (fun iv _ => kl'.length - (intOf iv).toNat)
      case atStart => exact ⟨0, by omega, rfl, HL.out.1⟩
      case round =>
        obtain ⟨j, hj, rfl, hlp⟩ := hrel
        by_cases hjl : j < kl'.length
        · have hjI : (j : Int) < (kl'.length : Int) := by omega
          obtain ⟨b, o, m, cs, e, hbase, hg, hcell⟩ := hlp.k.2.2 j hjl
          change kA' = _ at e
          have hz := H1.out.2.2.2.2.2.2.1 _ e
          subst e
          have hfz := frozen_of_row _ b (o + j) _ _ hg
          have HJ := Lib.hid (fun m' => And.intro (hlp.set (i := o + j) (m := m') hg (by intro h; rcases h with h | h <;> (simp only at hz; omega)) (by have := HS.out.1; simp only at hz; omega)) hjl)
          clear hlp hjl hj hg hz hbase
          go_wp2_with (fail)
          exact ⟨⟨j + 1, (HJ.out 0).2, by simp, (HJ.out _).1⟩, by simp [intOf]; have := (HJ.out 0).2; omega⟩
        · have hjI : ¬ (j : Int) < (kl'.length : Int) := by omega
          have HJ := Lib.hid hlp
          clear hlp hjl hj
          go_wp2_with (fail)
          go_loopw [261] (fun iv wr => ∃ j : Nat, j ≤ vl'.length ∧ iv = .int .i64 (j : Int) ∧ Lp w lo q (fun z => z < w.heap.size ∨ s1 ≤ z) L' A' c' w.heap.size ⟨kA', kl', kc'⟩ ⟨vA', vl', vc'⟩ wr) (fun iv _ => vl'.length - (intOf iv).toNat)
          case atStart => exact ⟨0, by omega, rfl, HJ.out⟩
          case round =>
            obtain ⟨j, hj, rfl, hlp⟩ := hrel
            by_cases hjl : j < vl'.length
            · have hjI2 : (j : Int) < (vl'.length : Int) := by omega
              obtain ⟨b, o, m, cs, e, hbase, hg, hcell⟩ := hlp.v.2.2 j hjl
              change vA' = _ at e
              have hz := H1.out.2.2.2.2.2.2.2 _ e
              subst e
              have hfz := frozen_of_row _ b (o + j) _ _ hg
              have HJ := Lib.hid (fun m' => And.intro (hlp.set (i := o + j) (m := m') hg (by intro h; rcases h with h | h <;> (simp only at hz; omega)) (by have := HS.out.1; simp only at hz; omega)) hjl)
              clear hlp hjl hj hg hz hbase
              go_wp2_with (fail)
              exact ⟨⟨j + 1, (HJ.out 0).2, by simp, (HJ.out _).1⟩, by simp [intOf]; have := (HJ.out 0).2; omega⟩
            · have hjI2 : ¬ (j : Int) < (vl'.length : Int) := by omega
              have HJ := Lib.hid hlp
              clear hlp hjl hj
              go_wp2_with (fail)
              exact bodyPost_ret (resPlay _ _) rfl ⟨q, L', A', c', rfl, HJ.out.t.tree, HJ.out.m, HL.out.2, HJ.out.low⟩
  case first =>
    have hks : ∀ W, Below W0.heap.size W0 W → W.cell? ⟨b5, 2, none⟩ = some (.slice kA kl.length kc) ∧ W.cell? ⟨b5, 3, none⟩ = some (.slice vA vl.length vc) := fun W hW => by
      have hg := (hW.block b5 (heap_lt H0.out.2.1)).trans H0.out.2.1
      exact ⟨cell_of_row W b5 2 _ _ _ hg, cell_of_row W b5 3 _ _ _ hg⟩
    have KS := Lib.hid hks
    have hrk : Rd W0.drew B kA (u8s kl) := HH.out.2.2.2.1.below H0.out.1.drew (Nat.le_trans HH.out.2.2.2.2.2.1 HH.out.2.2.2.2.2.2.1)
    have hrv : Rd W0.drew B vA (u8s vl) := HH.out.2.2.2.2.1.below H0.out.1.drew (Nat.le_trans HH.out.2.2.2.2.2.1 HH.out.2.2.2.2.2.2.1)
    have hBw : B ≤ W0.drew.heap.size := by have := HH.out.2.2.2.2.2.1; have := HH.out.2.2.2.2.2.2.1; have h := H0.out.1.size; show B ≤ W0.heap.size; omega
    have hk9 : kl.length ≤ 1000 := by have := HH.out.2.2.2.2.2.2.2.1; omega
    have hv9 : vl.length ≤ 1000 := by have := HH.out.2.2.2.2.2.2.2.2; omega
    obtain ⟨a1, X1, a2, X2, r1, r2, q1⟩ := cop_one W0.drew W0.heap.size rfl kA vA kl vl kc vc B hrk hrv hBw hk9 hv9
    obtain ⟨a3, X3, a4, X4, r3, r4, q2⟩ := cop_two W0.drew W0.heap.size rfl kA vA kl vl kc vc B hrk hrv hBw hk9 hv9
    obtain ⟨b7, Y5, b6, Y6, s5, s6, p3⟩ := cop_three W0.drew W0.heap.size rfl vA kA vl kl vc kc B hrv hrk hBw hv9 hk9
    have c1 := q1.1
    have c3 := q2.1
    have c6 := p3.1
    obtain ⟨t1, e1, c1⟩ := c1
    obtain ⟨t3, e3, c3⟩ := c3
    obtain ⟨t6, e6, c6⟩ := p3.2.1
    subst e1 e3 e6
    clear c1 c3 c6
    replace r1 : (Builtin.append_ #[27, 27] 27 #[.slice (some ⟨W0.heap.size, 0, none⟩) 0 0, .slice kA kl.length kc]).run Try.prog (W0.alloc emptyRow).drew = .ok (.slice t1.A t1.l.length t1.c) X1 := r1
    replace r3 : (Builtin.append_ #[27, 27] 27 #[.slice (some ⟨W0.heap.size, 0, none⟩) 0 0, .slice kA kl.length kc]).run Try.prog ((W0.alloc emptyRow).alloc emptyRow).drew = .ok (.slice t3.A t3.l.length t3.c) X3 := r3
    replace s5 : (Builtin.append_ #[27, 27] 27 #[.slice (some ⟨W0.heap.size + 1, 0, none⟩) 0 0, .slice kA kl.length kc]).run Try.prog ((W0.alloc emptyRow).alloc emptyRow).drew = .ok (.slice t6.A t6.l.length t6.c) Y5 := s5
    have hd : ∀ W, Below W0.drew.heap.size W0.drew W → Below W0.heap.size W0 W := fun W h => (Below.refl _ _).drew.trans h
    have HX1 := Lib.hid (hd _ q1.2.2.2)
    have HX3 := Lib.hid (hd _ q2.2.2.2)
    have HY5 := Lib.hid (hd _ p3.2.2.2)
    have HX2 := Lib.hid (hd _ q1.2.2.1)
    have HX4 := Lib.hid (hd _ q2.2.2.1)
    have HY6 := Lib.hid (hd _ p3.2.2.1)
    have E1 := Lib.hid (show Cop W0 X2 (.slice t1.A t1.l.length t1.c) kl ∧ Cop W0 X2 a2 vl ∧ Below W0.heap.size W0 X2 from ⟨q1.1, q1.2.1, HX2.out⟩)
    have E2 := Lib.hid (show Cop W0 X4 (.slice t3.A t3.l.length t3.c) kl ∧ Cop W0 X4 a4 vl ∧ Below W0.heap.size W0 X4 from ⟨q2.1, q2.2.1, HX4.out⟩)
    have E6 := Lib.hid (show Cop W0 Y6 (.slice t6.A t6.l.length t6.c) kl ∧ Cop W0 Y6 b7 vl ∧ Below W0.heap.size W0 Y6 from ⟨p3.2.1, p3.1, HY6.out⟩)
    have hS0 := hks W0.drew (Below.refl _ _).drew
    clear hks hrk hrv hBw hk9 hv9 q1 q2 p3 hd kI vI
    go_region_held3 (fun W => W.cell? ⟨b5, 2, none⟩ = some (.slice kA kl.length kc) ∧ W.cell? ⟨b5, 3, none⟩ = some (.slice vA vl.length vc))
      (first
        | assumption
        | exact KS.out _ HX1.out
        | exact KS.out _ HX3.out
        | exact KS.out _ HY5.out
        | exact KS.out _ HX2.out
        | exact KS.out _ HX4.out
        | exact KS.out _ HY6.out
        | exact KS.out _ (HX1.out.alloc HX1.out.size _)
        | (refine KS.out _ ?_; repeat (first | with_reducible exact Below.refl _ _ | (with_reducible refine Below.drew ?_) | (with_reducible refine Below.alloc ?_ (Nat.le_refl _) _) | (with_reducible refine Below.alloc ?_ (by simp) _))))
      (first
        | (with_reducible change (if Region.wanted _ _ = true then Oper.wp _ _ _ ((W0.alloc emptyRow).drew) _ _ else _); rw [if_pos (by simp [Region.wanted])]; refine step_appK' _ (.tmp 28) (.tmp 30) 27 rfl rfl (.slice (some ⟨W0.heap.size, 0, none⟩) 0 0) (.slice kA kl.length kc) (.slice t1.A t1.l.length t1.c) X1 ?_ ?_ r1 ?_; simp only [Act.eval, Array.getD_eq_getD_getElem?, List.getElem?_toArray, List.getElem?_cons_succ, List.getElem?_cons_zero, Option.getD_some]; simp only [Act.eval, Array.getD_eq_getD_getElem?, List.getElem?_toArray, List.getElem?_cons_succ, List.getElem?_cons_zero, Option.getD_some])
        | (with_reducible change (if Region.wanted _ _ = true then Oper.wp _ _ _ (X1.alloc emptyRow) _ _ else _); rw [if_pos (by simp [Region.wanted])]; refine step_appK' _ (.tmp 32) (.tmp 34) 27 rfl rfl (.slice (some ⟨X1.heap.size, 0, none⟩) 0 0) (.slice vA vl.length vc) (a2) X2 ?_ ?_ r2 ?_; simp only [Act.eval, Array.getD_eq_getD_getElem?, List.getElem?_toArray, List.getElem?_cons_succ, List.getElem?_cons_zero, Option.getD_some]; simp only [Act.eval, Array.getD_eq_getD_getElem?, List.getElem?_toArray, List.getElem?_cons_succ, List.getElem?_cons_zero, Option.getD_some])
        | (with_reducible change (if Region.wanted _ _ = true then Oper.wp _ _ _ (((W0.alloc emptyRow).alloc emptyRow).drew) _ _ else _); rw [if_pos (by simp [Region.wanted])]; refine step_appK' _ (.tmp 28) (.tmp 30) 27 rfl rfl (.slice (some ⟨W0.heap.size, 0, none⟩) 0 0) (.slice kA kl.length kc) (.slice t3.A t3.l.length t3.c) X3 ?_ ?_ r3 ?_; simp only [Act.eval, Array.getD_eq_getD_getElem?, List.getElem?_toArray, List.getElem?_cons_succ, List.getElem?_cons_zero, Option.getD_some]; simp only [Act.eval, Array.getD_eq_getD_getElem?, List.getElem?_toArray, List.getElem?_cons_succ, List.getElem?_cons_zero, Option.getD_some])
        | (with_reducible change (if Region.wanted _ _ = true then Oper.wp _ _ _ (X3) _ _ else _); rw [if_pos (by simp [Region.wanted])]; refine step_appK' _ (.tmp 32) (.tmp 34) 27 rfl rfl (.slice (some ⟨W0.heap.size + 1, 0, none⟩) 0 0) (.slice vA vl.length vc) (a4) X4 ?_ ?_ r4 ?_; simp only [Act.eval, Array.getD_eq_getD_getElem?, List.getElem?_toArray, List.getElem?_cons_succ, List.getElem?_cons_zero, Option.getD_some]; simp only [Act.eval, Array.getD_eq_getD_getElem?, List.getElem?_toArray, List.getElem?_cons_succ, List.getElem?_cons_zero, Option.getD_some])
        | (with_reducible change (if Region.wanted _ _ = true then Oper.wp _ _ _ (((W0.alloc emptyRow).alloc emptyRow).drew) _ _ else _); rw [if_pos (by simp [Region.wanted])]; refine step_appK' _ (.tmp 28) (.tmp 30) 27 rfl rfl (.slice (some ⟨W0.heap.size + 1, 0, none⟩) 0 0) (.slice kA kl.length kc) (.slice t6.A t6.l.length t6.c) Y5 ?_ ?_ s5 ?_; simp only [Act.eval, Array.getD_eq_getD_getElem?, List.getElem?_toArray, List.getElem?_cons_succ, List.getElem?_cons_zero, Option.getD_some]; simp only [Act.eval, Array.getD_eq_getD_getElem?, List.getElem?_toArray, List.getElem?_cons_succ, List.getElem?_cons_zero, Option.getD_some])
        | (with_reducible change (if Region.wanted _ _ = true then Oper.wp _ _ _ (Y5) _ _ else _); rw [if_pos (by simp [Region.wanted])]; refine step_appK' _ (.tmp 32) (.tmp 34) 27 rfl rfl (.slice (some ⟨W0.heap.size, 0, none⟩) 0 0) (.slice vA vl.length vc) (b7) Y6 ?_ ?_ s6 ?_; simp only [Act.eval, Array.getD_eq_getD_getElem?, List.getElem?_toArray, List.getElem?_cons_succ, List.getElem?_cons_zero, Option.getD_some]; simp only [Act.eval, Array.getD_eq_getD_getElem?, List.getElem?_toArray, List.getElem?_cons_succ, List.getElem?_cons_zero, Option.getD_some]))
    all_goals
      go_wp2_with (fail)
      go_meet
      case rel => first | exact E1.out | exact E2.out | exact E6.out
end Go.Proofs.Ytklhfegdjadgdaa
