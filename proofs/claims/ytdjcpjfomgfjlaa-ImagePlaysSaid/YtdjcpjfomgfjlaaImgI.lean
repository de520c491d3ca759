/- An image in memory: lay. -/
import Derived.Test.YtdjcpjfomgfjlaaImgG
import Derived.Stop.RegionWithIn
import Derived.Test.YtdjcpjfomgfjlaaImgF
import Derived.Test.YtdjcpjfomgfjlaaLogK
namespace Go.Proofs.Ytdjcpjfomgfjlaa
open Go.RowKit Go.Maps Go.Shelf
attribute [local go_sem] Oper.semAt_some

theorem parts_secs (n : Nat) : parts n = secs n := rfl
/-- What is done when some parts have come. -/
def laid (a : Nat) (d : List UInt8) (M : DM) (pre : List (Fin (parts d.length))) : Int × DM := runOps (wrs a (pre.map fun x => chunk d x.1)) M
theorem laid_snoc (a : Nat) (d : List UInt8) (M : DM) (pre : List (Fin (parts d.length))) (x : Fin (parts d.length)) (h : (laid a d M pre).1 = 0) :
    laid a d M (pre ++ [x]) = if (laid a d M pre).2.dead then (30, (laid a d M pre).2) else (0, doneOp (laid a d M pre).2 (some (a + pre.length, chunk d x.1))) := by
  unfold laid at h ⊢
  rw [List.map_append, List.map_singleton, wrs_snoc, runOps_append, if_pos h, List.length_map]
  rfl
theorem laid_firsts (a : Nat) (d : List UInt8) (k : Nat) : wrs a ((firsts d.length k).map fun x => chunk d x.1) = (wrs a (chunks d)).take k := by
  rw [wrs_take]
  congr 1
  apply List.ext_getElem
  · simp [firsts, chunks_len, parts_secs]
  · intro i h1 h2
    simp [firsts, chunks, chunk]
theorem laid_all (a : Nat) (d : List UInt8) : wrs a ((List.finRange (parts d.length)).map fun x => chunk d x.1) = wrs a (chunks d) := by
  have := laid_firsts a d (parts d.length)
  rw [List.take_of_length_le (by rw [wrs_len, chunks_len]; exact Nat.le_refl _)] at this
  rw [← this]
  unfold firsts
  rw [List.take_of_length_le (by simp)]
def layOps (a : Nat) (d : List UInt8) : List DOp := wrs a (chunks d) ++ [none]
/-- Between two rounds. -/
structure LayI (w : World) (B5 Q p bs bw T a : Nat) (d : List UInt8) (M : DM) (pre : List (Fin (parts d.length))) (W : World) : Prop where
  big : B5 ≤ W.heap.size
  zero : (laid a d M pre).1 = 0
  disk : DiskM W p bs bw (laid a d M pre).2 (T + pre.length)
  fr : Fr w W [p, bs, bw]
  bm : W.heap[w.heap.size]? = some (.cells #[.pointer (some ⟨Q, 0, none⟩)] 70 (0, 0))
  ba : W.heap[w.heap.size + 1]? = some (.cells #[.int .i64 ((a : Int) + (pre.length : Int))] 3 (0, 0))
  br : W.heap[w.heap.size + 1 + 1]? = some (.cells #[.int .i64 0] 27 (0, 0))
/-- A round has left: the disk is dead. -/
structure LayX (w : World) (p bs bw T a : Nat) (d : List UInt8) (M : DM) (pre : List (Fin (parts d.length))) (W : World) : Prop where
  dead : (laid a d M pre).1 = 30
  disk : DiskM W p bs bw (laid a d M pre).2 (T + pre.length)
  fr : Fr w W [p, bs, bw]
  br : W.heap[w.heap.size + 1 + 1]? = some (.cells #[.int .i64 30] 27 (0, 0))
theorem grown_at {w W W' : World} {row : Option Nat} (hg : W.grownBy W' row) {k : Nat} (hk : k < w.heap.size + 3) (hr : ∀ r, row = some r → w.heap.size + 3 ≤ r) {o : Obj} (h : W.heap[k]? = some o) : W'.heap[k]? = some o :=
  (hg.block k (heap_lt h) (fun e => by have := hr k e.symm; omega)).trans h
theorem fr_row {W W' : World} {row : Option Nat} (hg : W.grownBy W' row) : Fr W W' row.toList :=
  ⟨hg.os, hg.tape, hg.output, hg.size, fun k hk hs => hg.block k hk fun e => hs (by rw [← e]; simp)⟩
theorem row_nin {row : Option Nat} {B k : Nat} (hr : ∀ r, row = some r → B + 3 ≤ r) (hk : k < B) : k ∉ row.toList := fun h => by
  have := hr k (by simpa using h); omega
theorem LayI.grown {w : World} {B5 Q p bs bw T a : Nat} {d : List UInt8} {M : DM} {pre : List (Fin (parts d.length))} {W W' : World} {row : Option Nat} (h : LayI w B5 Q p bs bw T a d M pre W) (hg : W.grownBy W' row) (hlt : p < w.heap.size ∧ bs < w.heap.size ∧ bw < w.heap.size) (hr : ∀ r, row = some r → w.heap.size + 3 ≤ r) : LayI w B5 Q p bs bw T a d M pre W' :=
  ⟨Nat.le_trans h.big hg.size, h.zero, h.disk.fr (fr_row hg) (row_nin hr hlt.1) (row_nin hr hlt.2.1) (row_nin hr hlt.2.2), h.fr.more (fr_row hg) (fun s hs => .inr (by have := hr s (by simpa using hs); omega)),
    grown_at hg (by omega) hr h.bm, grown_at hg (by omega) hr h.ba, grown_at hg (by omega) hr h.br⟩
theorem LayX.grown {w : World} {p bs bw T a : Nat} {d : List UInt8} {M : DM} {pre : List (Fin (parts d.length))} {W W' : World} {row : Option Nat} (h : LayX w p bs bw T a d M pre W) (hg : W.grownBy W' row) (hlt : p < w.heap.size ∧ bs < w.heap.size ∧ bw < w.heap.size) (hr : ∀ r, row = some r → w.heap.size + 3 ≤ r) : LayX w p bs bw T a d M pre W' :=
  ⟨h.dead, h.disk.fr (fr_row hg) (row_nin hr hlt.1) (row_nin hr hlt.2.1) (row_nin hr hlt.2.2), h.fr.more (fr_row hg) (fun s hs => .inr (by have := hr s (by simpa using hs); omega)), grown_at hg (by omega) hr h.br⟩
theorem kpB_put {Bs Bn l : Nat} {W : World} {o' : Obj} (h1 : Bs ≠ l) (h2 : Bn ≠ l) : KpB Bs Bn W (W.putObj l o') :=
  ⟨World.cell?_of_block (World.putObj_heap_other h1), World.cell?_of_block (World.putObj_heap_other h2)⟩
theorem keeps_fr {B : Nat} {W W' : World} {S : List Nat} (hf : Fr W W' S) (hS : ∀ s ∈ S, s < B) : KeepsFrom B W W' :=
  ⟨hf.size, fun k o hB hk _ => (hf.block k (heap_lt hk) (fun h => by have := hS k h; omega)).trans hk⟩
theorem kpB_fr {Bs Bn : Nat} {W W' : World} {S : List Nat} (hf : Fr W W' S) (h1 : Bs < W.heap.size) (h2 : Bn < W.heap.size) (h3 : Bs ∉ S) (h4 : Bn ∉ S) : KpB Bs Bn W W' :=
  ⟨World.cell?_of_block (hf.block Bs h1 h3), World.cell?_of_block (hf.block Bn h2 h4)⟩
theorem wpListIn_copy_splice {F : Fence} {nF : Nat} {P : Program} {w : World} {ops : Array Oper} {rest : List Oper} {o : Oper} {a : Act} {Q : Exit → Act → World → Prop} (hgd : o.guard = none) (d s : Operand) (dT sT : TypeId)
    (ho : o.op = .call { callee := .builtin .copy, args := #[d, s], argTypes := #[dT, sT] }) (elem : TypeId) (hu : P.underlying dT = some (.slice elem)) (hsz : (P.info? elem).map (·.size) = some 1)
    (g dLen dCap : Nat) (ad : Addr) (sLen sCap : Nat) (hd : a.eval d = .slice (some ⟨g, 0, none⟩) dLen dCap) (hs : a.eval s = .slice (some ad) sLen sCap)
    (cur : List Value) (t : TypeId) (hg : w.heap[g]? = some (.cells cur.toArray t (0, 0))) (cs : List Value) (hn : cs.length = Nat.min sLen dLen)
    (hsrc : ∀ j v, cs[j]? = some v → w.cell? (ad.add j) = some v)
    (hfit : cs.length ≤ cur.length) (h1 : ∀ v ∈ cs, v.oneCell' = true) (B : Nat) (w0 : World) (hb : Below B w0 w) (hBg : B ≤ g)
    (h : ∀ w', Hid (w'.heap[g]? = some (.cells (splice cur 0 cs).toArray t (0, 0))) → Below B w0 w' → wpListIn F nF P ops Q rest (a.put o.dst (goInt cs.length)) w') :
    wpListIn F nF P ops Q (o :: rest) a w := by
  refine wpListIn_plain hgd fun K hK => ?_
  have hrun := run_copy_row (P := P) w dT sT o.type elem g 0 dLen dCap ad sLen sCap cur.toArray t cs hu hsz hg hn hsrc (by simpa using hfit) h1
  unfold Oper.wpIn
  refine ⟨by simp [Oper.about, ho, resolve, Target.leads, Sem.run_pure], ?_⟩
  rw [Oper.semAt_plain F _ _ (by rw [ho]; intro c hc'; cases hc')]
  simp [execOp, ho, resolve, invoke, builtin, hd, hs, hrun, Result.andThen]
  exact hK _ _ (h _ (show _ = _ by simpa [splice] using setRow_heap w g _ _ t _ hg) (below_setRow hb hBg _))
theorem resLay {w : World} {b : Nat} {v : Value} (h : w.cell? ⟨b, 0, none⟩ = some v) (tmps : Array Value) (h6 : tmps.getD 6 undef = .pointer (some ⟨b, 0, none⟩)) : (results Try.f80 tmps).run Try.prog w = .ok v w := by
  have h6' := h6
  simp only [Array.getD_eq_getD_getElem?] at h6'
  simp [results, Try.results80, go_sem, h6', h]
section
variable {w : World} {q p first count bs bw T : Nat} {M : DM}
set_option maxRecDepth 100000 in
set_option maxHeartbeats 4000000 in
theorem lay_any (h : ImgAt w q p first count) (hD : DiskM w p bs bw M T) (a : Nat) (A : Option Addr) (d : List UInt8) (c B : Nat) (hr : Rd w B A (u8s d)) (hB : d ≠ [] → ∀ x, A = some x → x.block ≠ p ∧ x.block ≠ bs ∧ x.block ≠ bw) (hc : d.length ≤ c) (hcm : c ≤ 9223372036854775807) (hq : q ≠ p ∧ q ≠ bs ∧ q ≠ bw) (hl : d.length ≤ 262144) (hs : a + secs d.length ≤ M.size) (ha : a < 4096) (hfit : Fit M T (secs d.length + 1)) :
    Calls Try.prog 80 #[.pointer (some ⟨q, 0, none⟩), .int .i64 (a : Int), .slice A d.length c] w fun e w' => Ran w w' p bs bw T M (layOps a d) e := by
  refine (callsIn_wide (n := 5)).1 ?_
  have h1 : 1 ≤ 5 := by omega
  refine callsIn_of_wp_marks Try.func80 rfl trivial ?_ rfl
  simp only [Try.ntmps80, List.size_toArray, List.length_cons, List.length_nil, Nat.reduceAdd, Nat.reduceSub, Array.replicate_succ, Array.replicate_zero, List.push_toArray, List.append_toArray, List.nil_append, List.cons_append]
  gi_wp2_with (refine ⟨trivial, ?_⟩; gi_at_call 89; generalize hW3 : ((w.alloc (.cells #[.pointer (some ⟨q, 0, none⟩)] 70)).alloc (.cells #[.int .i64 (a : Int)] 3)).alloc (.cells #[.int .i64 0] 27) = W3; refine (chunk_in Fence.wide (5 - 1) trivial rfl _ _ _ _).mono ?_; rintro e W5 ⟨rfl, hW5⟩)
  have hs3 : W3.heap.size = w.heap.size + 3 := by rw [← hW3]; simp
  have hs5 : W5.heap.size = w.heap.size + 5 := by rw [hW5]; simp [hs3]
  have hb3 : Below w.heap.size w W3 := by rw [← hW3]; exact (((Below.refl _ _).alloc (Nat.le_refl _) _).alloc (by simp) _).alloc (by simp <;> omega) _
  have hb5 : Below W3.heap.size W3 W5 := by rw [hW5]; exact ((Below.refl _ _).alloc (Nat.le_refl _) _).alloc (by simp) _
  have hbw : Below w.heap.size w W5 := hb3.trans (hb5.mono hb3.size)
  have gm : W5.heap[w.heap.size]? = some (.cells #[.pointer (some ⟨q, 0, none⟩)] 70 (0, 0)) := by
    rw [hb5.block _ (by omega), ← hW3, Below.heap_alloc _ _ _ (by simp <;> omega), Below.heap_alloc _ _ _ (by simp)]
    exact heap_alloc_new w _
  have ga : W5.heap[w.heap.size + 1]? = some (.cells #[.int .i64 (a : Int)] 3 (0, 0)) := by
    rw [hb5.block _ (by omega), ← hW3, Below.heap_alloc _ _ _ (by simp)]
    have := heap_alloc_new (w.alloc (.cells #[.pointer (some ⟨q, 0, none⟩)] 70)) (.cells #[.int .i64 (a : Int)] 3)
    simpa using this
  have gr : W5.heap[w.heap.size + 1 + 1]? = some (.cells #[.int .i64 0] 27 (0, 0)) := by
    rw [hb5.block _ (by omega), ← hW3]
    have := heap_alloc_new ((w.alloc (.cells #[.pointer (some ⟨q, 0, none⟩)] 70)).alloc (.cells #[.int .i64 (a : Int)] 3)) (.cells #[.int .i64 0] 27)
    simpa using this
  have gs : W5.cell? ⟨W3.heap.size, 0, none⟩ = some (.slice A d.length c) := by
    have hh : W5.heap[W3.heap.size]? = some (.cells #[.slice A d.length c] 45 (0, 0)) := by
      rw [hW5, Below.heap_alloc _ _ _ (by simp)]
      exact heap_alloc_new W3 _
    exact cell_of_row W5 _ 0 _ _ _ hh
  have gn : W5.cell? ⟨W3.heap.size + 1, 0, none⟩ = some (.int .i64 64) := by
    have hh : W5.heap[W3.heap.size + 1]? = some (.cells #[.int .i64 64] 3 (0, 0)) := by
      rw [hW5]
      have := heap_alloc_new (W3.alloc (.cells #[.slice A d.length c] 45)) (.cells #[.int .i64 64] 3)
      simpa using this
    exact cell_of_row W5 _ 0 _ _ _ hh
  rw [← hW5]
  clear hW3 hW5
  have hlt := hD.lt
  have hap := hD.apart
  have hA : 0 < d.length → ∃ ab ao, A = some ⟨ab, ao, none⟩ := fun h0 => by
    obtain ⟨ab, ao, e, _⟩ := hr (by intro e; have := u8s_len d; rw [e] at this; simp at this; omega)
    exact ⟨ab, ao, e⟩
  have hq5 : q < w.heap.size := h.lt
  have h35 : w.heap.size + 3 ≤ W5.heap.size := by omega
  have h3a : W3.heap.size < W5.heap.size := by omega
  have h3b : W3.heap.size + 1 < W5.heap.size := by omega
  have h3c : w.heap.size + 3 ≤ W3.heap.size := by omega
  clear hs3 hs5
  refine wpIn_rangeFunc_ownG (α := Fin (parts d.length)) rfl h1 (gf := 94) (lb := #[.pointer (some ⟨W3.heap.size, 0, none⟩), .pointer (some ⟨W3.heap.size + 1, 0, none⟩)]) rfl trivial (enters_of Try.func94 (by kernel_rfl) rfl)
    (chunk_stops Fence.wide (5 - 1) trivial rfl (by omega) W3.heap.size (W3.heap.size + 1) A d.length c (by omega) hA hc hcm W5 (by omega) (by omega) gs gn)
    (fun h k => ⟨k.1.trans h.1, k.2.trans h.2⟩) (fun W l o o' hl _ _ _ => kpB_put (by omega) (by omega)) (Below.refl _ _) (fun _ => rfl)
    (LayI w W5.heap.size q p bs bw T a d M) (fun c pre W => c = .ret ∧ LayX w p bs bw T a d M pre W)
    (fun pre W W' row hs hg hr => hs.grown hg hlt (fun r e => by have := (hr r e).1; omega))
    (fun c pre W W' row hs hg hr => ⟨hs.1, hs.2.grown hg hlt (fun r e => by have := (hr r e).1; omega)⟩)
    ?h0 (fun x => { tmps := #[.pointer (some ⟨q, 0, none⟩), .int .i64 (a : Int), .slice A d.length c, .pointer (some ⟨w.heap.size, 0, none⟩), .pointer (some ⟨w.heap.size + 1, 0, none⟩), undef, .pointer (some ⟨w.heap.size + 1 + 1, 0, none⟩), partV A d.length x.1, undef, undef, .slice A d.length c, .func (.func 94) #[] #[.pointer (some ⟨W3.heap.size, 0, none⟩), .pointer (some ⟨W3.heap.size + 1, 0, none⟩)], partV A d.length x.1, undef, undef, undef, undef, undef, undef, undef, undef, undef, undef, undef, undef, undef, undef, undef, undef, undef, undef, undef, undef, undef], defers := [] }) ?assign ?body ?done ?stop
  case h0 =>
    exact ⟨Nat.le_refl _, rfl, hD.kept hbw, Fr.of_below hbw _, gm, by simpa using ga, gr⟩
  case assign =>
    intro l x W K hK
    gi_wp2
    exact hK
  case body =>
    rintro l pre x W hI hlen
    obtain ⟨k, hk⟩ := x
    have hk64 : k * 64 < d.length := by unfold parts at hk; omega
    obtain ⟨ab, ao, rfl⟩ := hA (by omega)
    obtain ⟨ab', ao', e', hab, hcc⟩ := hr (by intro e; have := u8s_len d; rw [e] at this; simp at this; omega)
    cases e'
    have hAB := hB (by rintro rfl; simp at hk64) _ rfl
    obtain ⟨E, hE⟩ : ∃ E, E = min 64 (d.length - k * 64) := ⟨_, rfl⟩
    have hpv : partV (some ⟨ab, ao, none⟩) d.length k = .slice (some ⟨ab, ao + k * 64, none⟩) E E := by rw [hE]; rfl
    have hsrc : ∀ j u, (u8s ((d.drop (k * 64)).take 64))[j]? = some u → W.cell? ⟨ab, ao + k * 64 + j, none⟩ = some u := fun j u hu => by
      have hu2 : (u8s d)[k * 64 + j]? = some u := by
        rw [u8s_take, u8s_drop, List.getElem?_take] at hu
        split at hu
        · rw [List.getElem?_drop] at hu; exact hu
        · cases hu
      have hc := hcc (k * 64 + j) _ hu2
      have hbl : ab < w.heap.size := World.block_lt_of_cell? w _ hc
      rw [← Nat.add_assoc] at hc
      exact (World.cell?_of_block (hI.fr.block ab hbl (by simp; exact hAB))).trans hc
    have hcl : (u8s ((d.drop (k * 64)).take 64)).length = min E 64 := by rw [u8s_len, List.length_take, List.length_drop, hE]; omega
    have HSRC := Lib.hid (And.intro hsrc hcl)
    have hgq := (hI.fr.block q hq5 (by simp; exact hq)).trans h.blk
    have hmk := make64 W
    have HG := Lib.hid (And.intro (heap_alloc_new W (.cells (u8s zero64).toArray 5)) ((Below.refl _ W).alloc (Nat.le_refl _) (.cells (u8s zero64).toArray 5)))
    have hxs : a + pre.length < (laid a d M pre).2.size := by
      unfold laid; rw [(runOps_facts _ _).1]
      have hlen2 : pre.length < secs d.length := hlen
      omega
    have hfit' : Fit (laid a d M pre).2 (T + pre.length) 1 := by
      obtain ⟨f1, f2, f3, _⟩ := runOps_facts (wrs a (pre.map fun x => chunk d x.1)) M
      rw [wrs_len, List.length_map] at f2
      have hlen2 : pre.length < secs d.length := hlen
      exact ⟨by unfold laid; rw [f1]; exact hfit.size, by unfold laid; have := hfit.steps; omega, Nat.le_trans f3 hfit.left, by have := hfit.T; omega⟩
    have hsn := laid_snoc a d M pre ⟨k, hk⟩ hI.zero
    have HI := Lib.hid (And.intro hI (And.intro hgq (And.intro hsn (And.intro hlt (And.intro hq (And.intro h35 (And.intro h3a (And.intro h3b h3c))))))))
    have HW := Lib.hid (And.intro hxs hfit')
    have hpI : (pre.length : Int) ≤ 4096 := by have hlen2 : pre.length < secs d.length := hlen; unfold secs at hlen2; omega
    have haI : (a : Int) < 4096 := by omega
    clear hsn hxs hfit' hgq hsrc hcl hcc hAB hB hr hI hfit hs hA hk64 hq hlt hap h35 h3a h3b h3c hD gm ga gr gs gn hb3 hb5 hbw h hl hc hcm hE
    rw [hpv]
    clear hpv
    gi_wp2_with (first
      | (refine wpListIn_copy_splice rfl (.tmp 14) (.tmp 15) _ _ rfl 5 Try.underlying45 (by kernel_rfl) W.heap.size 64 64 ⟨ab, ao + k * 64, none⟩ E E rfl rfl (u8s zero64) _ HG.out.1 (u8s ((d.drop (k * 64)).take 64)) HSRC.out.2 (fun j u hu => by rw [plainAdd]; exact (HG.out.2.cell (p := ⟨ab, ao + k * 64 + j, none⟩) (World.block_lt_of_cell? W _ (HSRC.out.1 j u hu))).trans (HSRC.out.1 j u hu)) (by rw [HSRC.out.2, u8s_len, zero64_len]; omega) (u8s_one _) W.heap.size W HG.out.2 (Nat.le_refl _) ?_; intro w3 hg3 hb3))
    have hI := HI.out.1
    have hw3 : w.heap.size ≤ W.heap.size := hI.fr.size
    have hb5W : W5.heap.size ≤ W.heap.size := hI.big
    have hlt := HI.out.2.2.2.1
    have hg4 := hg3.out
    rw [splice_chunk] at hg4
    have hrc : Rd w3 w3.heap.size (some ⟨W.heap.size, 0, none⟩) (u8s (chunk d k)) := fun _ => ⟨_, 0, rfl, heap_lt hg4, fun j u hu => by
      rw [cell_of_row _ _ _ _ _ _ hg4]
      simpa using hu⟩
    have gq3 := (hb3.block q (heap_lt HI.out.2.1)).trans HI.out.2.1
    have gm3 := (hb3.block _ (heap_lt hI.bm)).trans hI.bm
    have ga3 := (hb3.block _ (heap_lt hI.ba)).trans hI.ba
    have gr3 := (hb3.block _ (heap_lt hI.br)).trans hI.br
    have c1 : w3.cell? ⟨w.heap.size, 0, none⟩ = some (.pointer (some ⟨q, 0, none⟩)) := cell_of_row w3 _ 0 _ _ _ gm3
    have c2 : w3.cell? ⟨w.heap.size + 1, 0, none⟩ = some (.int .i64 ((a : Int) + (pre.length : Int))) := cell_of_row w3 _ 0 _ _ _ ga3
    have c3 : w3.cell? ⟨q, 0, none⟩ = some (.pointer (some ⟨p, 0, none⟩)) := cell_of_row w3 q 0 _ _ _ gq3
    have hne : W.heap.size ≠ p := by omega
    have hcast : (((a + pre.length : Nat)) : Int) = (a : Int) + (pre.length : Int) := by omega
    have hF3 : Fr W w3.drew [p, bs, bw] := (Fr.of_below hb3 _).drew
    have hw1 := fun hd => writeL (w := w3.drew) (hI.disk.kept hb3).drew HW.out.2.ok hd HW.out.1 W.heap.size (chunk d k) (chunk_len64 d k) _ hrc.drew hne
    have hw2 := fun hd => writeD (w := w3.drew) (hI.disk.kept hb3).drew HW.out.2.ok hd HW.out.1 W.heap.size (chunk d k) (chunk_len64 d k) _ hrc.drew hne
    rw [hcast] at hw1 hw2
    have HB := Lib.hid (And.intro hF3 (And.intro gm3 (And.intro ga3 gr3)))
    clear hg3 hg4 hb3 hrc gq3 gm3 ga3 gr3 hI hne hcast hF3 HG HSRC hmk hlt
    cases hd : (laid a d M pre).2.dead with
    | true =>
      have HC := Lib.hid (hw2 hd)
      have HDD := Lib.hid hd
      clear hw1 hw2 hd
      gi_region_with (refine ⟨trivial, ?_⟩; gi_at_call 17; refine (CallsIn.inRound l (callsIn_wide.2 HC.out)).mono ?_; rintro e w4 ⟨rfl, hD4, hF4⟩)
      all_goals
        have hF : Fr W w4 [p, bs, bw] := HB.out.1.trans (hF4.mono (by simp))
        have hnp : ∀ z, w.heap.size ≤ z → z ∉ [p, bs, bw] := fun z hz => by
          have h := HI.out.2.2.2.1
          simp
          omega
        have hI := HI.out.1
        have ga4 : w4.heap[w.heap.size + 1]? = some (.cells #[.int .i64 ((a : Int) + (pre.length : Int))] 3 (0, 0)) := (hF.block _ (heap_lt hI.ba) (hnp _ (by omega))).trans hI.ba
        have gr4 : w4.heap[w.heap.size + 1 + 1]? = some (.cells #[.int .i64 0] 27 (0, 0)) := (hF.block _ (heap_lt hI.br) (hnp _ (by omega))).trans hI.br
        have gm4 := (hF.block _ (heap_lt hI.bm) (hnp _ (Nat.le_refl _))).trans hI.bm
        have d2 : w4.cell? ⟨w.heap.size + 1, 0, none⟩ = some (.int .i64 ((a : Int) + (pre.length : Int))) := cell_of_row w4 _ 0 _ _ _ ga4
        have d3 : w4.cell? ⟨w.heap.size + 1 + 1, 0, none⟩ = some (.int .i64 0) := cell_of_row w4 _ 0 _ _ _ gr4
        have e2 : w4.frozen? ⟨w.heap.size + 1, 0, none⟩ = false := frozen_of_row w4 _ 0 _ _ ga4
        have e3 : w4.frozen? ⟨w.heap.size + 1 + 1, 0, none⟩ = false := frozen_of_row w4 _ 0 _ _ gr4
        have HF := Lib.hid (And.intro hF (And.intro hnp (And.intro hD4 (And.intro ga4 (And.intro gr4 gm4)))))
        clear hF hnp hI ga4 gr4 gm4 hD4 hF4 c1 c2 c3
        gi_wp2
        have hx := HI.out
        have hf := HF.out
        have hS : ∀ s ∈ [p, bs, bw, w.heap.size + 1, w.heap.size + 1 + 1], s < W5.heap.size := fun s hs => by
          simp at hs
          omega
        have hFd : Fr W (w4.setCell ⟨w.heap.size + 1 + 1, 0, none⟩ (.int .i64 30)) [p, bs, bw, w.heap.size + 1, w.heap.size + 1 + 1] := (hf.1.mono (by simp <;> omega)).setCell (p := ⟨w.heap.size + 1 + 1, 0, none⟩) (by simp) _
        refine ⟨keeps_fr hFd hS, rfl, ?_, ?_, ?_, ?_⟩
        · rw [hx.2.2.1, if_pos HDD.out]
        · rw [hx.2.2.1, if_pos HDD.out, List.length_append]
          exact (hf.2.2.1.fr ((Fr.refl w4 [w.heap.size + 1 + 1]).setCell (p := ⟨w.heap.size + 1 + 1, 0, none⟩) (by simp) _) (by simp <;> omega) (by simp <;> omega) (by simp <;> omega))
        · exact (hx.1.fr.trans hf.1).more ((Fr.refl w4 [w.heap.size + 1 + 1]).setCell (p := ⟨w.heap.size + 1 + 1, 0, none⟩) (by simp) _) (by simp <;> omega)
        · have := heap_setCell_same w4 (w.heap.size + 1 + 1) 0 _ _ (.int .i64 30) hf.2.2.2.2.1
          simpa using this
    | false =>
      have HC := Lib.hid (hw1 hd)
      have HDD := Lib.hid hd
      clear hw1 hw2 hd
      gi_region_with (refine ⟨trivial, ?_⟩; gi_at_call 17; refine (CallsIn.inRound l (callsIn_wide.2 HC.out)).mono ?_; rintro e w4 ⟨rfl, hD4, hF4⟩)
      all_goals
        have hF : Fr W w4 [p, bs, bw] := HB.out.1.trans (hF4.mono (by simp))
        have hnp : ∀ z, w.heap.size ≤ z → z ∉ [p, bs, bw] := fun z hz => by
          have h := HI.out.2.2.2.1
          simp
          omega
        have hI := HI.out.1
        have ga4 : w4.heap[w.heap.size + 1]? = some (.cells #[.int .i64 ((a : Int) + (pre.length : Int))] 3 (0, 0)) := (hF.block _ (heap_lt hI.ba) (hnp _ (by omega))).trans hI.ba
        have gr4 : w4.heap[w.heap.size + 1 + 1]? = some (.cells #[.int .i64 0] 27 (0, 0)) := (hF.block _ (heap_lt hI.br) (hnp _ (by omega))).trans hI.br
        have gm4 := (hF.block _ (heap_lt hI.bm) (hnp _ (Nat.le_refl _))).trans hI.bm
        have d2 : w4.cell? ⟨w.heap.size + 1, 0, none⟩ = some (.int .i64 ((a : Int) + (pre.length : Int))) := cell_of_row w4 _ 0 _ _ _ ga4
        have d3 : w4.cell? ⟨w.heap.size + 1 + 1, 0, none⟩ = some (.int .i64 0) := cell_of_row w4 _ 0 _ _ _ gr4
        have e2 : w4.frozen? ⟨w.heap.size + 1, 0, none⟩ = false := frozen_of_row w4 _ 0 _ _ ga4
        have e3 : w4.frozen? ⟨w.heap.size + 1 + 1, 0, none⟩ = false := frozen_of_row w4 _ 0 _ _ gr4
        have HF := Lib.hid (And.intro hF (And.intro hnp (And.intro hD4 (And.intro ga4 (And.intro gr4 gm4)))))
        clear hF hnp hI ga4 gr4 gm4 hD4 hF4 c1 c2 c3
        gi_wp2
        have hx := HI.out
        have hf := HF.out
        have hS : ∀ s ∈ [p, bs, bw, w.heap.size + 1], s < W5.heap.size := fun s hs => by
          simp at hs
          omega
        have hFs : Fr w4 (w4.setCell ⟨w.heap.size + 1, 0, none⟩ (.int .i64 ((a : Int) + (pre.length : Int) + 1))) [w.heap.size + 1] := (Fr.refl w4 [w.heap.size + 1]).setCell (p := ⟨w.heap.size + 1, 0, none⟩) (by simp) _
        have hFd : Fr W (w4.setCell ⟨w.heap.size + 1, 0, none⟩ (.int .i64 ((a : Int) + (pre.length : Int) + 1))) [p, bs, bw, w.heap.size + 1] := (hf.1.mono (by simp <;> omega)).trans (hFs.mono (by simp))
        refine ⟨keeps_fr hFd hS, kpB_fr hFd (by have := hx.1.big; omega) (by have := hx.1.big; omega) (by simp <;> omega) (by simp <;> omega), ?_, ?_, ?_, ?_, ?_, ?_, ?_⟩
        · exact Nat.le_trans hx.1.big hFd.size
        · rw [hx.2.2.1, if_neg (by simp [HDD.out])]
        · rw [hx.2.2.1, if_neg (by simp [HDD.out]), List.length_append]
          exact hf.2.2.1.fr hFs (by simp <;> omega) (by simp <;> omega) (by simp <;> omega)
        · exact (hx.1.fr.trans hf.1).more hFs (by simp <;> omega)
        · exact (hFs.block _ (heap_lt hf.2.2.2.2.2) (by simp)).trans hf.2.2.2.2.2
        · have := heap_setCell_same w4 (w.heap.size + 1) 0 _ _ (.int .i64 ((a : Int) + (pre.length : Int) + 1)) hf.2.2.2.1
          rw [List.length_append]
          simpa [Int.add_assoc] using this
        · exact (hFs.block _ (heap_lt hf.2.2.2.2.1) (by simp)).trans hf.2.2.2.2.1
  case done =>
    rintro D ys W hDs rfl hI hK
    have hgq := (hI.fr.block q hq5 (by simp; exact hq)).trans h.blk
    have c1 : W.cell? ⟨w.heap.size, 0, none⟩ = some (.pointer (some ⟨q, 0, none⟩)) := cell_of_row W _ 0 _ _ _ hI.bm
    have c3 : W.cell? ⟨q, 0, none⟩ = some (.pointer (some ⟨p, 0, none⟩)) := cell_of_row W q 0 _ _ _ hgq
    have hall : (laid a d M (List.finRange (parts d.length))) = runOps (wrs a (chunks d)) M := by unfold laid; rw [laid_all]
    have hlen : (List.finRange (parts d.length)).length = secs d.length := by rw [List.length_finRange]; rfl
    have hfit' : Fit (laid a d M (List.finRange (parts d.length))).2 (T + secs d.length) 1 := by
      rw [hall]
      obtain ⟨f1, f2, f3, _⟩ := runOps_facts (wrs a (chunks d)) M
      rw [wrs_len, chunks_len] at f2
      exact ⟨by rw [f1]; exact hfit.size, by have := hfit.steps; omega, Nat.le_trans f3 hfit.left, by have := hfit.T; omega⟩
    have hzero := hI.zero
    have hDk := hI.disk
    rw [hlen] at hDk
    rw [hall] at hzero hDk hfit'
    have hfl := flushR hDk hfit'.ok
    have HC := Lib.hid hfl
    have HH := Lib.hid (And.intro hI (And.intro hzero (And.intro hlt (And.intro hK (And.intro h35 hDs)))))
    clear hfl hDk hfit' hall hlen
    clear hI hzero hlt hK hgq
    clear hr hB hc hcm hs hfit hap hA gm ga gr gs gn hb3 hb5 hbw
    gi_wp2_with (refine ⟨trivial, ?_⟩; gi_at_call 73; refine (callsIn_wide.2 HC.out).mono ?_; rintro e w6 ⟨rfl, hD6, hF6⟩; have gr6 := (hF6.block _ (heap_lt HH.out.1.br) (by have := HH.out.2.2.1; simp <;> omega)).trans HH.out.1.br; have d3 : w6.cell? ⟨w.heap.size + 1 + 1, 0, none⟩ = some (.int .i64 0) := cell_of_row w6 _ 0 _ _ _ gr6; have e3 : w6.frozen? ⟨w.heap.size + 1 + 1, 0, none⟩ = false := frozen_of_row w6 _ 0 _ _ gr6; have HG := Lib.hid gr6; clear gr6)
    have hx := HH.out
    have hKD : (w6.setCell ⟨w.heap.size + 1 + 1, 0, none⟩ (.int .i64 (runOps [none] (runOps (wrs a (chunks d)) M).2).1)).heap[D]? = some (.deferred (some [])) := by
      rw [Below.heap_setCell _ _ _ _ (by simp <;> omega)]
      exact (hF6.block D (heap_lt hx.2.2.2.1) (by simp <;> omega)).trans hx.2.2.2.1
    have hop : runOps (layOps a d) M = runOps [none] (runOps (wrs a (chunks d)) M).2 := by
      unfold layOps
      rw [runOps_append, if_pos hx.2.1]
    have gr7 := heap_setCell_same w6 (w.heap.size + 1 + 1) 0 _ _ (.int .i64 (runOps [none] (runOps (wrs a (chunks d)) M).2).1) HG.out
    refine ⟨by simp, .inl ⟨_, _, rfl, run_takeDeferred hKD, ?_⟩⟩
    generalize hW7 : w6.setCell ⟨w.heap.size + 1 + 1, 0, none⟩ (.int .i64 (runOps [none] (runOps (wrs a (chunks d)) M).2).1) = W7 at gr7 hKD ⊢
    have hf7 : Fr w6 W7 [w.heap.size + 1 + 1] := by rw [← hW7]; exact (Fr.refl _ _).setCell (p := ⟨w.heap.size + 1 + 1, 0, none⟩) (by simp) _
    have hf8 : Fr W7 (W7.putObj D (.deferred none)) [D] := Fr.of_grown (grownBy_putObj' _ _ _)
    have gr8 : (W7.putObj D (.deferred none)).heap[w.heap.size + 1 + 1]? = some (.cells #[.int .i64 (runOps [none] (runOps (wrs a (chunks d)) M).2).1] 27 (0, 0)) := by
      rw [hf8.block _ (heap_lt gr7) (by simp <;> omega)]; simpa using gr7
    have hf9 : Fr w (W7.putObj D (.deferred none)) [p, bs, bw] := ((hx.1.fr.trans hF6).more hf7 (by simp <;> omega)).more hf8 (by simp <;> omega)
    have hD9 := (hD6.fr hf7 (by simp <;> omega) (by simp <;> omega) (by simp <;> omega)).fr hf8 (by simp <;> omega) (by simp <;> omega) (by simp <;> omega)
    refine ⟨_, resLay (cell_of_row _ _ 0 _ _ _ gr8) _ rfl, by rw [hop]; rfl, ?_, hf9⟩
    rw [hop]
    unfold layOps
    rw [List.length_append, wrs_len, chunks_len]
    exact hD9
  case stop =>
    rintro D c pre W hDs ⟨k, hk, rfl⟩ ⟨rfl, hX⟩ hK
    have hlen : k ≤ secs d.length := hk
    have hfl : (firsts d.length k).length = k := firsts_len _ _ hk
    have hXd := hX.dead
    have hXD := hX.disk
    rw [hfl] at hXD
    have hXf := hX.fr
    have hXr := hX.br
    clear hX
    have hop : runOps (layOps a d) M = laid a d M (firsts d.length k) := by
      unfold laid at hXd ⊢
      rw [laid_firsts] at hXd ⊢
      unfold layOps
      have e : wrs a (chunks d) ++ [none] = (wrs a (chunks d)).take k ++ ((wrs a (chunks d)).drop k ++ [none]) := by rw [← List.append_assoc, List.take_append_drop]
      rw [e, runOps_append, if_neg (by rw [hXd]; decide)]
    have HX := Lib.hid (And.intro hXd (And.intro hXD (And.intro hXf (And.intro hXr (And.intro hop (And.intro hK (And.intro h35 (And.intro hDs (And.intro hlt hlen)))))))))
    clear hXd hXD hXf hXr hop hK hfl hlen hr hB hc hcm hs hfit hap hA gm ga gr gs gn hb3 hb5 hbw h35 hDs hlt
    gi_wp2
    have hx := HX.out
    refine ⟨by simp, .inl ⟨_, _, rfl, run_takeDeferred hx.2.2.2.2.2.1, ?_⟩⟩
    have hf8 : Fr W (W.putObj D (.deferred none)) [D] := Fr.of_grown (grownBy_putObj' _ _ _)
    have gr8 : (W.putObj D (.deferred none)).heap[w.heap.size + 1 + 1]? = some (.cells #[.int .i64 30] 27 (0, 0)) := by
      rw [hf8.block _ (heap_lt hx.2.2.2.1) (by simp <;> omega)]; exact hx.2.2.2.1
    refine ⟨_, resLay (cell_of_row _ _ 0 _ _ _ gr8) _ rfl, ?_, ?_, hx.2.2.1.more hf8 (by simp <;> omega)⟩
    · rw [hx.2.2.2.2.1, hx.1]; rfl
    · rw [hx.2.2.2.2.1]
      unfold layOps
      rw [List.length_append, wrs_len, chunks_len]
      exact (hx.2.1.fr hf8 (by simp <;> omega) (by simp <;> omega) (by simp <;> omega)).mono (by simp; omega)
end
end Go.Proofs.Ytdjcpjfomgfjlaa
