/- Records in memory; readAll. -/
import Derived.Test.YtdiafgjlbbkhkaaLogM
namespace Go.Proofs.Ytdiafgjlbbkhkaa
open Go.RowKit Go.Maps

theorem infoRec : (Try.prog.info? 80).map (fun i => (i.zero, i.size, i.bytes)) = some (some (.agg #[.int .i64 0, .slice none 0 0]), 2, 32) := by kernel_rfl
/-- Bytes that lie in a block of bytes. -/
def DataAt (w : World) (A : Option Addr) (l : List UInt8) : Prop := Rd w w.heap.size A (u8s l) ∧ ∀ a, A = some a → ∃ cs fr, w.heap[a.block]? = some (.cells cs 5 fr)
/-- A block that holds no bytes. -/
def NoBytes (w : World) (b : Nat) : Prop := ∀ cs fr, w.heap[b]? ≠ some (.cells cs 5 fr)
theorem DataAt.fr {w w' : World} {A : Option Addr} {l : List UInt8} {S : List Nat} (h : DataAt w A l) (hf : Fr w w' S) (hS : ∀ s ∈ S, NoBytes w s) : DataAt w' A l := by
  have hns : ∀ a, A = some a → a.block ∉ S ∧ a.block < w.heap.size := fun a ha => by
    obtain ⟨cs, fr, hg⟩ := h.2 a ha
    exact ⟨fun hm => hS _ hm cs fr hg, heap_lt hg⟩
  refine ⟨fun hn => ?_, fun a ha => ?_⟩
  · obtain ⟨b, o, e, hb, hc⟩ := h.1 hn
    have := hns _ e
    exact ⟨b, o, e, Nat.lt_of_lt_of_le hb hf.size, fun j u hu => (World.cell?_of_block (hf.block b hb this.1)).trans (hc j u hu)⟩
  · obtain ⟨cs, fr, hg⟩ := h.2 a ha
    exact ⟨cs, fr, (hf.block _ (hns a ha).2 (hns a ha).1).trans hg⟩
theorem noBytes_own {w : World} {base size n : Nat} {e : TypeId} {v : Value} {xs : List Value} (h : w.ownsRow base e size v n xs) (he : e ≠ 5) : ∀ s ∈ v.ownBlock.toList, NoBytes w s := by
  intro s hs cs fr hg
  rcases h.2 with ⟨hv, _⟩ | ⟨g, cap, cur, hv, _, hgg, _⟩
  · rw [hv] at hs; simp [Value.ownBlock] at hs
  · rw [hv] at hs
    simp [Value.ownBlock] at hs
    subst hs
    rw [hgg] at hg
    cases hg
    exact he rfl
theorem noBytes_log {w : World} {base q p : Nat} {L : LG} {v : Value} (h : LogAt w base q p L v) : NoBytes w q := by
  intro cs fr hg
  rw [h.blk] at hg
  cases hg
theorem own_apart {w : World} {b1 b2 s1 s2 n1 n2 : Nat} {e1 e2 : TypeId} {v1 v2 : Value} {x1 x2 : List Value} (h1 : w.ownsRow b1 e1 s1 v1 n1 x1) (h2 : w.ownsRow b2 e2 s2 v2 n2 x2) (he : e1 ≠ e2) : ∀ s ∈ v1.ownBlock.toList, s ∉ v2.ownBlock.toList := by
  intro s hs hs2
  rcases h1.2 with ⟨hv, _⟩ | ⟨g, cap, cur, hv, _, hgg, _⟩
  · rw [hv] at hs; simp [Value.ownBlock] at hs
  · rcases h2.2 with ⟨hv2, _⟩ | ⟨g2, cap2, cur2, hv2, _, hgg2, _⟩
    · rw [hv2] at hs2; simp [Value.ownBlock] at hs2
    · rw [hv] at hs
      rw [hv2] at hs2
      simp [Value.ownBlock] at hs hs2
      subst hs hs2
      rw [hgg] at hgg2
      cases hgg2
      exact he rfl
theorem rowFrS {w w' : World} {base size n : Nat} {e : TypeId} {v : Value} {xs : List Value} {S : List Nat} (h : w.ownsRow base e size v n xs) (hf : Fr w w' S) (hS : ∀ s ∈ v.ownBlock.toList, s ∉ S) : w'.ownsRow base e size v n xs := by
  refine ⟨h.1, ?_⟩
  rcases h.2 with h2 | ⟨g, cap, cur, hv, hg, hgg, r⟩
  · exact .inl h2
  · refine .inr ⟨g, cap, cur, hv, hg, ?_, r⟩
    rw [hf.block g (Array.getElem?_eq_some_iff.1 hgg).1 (hS g (by rw [hv]; simp [Value.ownBlock]))]
    exact hgg
/-- A record in memory. -/
structure RecR where
  s : Nat
  A : Option Addr
  d : List UInt8
  c : Nat
def RecR.cells (r : RecR) : List Value := [.int .i64 (r.s : Int), .slice r.A r.d.length r.c]
def recC (R : List RecR) : List Value := R.flatMap RecR.cells
theorem recC_len (R : List RecR) : (recC R).length = R.length * 2 := by
  induction R with
  | nil => rfl
  | cons a R ih => simp only [recC, List.flatMap_cons, List.length_append] at ih ⊢; rw [ih]; simp [RecR.cells]; omega
/-- Records that lie in a row of the call's own. -/
structure RecsAt (w : World) (lo : Nat) (u : Value) (rs : List Rec) : Prop where
  ex : ∃ R : List RecR, R.map (fun r => (r.s, r.d)) = rs ∧ w.ownsRow lo 80 2 u R.length (recC R) ∧ ∀ r ∈ R, DataAt w r.A r.d
theorem RecsAt.fr {w w' : World} {lo : Nat} {u : Value} {rs : List Rec} {S : List Nat} (h : RecsAt w lo u rs) (hf : Fr w w' S) (hS : ∀ s ∈ S, NoBytes w s) (hu : ∀ s ∈ u.ownBlock.toList, s ∉ S) : RecsAt w' lo u rs := by
  obtain ⟨R, h1, h2, h3⟩ := h.ex
  exact ⟨R, h1, rowFrS h2 hf hu, fun r hr => (h3 r hr).fr hf hS⟩
theorem RecsAt.below {w w' : World} {lo : Nat} {u : Value} {rs : List Rec} (h : RecsAt w lo u rs) (hb : Below w.heap.size w w') : RecsAt w' lo u rs := h.fr (Fr.of_below hb []) (by simp) (by simp)
def LG.of (first behind : Nat) (rs : List Rec) : LG := ⟨first, behind, rs, (nextR none rs).getD 1⟩
theorem nextR_snoc (rs : List Rec) (s : Nat) (d : List UInt8) : nextR none (rs ++ [(s, d)]) = some (s + 1) := by rw [nextR_append]; rfl
theorem of_add (first behind : Nat) (rs : List Rec) (s : Nat) (d : List UInt8) : (LG.of first behind rs).add s d = LG.of first behind (rs ++ [(s, d)]) := by
  unfold LG.of LG.add
  rw [nextR_snoc]
  rfl
theorem nextR_some {rs : List Rec} (h : rs ≠ []) : nextR none rs = some ((LG.of 0 0 rs).next) := by
  have : ∀ (rs : List Rec) (nx : Option Nat), rs ≠ [] → ∃ x, nextR nx rs = some x := by
    intro rs
    induction rs with
    | nil => intro nx h; exact absurd rfl h
    | cons y r ih =>
      obtain ⟨s, d⟩ := y
      intro nx _
      by_cases hr : r = []
      · subst hr; exact ⟨s + 1, rfl⟩
      · exact ih (some (s + 1)) hr
  obtain ⟨x, hx⟩ := this rs none h
  unfold LG.of
  rw [hx]
  rfl
end Go.Proofs.Ytdiafgjlbbkhkaa
