/- A tree's nodes in memory; bytes.Compare, bytes.Clone; pairs, height. -/
import Derived.Test.YtklhfegdjadgdaaFr
import Derived.Test.YtklhfegdjadgdaaTreP
import Derived.Test.YtklhfegdjadgdaaTreA2
import Derived.Lib.BytesEntry
import Derived.Laws.Entries
namespace Go.Proofs.Ytklhfegdjadgdaa
open Go.RowKit Go.Maps

theorem run_loadB {P : Program} (w : World) : ∀ (l : List UInt8) (a : Addr) (acc : ByteArray), (∀ j x, l[j]? = some x → w.cell? (a.add j) = some (.int .u8 (x.toNat : Int))) →
    (Extern.Bytes.loadBytes a l.length acc).run P w = .ok ⟨acc.data ++ l.toArray⟩ w
  | [], a, acc, _ => by simp [Extern.Bytes.loadBytes]
  | x :: l, a, acc, h => by
    have h0 : w.cell? a = some (.int .u8 (x.toNat : Int)) := by
      have := h 0 x rfl
      simpa [Addr.add] using this
    have ih := run_loadB (P := P) w l (a.add 1) (acc.push x) (fun j y hy => by
      have := h (j + 1) y (by simpa using hy)
      rw [addAdd, Nat.add_comm 1 j]; exact this)
    simp only [List.length_cons, Extern.Bytes.loadBytes, Sem.run_bind, run_load, h0, Result.andThen]
    have e : ((x.toNat : Int)).toNat.toUInt8 = x := by simp
    rw [e, ih]
    congr 1
    apply ByteArray.ext
    simp [ByteArray.push]
theorem run_bytesOf {P : Program} {w : World} {B : Nat} {A : Option Addr} {l : List UInt8} (c : Nat) (h : Rd w B A (u8s l)) : (Extern.Bytes.bytesOf (.slice A l.length c)).run P w = .ok ⟨l.toArray⟩ w := by
  rcases A with _ | a
  · cases l with
    | nil => rfl
    | cons x l =>
      obtain ⟨b, o, e, _⟩ := h (by simp [u8s])
      cases e
  · show (Extern.Bytes.loadBytes a l.length .empty).run P w = _
    rw [run_loadB w l a .empty (fun j x hj => by
      obtain ⟨b, o, e, _, hc⟩ := h (by intro e; have := congrArg List.length e; rw [u8s_len] at this; simp at this; subst this; simp at hj)
      cases e
      rw [plainAdd]
      exact hc j _ (by simp [u8s, hj]))]
    simp
theorem run_compare {P : Program} {w : World} {B B' : Nat} {A A' : Option Addr} {l k : List UInt8} (c c' : Nat) (h : Rd w B A (u8s l)) (h' : Rd w B' A' (u8s k)) :
    (Extern.BytealgCompare.compare #[.slice A l.length c, .slice A' k.length c']).run P w = .ok (.int .i64 (cmpB l k)) w := by
  change Sem.run P (do pure (goInt (Extern.BytealgCompare.cmp (← Extern.Bytes.bytesOf (.slice A l.length c)) (← Extern.Bytes.bytesOf (.slice A' k.length c'))))) w = _
  simp only [Sem.run_bind, run_bytesOf c h, run_bytesOf c' h', Result.andThen, Sem.run_pure]
  rw [Lib.cmp_eq]
  rfl
set_option maxRecDepth 100000 in
theorem compare_any (A A' : Option Addr) (l k : List UInt8) (c c' B B' : Nat) (w : World) (h : Rd w B A (u8s l)) (h' : Rd w B' A' (u8s k)) :
    Calls Try.prog 26 #[.slice A l.length c, .slice A' k.length c'] w fun e w' => e = .returned (.int .i64 (cmpB l k)) ∧ w = w' := by
  have hr := run_compare (P := Try.prog) c c' h h'
  clear h h'
  go_enter Try.func26, Try.ntmps26
  go_wp2
  rw [run_callFunc_extern Try.func33 (by kernel_rfl) (by kernel_rfl) (by kernel_rfl) (e := Extern.BytealgCompare.compare) (by kernel_rfl), hr]
  simp only [Result.andThen]
  rw [Oper.upon_value]
  go_wp2
  go_ret
  exact ⟨rfl, rfl⟩
/-- Bytes that lie in a block of bytes of which none is frozen. -/
def DataZ (w : World) (A : Option Addr) (l : List UInt8) : Prop := Rd w w.heap.size A (u8s l) ∧ ∀ a, A = some a → ∃ cs, w.heap[a.block]? = some (.cells cs 5 (0, 0))
theorem DataZ.fr {w w' : World} {A : Option Addr} {l : List UInt8} {S : List Nat} (h : DataZ w A l) (hf : Fr w w' S) (hS : ∀ s ∈ S, NoBytes w s) : DataZ w' A l := by
  have hns : ∀ a, A = some a → a.block ∉ S ∧ a.block < w.heap.size := fun a ha => by
    obtain ⟨cs, hg⟩ := h.2 a ha
    exact ⟨fun hm => hS _ hm cs _ hg, heap_lt hg⟩
  refine ⟨fun hn => ?_, fun a ha => ?_⟩
  · obtain ⟨b, o, e, hb, hc⟩ := h.1 hn
    have := hns _ e
    exact ⟨b, o, e, Nat.lt_of_lt_of_le hb hf.size, fun j u hu => (World.cell?_of_block (hf.block b hb this.1)).trans (hc j u hu)⟩
  · obtain ⟨cs, hg⟩ := h.2 a ha
    exact ⟨cs, (hf.block _ (hns a ha).2 (hns a ha).1).trans hg⟩
/-- Bytes that lie in a block of bytes, no longer than may be. -/
def Bs.ok (w : World) (r : Bs) : Prop := DataZ w r.A r.l ∧ r.l.length ≤ r.c ∧ r.c ≤ 9223372036854775807 ∧ r.l.length ≤ 1000000
theorem Bs.ok.fr {w w' : World} {r : Bs} {S : List Nat} (h : r.ok w) (hf : Fr w w' S) (hS : ∀ s ∈ S, NoBytes w s) : r.ok w' := ⟨h.1.fr hf hS, h.2⟩
theorem Bs.ok.below {w w' : World} {r : Bs} (h : r.ok w) (hb : Below w.heap.size w w') : r.ok w' := h.fr (Fr.of_below hb []) (by simp)
theorem ownB_data {w : World} {base : Nat} {v : Value} {l : List UInt8} (h : OwnB w base 5 v l) (hl : l.length ≤ 1000000) : ∃ r : Bs, r.l = l ∧ v = (Value.slice r.A r.l.length r.c) ∧ r.ok w := by
  obtain ⟨A, c, rfl, h1, h2, h3, h4⟩ := h.shape
  refine ⟨⟨A, l, c⟩, rfl, rfl, ⟨h3, fun a ha => ?_⟩, h1, by unfold maxLen at h2; show c ≤ _; omega, hl⟩
  subst ha
  rcases h.2 with ⟨hv, _⟩ | ⟨g, cap, cur, hv, _, hgg, _⟩
  · cases hv
  · cases hv
    exact ⟨_, hgg⟩
set_option maxRecDepth 100000 in
/-- bytes.Clone. -/
theorem clone_any (r : Bs) (B : Nat) (w : World) (hr : Rd w B r.A (u8s r.l)) (hB : B ≤ w.heap.size) (hl : r.l.length ≤ 1000000) :
    Calls Try.prog 29 #[(Value.slice r.A r.l.length r.c)] w fun e w' => ∃ r' : Bs, e = .returned (Value.slice r'.A r'.l.length r'.c) ∧ r'.l = r.l ∧ r'.ok w' ∧ (∀ a, r'.A = some a → w.heap.size ≤ a.block) ∧ Below w.heap.size w w' := by
  obtain ⟨A, l, c⟩ := r
  show Calls Try.prog 29 #[.slice A l.length c] w _
  simp only at hr hl
  rcases A with _ | p
  · have q26 : ∀ (w : World) (a : Option Addr) (n c n' c' : Nat), (binOp .eql 27 (.slice a n c) (.slice none n' c')).run Try.prog w = .ok (.bool a.isNone) w := fun w a n c n' c' => Lib.run_eql_slice_nil w _ _ a n c n' c' Try.underlying27
    have e0 : l = [] := by
      cases l with
      | nil => rfl
      | cons x l =>
        obtain ⟨b, o, e, _⟩ := hr (by simp [u8s])
        cases e
    subst e0
    clear hr
    go_enter Try.func29, Try.ntmps29
    go_wp2
    go_ret
    exact ⟨⟨none, [], 0⟩, rfl, rfl, ⟨⟨Rd.emp _ _ _, (fun a ha => by cases ha)⟩, by simp, by simp, by simp⟩, (fun a ha => by cases ha), Below.refl _ _⟩
  · obtain ⟨i0, hi, hz0, hz1, hz2⟩ := info_parts infoU8
    have q26 : ∀ (w : World) (a : Option Addr) (n c n' c' : Nat), (binOp .eql 27 (.slice a n c) (.slice none n' c')).run Try.prog w = .ok (.bool a.isNone) w := fun w a n c n' c' => Lib.run_eql_slice_nil w _ _ a n c n' c' Try.underlying27
    go_enter Try.func29, Try.ntmps29
    go_wp2_with (at_builtin; refine wpList_appB _ rfl (.tmp 5) (.tmp 6) _ rfl w.heap.size 5 i0 _ Try.underlying27 hi hz0 hz1 hz2 rfl (.slice (some ⟨w.heap.size, 0, none⟩) 0 0) [] rfl (OwnB.lit0 w (Nat.le_refl _)) B (some p) l.length c l rfl rfl (hr.alloc hB _) (by simp; omega) (by simp) ?_; intro v1 w1 hown1 hg1 hat1)
    have hb1 : Below w.heap.size w w1 := ((Below.refl _ _).alloc (Nat.le_refl _) _).grown hg1 (by simp) (by intro k hk; simp [Value.ownBlock] at hk; omega)
    go_ret
    have hown : OwnB w1 w.heap.size 5 v1 l := by simpa using hown1
    obtain ⟨r', h1, h2, h3⟩ := ownB_data hown hl
    obtain ⟨A', c', h4, _, _, _, h5⟩ := hown.shape
    subst h2
    refine ⟨r', rfl, h1, h3, fun a ha => h5 a ?_, hb1⟩
    injection h4 with h6
    rw [← h6, ha]

/-! Nodes. -/
def Tn.adr : Tn → Option Addr
  | .nil => none
  | .node b _ _ _ _ => some ⟨b, 0, none⟩
def nodeC (k x : Bs) (l r : Tn) (s d : Int) : Array Value := #[(Value.slice k.A k.l.length k.c), (Value.slice x.A x.l.length x.c), (.pointer l.adr), (.pointer r.adr), .int .i64 s, .int .i64 d]
/-- The nodes lie in a world. -/
def Tn.At (w : World) : Tn → Prop
  | .nil => True
  | .node b k x l r => w.heap[b]? = some (.cells (nodeC k x l r ((Tn.node b k x l r).num : Int) ((Tn.node b k x l r).ht : Int)) 64 (0, 0)) ∧ k.ok w ∧ x.ok w ∧ l.At w ∧ r.At w
theorem Tn.At.lt {w : World} {t : Tn} (h : t.At w) : ∀ b ∈ t.blks, b < w.heap.size ∧ NoBytes w b := by
  induction t with
  | nil => intro b hb; cases hb
  | node b k x l r hl hr =>
    obtain ⟨h1, _, _, h2, h3⟩ := h
    intro c hc
    simp only [Tn.blks, List.mem_cons, List.mem_append] at hc
    rcases hc with rfl | hc | hc
    · exact ⟨heap_lt h1, fun cs fr hg => by rw [h1] at hg; cases hg⟩
    · exact hl h2 c hc
    · exact hr h3 c hc
theorem Tn.At.fr {w w' : World} {t : Tn} {S : List Nat} (h : t.At w) (hf : Fr w w' S) (hS : ∀ s ∈ S, NoBytes w s) (hb : ∀ b ∈ t.blks, b ∉ S) : t.At w' := by
  induction t with
  | nil => trivial
  | node b k x l r hl hr =>
    obtain ⟨h1, h2, h3, h4, h5⟩ := h
    simp only [Tn.blks, List.mem_cons, List.mem_append] at hb
    exact ⟨(hf.block b (heap_lt h1) (hb b (.inl rfl))).trans h1, h2.fr hf hS, h3.fr hf hS, hl h4 (fun c hc => hb c (.inr (.inl hc))), hr h5 (fun c hc => hb c (.inr (.inr hc)))⟩
theorem Tn.At.below {w w' : World} {t : Tn} (h : t.At w) (hb : Below w.heap.size w w') : t.At w' := h.fr (Fr.of_below hb []) (by simp) (by simp)
theorem Tn.At.drew {w : World} {t : Tn} (h : t.At w) : t.At w.drew := h.below (Below.refl _ _).drew
set_option maxRecDepth 100000 in
theorem pairs_any (t : Tn) (w : World) (h : t.At w) : Calls Try.prog 23 #[(.pointer t.adr)] w fun e w' => e = .returned (.int .i64 (t.num : Int)) ∧ w = w' := by
  cases t with
  | nil =>
    clear h
    unfold Tn.adr
    go_enter Try.func23, Try.ntmps23
    go_wp2
    go_ret
    exact ⟨rfl, rfl⟩
  | node b k x l r =>
    obtain ⟨h1, _⟩ := h
    unfold nodeC at h1
    have a4 := cell_of_row w b 4 _ _ _ h1
    clear h1
    unfold Tn.adr
    go_enter Try.func23, Try.ntmps23
    go_wp2
    go_ret
    exact ⟨rfl, rfl⟩
set_option maxRecDepth 100000 in
theorem height_any (t : Tn) (w : World) (h : t.At w) : Calls Try.prog 27 #[(.pointer t.adr)] w fun e w' => e = .returned (.int .i64 (t.ht : Int)) ∧ w = w' := by
  cases t with
  | nil =>
    clear h
    unfold Tn.adr
    go_enter Try.func27, Try.ntmps27
    go_wp2
    go_ret
    exact ⟨rfl, rfl⟩
  | node b k x l r =>
    obtain ⟨h1, _⟩ := h
    unfold nodeC at h1
    have a5 := cell_of_row w b 5 _ _ _ h1
    clear h1
    unfold Tn.adr
    go_enter Try.func27, Try.ntmps27
    go_wp2
    go_ret
    exact ⟨rfl, rfl⟩
end Go.Proofs.Ytklhfegdjadgdaa
