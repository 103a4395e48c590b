/- The document's answer for uses: what its Clean stands on. -/
import Derived.Test.YtdfdgpobohpphaaRuE
import Derived.Test.YtdfdgpobohpphaaUsS
namespace Go.Proofs.Ytdfdgpobohpphaa
open Go.RowKit Go.Maps
set_option linter.unusedVariables false
set_option linter.unusedSimpArgs false
set_option maxRecDepth 100000
set_option maxHeartbeats 2000000

/-- The blocks from lo on, ahead of hi, without one of them; Q asks nothing else. -/
def rngx (lo hi : Nat) (ex : Option Nat) (Q : World → Prop) : As :=
  ⟨fun k => if lo ≤ k ∧ k < hi ∧ ex ≠ some k then 1 else 0, fun w => (∀ k, lo ≤ k → k < hi → ex ≠ some k → k < w.heap.size) ∧ ∀ u, (∀ k, lo ≤ k → k < hi → ex ≠ some k → u.heap[k]? = w.heap[k]?) → Q u,
    fun w w' h hk => by
      have hk' : ∀ k, lo ≤ k → k < hi → ex ≠ some k → w'.heap[k]? = w.heap[k]? := fun k h1 h2 h3 => hk k (by rw [if_pos ⟨h1, h2, h3⟩]; decide)
      refine ⟨fun k h1 h2 h3 => ?_, fun u hu => h.2 u fun k h1 h2 h3 => (hu k h1 h2 h3).trans (hk' k h1 h2 h3)⟩
      have h4 := h.1 k h1 h2 h3
      have h5 := hk' k h1 h2 h3
      rw [Array.getElem?_eq_getElem h4] at h5
      exact (Array.getElem?_eq_some_iff.1 h5).1,
    fun w h k hk => by
      by_cases e : lo ≤ k ∧ k < hi ∧ ex ≠ some k
      · exact h.1 k e.1 e.2.1 e.2.2
      · rw [if_neg e] at hk; exact absurd rfl hk⟩
theorem rngx_c (lo hi : Nat) (ex : Option Nat) (Q : World → Prop) (k : Nat) : (rngx lo hi ex Q).c k = if lo ≤ k ∧ k < hi ∧ ex ≠ some k then 1 else 0 := rfl
theorem rngx_get {lo hi : Nat} {ex : Option Nat} {Q : World → Prop} {w : World} (h : (rngx lo hi ex Q).sat w) : Q w := h.2 w fun _ _ _ _ => rfl
theorem ListOwn.lies' {α : Type} {ty m : Nat} {cel : α → List Value} {Q : Nat → Nat → World → α → Prop} {E : Nat → World → α → Prop} (hm : 0 < m) (hc : ∀ x, (cel x).length = m) {H : Nat} (hQE : ∀ a b w x, b ≤ H → Q a b w x → E H w x) {a b : Nat} {w : World} {p : Option Addr} {n c : Nat} {xs : List α}
    (h : ListOwn ty m cel Q a b w p n c xs) (hb : b ≤ H) : ListIn cel E H w p n c xs := by
  obtain ⟨h1, h2, h3, h4⟩ := h
  have hE : ∀ x ∈ xs, E H w x := fun x hx => by
    obtain ⟨a', b', hb', hq⟩ := h4.mem x hx
    exact hQE a' b' w x (by omega) hq
  rcases id h2.2 with ⟨e, h0⟩ | ⟨g, cap, cur, e, hg, hh, k1, k2, k3, k4⟩
  · injection e with e1 e2 e3
    subst e1 e2 e3
    have : xs = [] := List.eq_nil_of_length_eq_zero h1.symm
    subst this
    exact ⟨h1, Nat.le_refl _, Nat.zero_le _, fun j u hu => by simp at hu, hE⟩
  · injection e with e1 e2 e3
    subst e1 e3
    refine ⟨h1, k1, k2, fun j u hu => ⟨⟨g, 0, none⟩, rfl, Nat.lt_of_lt_of_le (h3 g rfl) hb, ?_⟩, hE⟩
    have hj : j < n * m := by rw [h1, ← flat_len cel m hc]; exact (List.getElem?_eq_some_iff.1 hu).1
    rw [add0, h2.cellAt j hj]
    exact hu
theorem InsOwn.lies' {a b H : Nat} {w : World} {x : LI} (hb : b ≤ H) (h : InsOwn a b w x) : InsIn H w x := by
  obtain ⟨h, k⟩ := h
  exact ⟨h.lies' (m := 3) (by decide) (fun _ => rfl) (fun _ _ _ _ _ _ => trivial) hb, k.lies' (m := 1) (by decide) (fun _ => rfl) (fun _ _ _ _ _ _ => trivial) hb⟩
theorem BlkOwn.lies' {a b H : Nat} {w : World} {x : LB} (hb : b ≤ H) (h : BlkOwn a b w x) : BlkIn H w x := by
  unfold BlkOwn at h
  exact h.lies' (m := 7) (by decide) (fun _ => rfl) (fun _ _ _ _ hb hq => InsOwn.lies' hb hq) hb
/-- What is read of a copy, whatever becomes of the row of its blocks. -/
def RestQ (H : Nat) (y : LFn) (u : World) : Prop := ListIn intC NoMem H u y.pp y.pn y.pc y.ps ∧ ∀ c ∈ y.bs, BlkIn H u c
theorem copy_split {W w : World} {y : LFn} (h : FnOwn W.heap.size w.heap.size w y) (hb : Below W.heap.size W w) :
    St W.heap.size W (As.and (rw' W.heap.size 43 1 blkC y.bp y.bn y.bc y.bs) (rngx W.heap.size w.heap.size (Value.slice y.bp y.bn y.bc).ownBlock (RestQ w.heap.size y))) w := by
  obtain ⟨d, h1, h2⟩ := h
  have hd1 := h1.le
  have hd2 := h2.le
  obtain ⟨n1, n2, n3, n4⟩ := h2
  have hgd : ∀ g, (Value.slice y.bp y.bn y.bc).ownBlock = some g → d ≤ g ∧ g < w.heap.size := fun g e => n2.lt g e
  refine ⟨hb, hb.size, ⟨⟨n1, ownsRow_base n2 hd1⟩, fun k _ h _ => h, fun u hu => ?_⟩, fun k => ?_, fun k hk => ?_⟩
  · refine ⟨?_, fun c hc => ?_⟩
    · have hs : Stay W.heap.size d w u := fun k k1 k2 => hu k k1 (by omega) (fun e => by have := hgd k e; omega)
      exact (h1.stay local_NoOwn hs).lies' (m := 1) (by decide) (fun _ => rfl) (fun _ _ _ _ _ _ => trivial) (by omega)
    · have hs := n4.stay local_Blk (w' := u) (fun k k1 k2 k3 => hu k (by omega) k2 k3)
      obtain ⟨a', b', hb', hq⟩ := hs.mem c hc
      exact BlkOwn.lies' hb' hq
  · rw [As.and_c, rw_c, rngx_c]
    by_cases e : cR y.bp k = 0
    · have := if01 (W.heap.size ≤ k ∧ k < w.heap.size ∧ (Value.slice y.bp y.bn y.bc).ownBlock ≠ some k); omega
    · have e1 := cR_block (n := y.bn) (c := y.bc) e
      rw [if_neg (fun h => h.2.2 e1)]
      have := cR_le y.bp k
      omega
  · rw [As.and_c, rw_c, rngx_c] at hk
    by_cases e : cR y.bp k = 0
    · by_cases e2 : W.heap.size ≤ k ∧ k < w.heap.size ∧ (Value.slice y.bp y.bn y.bc).ownBlock ≠ some k
      · exact e2.1
      · rw [if_neg e2] at hk; omega
    · have := hgd k (cR_block (n := y.bn) (c := y.bc) e); omega
/-- A block of the row is laid anew. -/
theorem St.putBlk {B : Nat} {W w : World} {Z : As} {g n c : Nat} {bs : List LB} (h : St B W (As.and (rw' B 43 1 blkC (some ⟨g, 0, none⟩) n c bs) Z) w) (b : Nat) (hb : b < bs.length) (y : LB) :
    St B W (As.and (rw' B 43 1 blkC (some ⟨g, 0, none⟩) n c (bs.set b y)) Z) (w.setCell ⟨g, b, none⟩ (.slice y.p y.n y.k)) := by
  have h2 := h.upd1 b 0 (.slice y.p y.n y.k) y (flat_set1 blkC 1 (by decide) (fun _ => rfl) bs b 0 hb (by decide) _ y rfl)
  rwa [Nat.mul_one, Nat.add_zero] at h2
end Go.Proofs.Ytdfdgpobohpphaa
