/-
  Scripts of steps: what they make of a tree; each keeps it right.
-/
import Derived.Test.YtdnopkpoepdihaaDoorMR
namespace Go.Proofs.YtdnopkpoepdihaaDoor
open Go.RowKit
set_option linter.unusedSimpArgs false
set_option linter.unusedVariables false

structure POp where
  kind : Int
  i : Int
  leaf : PV
  more : Int

def POp.val (o : POp) (h : Value) : Value := .agg #[.int .i64 o.kind, .int .i64 o.i, .bool o.leaf.full, .int .i64 o.leaf.key, .int .i64 o.leaf.client, .int .i64 o.leaf.sig, .int .i64 o.leaf.hash, h, .int .i64 o.more]

def extra (o : POp) : Int := if decide (-40 ≤ o.more) && decide (o.more ≤ 40) then o.more else 0
def keysF (t : Tree) (o : POp) : List Int := List.replicate (((filt t o.i).length : Int) + extra o).toNat o.leaf.key

def full32 (t : Tree) : Bool := decide (least t = lv t ∧ lv t = 32)
/-- A step, as the document has it; nothing, where it is refused. -/
def stepG (t : Tree) (o : POp) : Tree :=
  if o.kind = 1 then (if full32 t then t else addF t o.leaf)
  else if o.kind = 2 then (if fullB t o.i then putF t o.i (leafV o.leaf) else t)
  else if o.kind = 3 then (if fullB t o.i && decide (2 ≤ (members t).length) then remF t o.i else t)
  else if o.kind = 4 then (if fullB t o.i then mergeF t o.i o.leaf (List.replicate (filt t o.i).length o.leaf.key) (List.replicate (filt t o.i).length o.leaf.key) else t)
  else t
def grownF (leaf : PV) (script : List POp) : Tree := (script.take 300).foldl stepG [leafV leaf]

theorem set_isF {t : Tree} {p : Nat} (hp : p % 2 = 1) (v : PV) (j : Nat) : isF (t.set p v) j = isF t j := by
  have hl : lv (t.set p v) = lv t := by simp [lv]
  unfold isF vx
  rw [hl, List.getD_eq_getElem?_getD, List.getD_eq_getElem?_getD, List.getElem?_set_ne (by omega)]

theorem lev_odd {p : Nat} (hp : p < 63) (h : lev (p : Int) ≠ 0) : p % 2 = 1 := by
  have := forall_lt 63 (fun x => lev x == 0 || decide (x % 2 = 1)) (by decide +kernel) (p : Int) (by omega) (by omega)
  simp [h] at this
  omega
theorem odd_lev {p : Nat} (hp : p < 63) (h : p % 2 = 1) : lev (p : Int) ≠ 0 := by
  have := forall_lt 63 (fun x => decide (x % 2 = 0) || decide (lev x ≠ 0)) (by decide +kernel) (p : Int) (by omega) (by omega)
  simp at this
  rcases this with h1 | h1
  · omega
  · exact h1

theorem Good.setP {t : Tree} (h : Good t) {p : Nat} (hp : p < t.length) (hodd : p % 2 = 1) (k q : Int) : Good (t.set p (pathV k q)) := by
  have hb := h.sh.bounds
  have hl : lv (t.set p (pathV k q)) = lv t := by simp [lv]
  have hF : ∀ j, isF (t.set p (pathV k q)) j = isF t j := fun j => set_isF hodd _ j
  have hfb : ∀ i, fullB t i = true → fullB (t.set p (pathV k q)) i = true := fun i hi => by
    obtain ⟨m, rfl, _, _⟩ := fullB_nat hi
    rw [← isF_fullB, hF, isF_fullB]; exact hi
  refine ⟨⟨by rw [hl]; exact h.sh.1, by rw [hl]; simpa using h.sh.2⟩, fun x u hu => ?_, ?_⟩
  · by_cases hx : x = p
    · subst hx
      rw [List.getElem?_set_self hp] at hu
      cases hu
      exact ⟨fun h => (by cases h), fun _ hz => absurd hz (odd_lev (by omega) hodd), fun _ _ => ⟨rfl, rfl, by simp [LateOk, pathV]⟩⟩
    · rw [List.getElem?_set_ne (by omega)] at hu
      have hv := h.vert x u hu
      refine ⟨hv.blank, hv.leaf, fun hf hz => ?_⟩
      obtain ⟨a, b, c, d⟩ := hv.par hf hz
      exact ⟨a, b, c, fun i hi => ⟨hfb i (d i hi).1, by rw [hl]; exact (d i hi).2⟩⟩
  · obtain ⟨i, a, b, c⟩ := h.tight
    have : isF (t.set p (pathV k q)) i = true := by rw [hF]; simp [isF, b, c]
    rw [hl]
    simp only [isF, hl, Bool.and_eq_true, decide_eq_true_eq] at this
    exact ⟨i, a, b, this.2⟩

theorem Good.laid : ∀ {T : Tree} (ps ks hs : List Int), Good T → (∀ p ∈ ps, ∃ m : Nat, p = m ∧ m < T.length ∧ m % 2 = 1) → Good (laid T ps ks hs) ∧ ∀ j, isF (laid T ps ks hs) j = isF T j
  | T, p :: ps, k :: ks, h :: hs, hT, hp => by
    rw [Go.Proofs.YtdnopkpoepdihaaDoor.laid]
    obtain ⟨m, rfl, hm, hodd⟩ := hp p (by simp)
    have h1 := hT.setP hm hodd k h
    obtain ⟨a, b⟩ := Good.laid ps ks hs h1 (fun q hq => by
      obtain ⟨m', e, h2, h3⟩ := hp q (by simp [hq])
      exact ⟨m', e, by simpa using h2, h3⟩)
    exact ⟨a, fun j => (b j).trans (set_isF hodd _ j)⟩
  | T, [], ks, hs, hT, _ => by cases ks <;> cases hs <;> exact ⟨hT, fun _ => rfl⟩
  | T, p :: ps, [], hs, hT, _ => by cases hs <;> exact ⟨hT, fun _ => rfl⟩
  | T, p :: ps, k :: ks, [], hT, _ => ⟨hT, fun _ => rfl⟩

theorem filt_odd {t : Tree} (hs : Sh t) {i : Int} {p : Int} (hp : p ∈ (filt t i).map (·.1)) : ∃ m : Nat, p = m ∧ m < t.length ∧ m % 2 = 1 ∧ underB (2 * i) p (lv t) = true ∧ p ≠ 2 * i := by
  have hin := filt_place hs hp
  obtain ⟨m, rfl, hm⟩ := in_place hs hin
  have hb := hs.bounds
  simp only [List.mem_map] at hp
  obtain ⟨⟨a, b⟩, hmm, he⟩ := hp
  simp only at he
  subst he
  unfold filt at hmm
  split at hmm
  · rename_i hc
    simp only [Bool.and_eq_true, decide_eq_true_eq] at hc
    have hm2 := (List.mem_filter.1 hmm).1
    have h3 := (List.of_mem_zip hm2).1
    have hin2 : inB (2 * i) (lv t) = true := by simp [inB, hs.1]; omega
    simp only [pathI, List.mem_filter, bne_iff_ne, ne_eq] at h3
    have hu : underB (2 * i) (m : Int) (lv t) = true := by simp [underB, hin, hin2, h3.1]
    have hl : lev (m : Int) ≠ 0 := fun hz => h3.2 (under_leaf hu hz).symm
    exact ⟨m, rfl, hm, lev_odd (by omega) hl, hu, h3.2⟩
  · simp at hmm

theorem Good.merge {t : Tree} (h : Good t) {k : Nat} (hk : isF t k = true) (u : PV) (ks hs : List Int) : Good (mergeF t k u ks hs) ∧ ∀ j, isF (mergeF t k u ks hs) j = isF t j := by
  obtain ⟨h1, h2⟩ := h.upd hk (leafV u) ⟨rfl, rfl⟩
  obtain ⟨a, b⟩ := h1.laid ((filt t k).map (·.1)) ks hs (fun p hp => by
    obtain ⟨m, e, hm, hodd, _⟩ := filt_odd h.sh hp
    exact ⟨m, e, by rw [putF_len]; exact hm, hodd⟩)
  exact ⟨a, fun j => (b j).trans (h2 j)⟩

theorem Good.step {t : Tree} (h : Good t) (o : POp) : Good (stepG t o) := by
  unfold stepG
  split
  · split
    · exact h
    · rename_i hq
      exact h.add (by simpa [full32] using hq) o.leaf
  · split
    · split
      · rename_i hq
        obtain ⟨k, e, _, _⟩ := fullB_nat hq
        rw [e] at hq ⊢
        exact (h.upd (by rw [isF_fullB]; exact hq) (leafV o.leaf) ⟨rfl, rfl⟩).1
      · exact h
    · split
      · split
        · rename_i hq
          simp only [Bool.and_eq_true, decide_eq_true_eq] at hq
          obtain ⟨k, e, _, _⟩ := fullB_nat hq.1
          rw [e] at hq ⊢
          exact (rem_all h (by rw [isF_fullB]; exact hq.1) (by omega)).1
        · exact h
      · split
        · split
          · rename_i hq
            obtain ⟨k, e, _, _⟩ := fullB_nat hq
            rw [e] at hq ⊢
            exact (h.merge (by rw [isF_fullB]; exact hq) _ _ _).1
          · exact h
        · exact h

theorem Good.steps : ∀ (l : List POp) {t : Tree}, Good t → Good (l.foldl stepG t)
  | [], t, h => h
  | o :: r, t, h => by simpa using Good.steps r (h.step o)

theorem Good.grown (leaf : PV) (script : List POp) : Good (grownF leaf script) := Good.steps _ (Good.one leaf)

end Go.Proofs.YtdnopkpoepdihaaDoor
