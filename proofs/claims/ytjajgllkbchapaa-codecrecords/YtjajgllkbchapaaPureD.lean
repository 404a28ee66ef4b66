/-
  What is written is read back; what is read is what is written; what is cut short ends too early.
-/
import Derived.Test.YtjajgllkbchapaaPureC
import Derived.Test.YtjajgllkbchapaaTop
namespace Go.Proofs.Ytjajgllkbchapaa
set_option linter.unusedSimpArgs false
set_option linter.unusedVariables false

/-- How a codec's writing f and reading g belong together; c: what is written for what is read. -/
structure Good {α β : Type} (f : α → List UInt8 × Bool) (g : List UInt8 → Except Int (β × List UInt8)) (c : β → α) : Prop where
  back : ∀ b t, (f (c b)).2 = true → g ((f (c b)).1 ++ t) = .ok (b, t)
  inv : ∀ l b t, g l = .ok (b, t) → l = (f (c b)).1 ++ t ∧ (f (c b)).2 = true
  cut : ∀ b k, (f (c b)).2 = true → k < (f (c b)).1.length → g ((f (c b)).1.take k) = .error 20

theorem getN_cut (m k : Nat) (hm : m < 4611686018427387904) (hk : k < (enc m).length) : getN ((enc m).take k) = .error 20 := by
  have hlt := be_head_lt hm
  have hc := cls_le m
  cases k with
  | zero => rfl
  | succ k =>
    have hb : (UInt8.ofNat (m / 256 ^ (2 ^ cls m - 1) + 64 * cls m)).toNat = m / 256 ^ (2 ^ cls m - 1) + 64 * cls m := by
      rw [UInt8.toNat_ofNat']
      generalize m / 256 ^ (2 ^ cls m - 1) = q at *
      omega
    have e1 : (m / 256 ^ (2 ^ cls m - 1) + 64 * cls m) / 64 = cls m := by
      generalize m / 256 ^ (2 ^ cls m - 1) = q at *
      omega
    simp only [enc, List.take_succ_cons, getN, hb, e1]
    rw [if_pos]
    simp [enc, be_length] at hk
    rw [List.length_take, be_length]
    omega

theorem goodN : Good putN getN Int.ofNat := by
  have hp : ∀ m : Nat, m < 4611686018427387904 → putN (Int.ofNat m) = (enc m, true) := fun m hm => by
    have : okN (Int.ofNat m) = true := by simp [okN]; omega
    unfold putN
    rw [if_pos this]
    rfl
  have hb : ∀ m : Nat, (putN (Int.ofNat m)).2 = true → m < 4611686018427387904 := fun m h => by
    unfold putN at h
    split at h
    · rename_i h1
      simp [okN] at h1
      omega
    · simp at h
  refine ⟨fun m t h => ?_, fun l m t h => ?_, fun m k h hk => ?_⟩
  · rw [hp m (hb m h)]
    exact getN_enc m (hb m h) t
  · obtain ⟨h1, h2⟩ := getN_inv h
    rw [hp m h2]
    exact ⟨h1, rfl⟩
  · rw [hp m (hb m h)] at hk ⊢
    exact getN_cut m k (hb m h) hk

theorem goodB : Good putB getFlag id := by
  have hl : ∀ b : Bool, b.toNat < 4611686018427387904 := fun b => by cases b <;> decide
  have hle : ∀ b : Bool, b.toNat ≤ 1 := fun b => by cases b <;> decide
  refine ⟨fun b t h => ?_, fun l b t h => ?_, fun b k h hk => ?_⟩
  · show getFlag (enc b.toNat ++ t) = _
    unfold getFlag
    rw [getN_enc _ (hl b)]
    simp only
    rw [if_pos (hle b)]
    cases b <;> rfl
  · unfold getFlag at h
    cases hg : getN l with
    | error er => rw [hg] at h; simp at h
    | ok x =>
      obtain ⟨n, t'⟩ := x
      rw [hg] at h
      simp only at h
      split at h
      · rename_i h1
        simp at h
        obtain ⟨h2, h3⟩ := getN_inv hg
        refine ⟨?_, rfl⟩
        show l = enc b.toNat ++ t
        rw [h2, h.2, ← h.1]
        have : n = 0 ∨ n = 1 := by omega
        rcases this with rfl | rfl <;> rfl
      · simp at h
  · show getFlag ((enc b.toNat).take k) = _
    unfold getFlag
    rw [getN_cut _ k (hl b) hk]

theorem take_size (s : ByteArray) : s.data.toList.length = s.size := rfl

theorem goodT (most : Int) (hm : most ≤ 1048576) : Good (putT most) (getText most) id := by
  have hp : ∀ s : ByteArray, (s.size : Int) ≤ most → putT most s = (enc s.size ++ s.data.toList, true) := fun s hs => by simp [putT, hs]
  have hb : ∀ s : ByteArray, (putT most s).2 = true → (s.size : Int) ≤ most := fun s h => by
    unfold putT at h
    split at h
    · assumption
    · simp at h
  refine ⟨fun s t h => ?_, fun l s t h => ?_, fun s k h hk => ?_⟩
  · have hs := hb s h
    show getText most ((putT most s).1 ++ t) = _
    rw [hp s hs]
    simp only [List.append_assoc]
    unfold getText getC
    rw [getN_enc _ (by omega)]
    simp only
    rw [if_pos hs]
    simp only
    rw [if_pos (by rw [List.length_append, take_size]; omega)]
    have e1 : (s.data.toList ++ t).take s.size = s.data.toList := by rw [← take_size, List.take_left']; rfl
    have e2 : (s.data.toList ++ t).drop s.size = t := by rw [← take_size, List.drop_left']; rfl
    rw [e1, e2]
  · unfold getText at h
    cases hg : getC most l with
    | error er => rw [hg] at h; simp at h
    | ok x =>
      obtain ⟨n, t'⟩ := x
      rw [hg] at h
      simp only at h
      split at h
      · rename_i hn
        simp at h
        obtain ⟨h1, h2⟩ := getC_ok hg
        obtain ⟨h3, h4⟩ := getN_inv h1
        have hsz : s.size = n := by rw [← h.1]; simp [ByteArray.size]; omega
        have hdl : s.data.toList = t'.take n := by rw [← h.1]
        show l = (putT most s).1 ++ t ∧ (putT most s).2 = true
        rw [hp s (by omega), hsz, hdl, ← h.2, h3]
        refine ⟨?_, rfl⟩
        simp only [List.append_assoc, List.take_append_drop]
      · simp at h
  · have hs := hb s h
    show getText most ((putT most s).1.take k) = _
    have hk' : k < (putT most s).1.length := hk
    rw [hp s hs] at hk' ⊢
    simp only at hk' ⊢
    unfold getText getC
    by_cases hkl : k < (enc s.size).length
    · rw [List.take_append_of_le_length (by omega), getN_cut _ k (by omega) hkl]
    · have e0 : (enc s.size ++ s.data.toList).take k = enc s.size ++ s.data.toList.take (k - (enc s.size).length) := by
        rw [List.take_append]
        congr 1
        exact List.take_of_length_le (by omega)
      rw [e0, getN_enc _ (by omega)]
      simp only
      rw [if_pos hs]
      simp only
      rw [if_neg]
      rw [List.length_append, take_size] at hk'
      rw [List.length_take, take_size]
      omega

theorem puts_cons {α : Type} {f : α → List UInt8 × Bool} {a : α} {r : List α} (h : (puts f (a :: r)).2 = true) : (f a).2 = true ∧ (puts f r).2 = true ∧ (puts f (a :: r)).1 = (f a).1 ++ (puts f r).1 := by
  simp only [puts] at h ⊢
  cases hf : (f a).2
  · rw [hf] at h; simp at h
  · rw [hf] at h; simp at h; simp [h]

theorem many_back {α β : Type} {f : α → List UInt8 × Bool} {g : List UInt8 → Except Int (β × List UInt8)} {c : β → α} (hg : Good f g c) :
    ∀ (l : List β) (t : List UInt8), (puts f (l.map c)).2 = true → many g l.length ((puts f (l.map c)).1 ++ t) = .ok (l, t)
  | [], t, h => by simp [puts, many]
  | b :: r, t, h => by
    rw [List.map_cons] at h ⊢
    obtain ⟨h1, h2, h3⟩ := puts_cons h
    rw [h3, List.append_assoc]
    simp only [List.length_cons, many]
    rw [hg.back b _ h1]
    simp only
    rw [many_back hg r t h2]

theorem many_inv {α β : Type} {f : α → List UInt8 × Bool} {g : List UInt8 → Except Int (β × List UInt8)} {c : β → α} (hg : Good f g c) :
    ∀ (n : Nat) (l : List UInt8) (bs : List β) (t : List UInt8), many g n l = .ok (bs, t) → l = (puts f (bs.map c)).1 ++ t ∧ (puts f (bs.map c)).2 = true ∧ bs.length = n
  | 0, l, bs, t, h => by
    simp [many] at h
    rw [h.1, h.2]
    simp [puts]
  | n + 1, l, bs, t, h => by
    simp only [many] at h
    cases h1 : g l with
    | error e => rw [h1] at h; simp at h
    | ok x =>
      obtain ⟨a, t1⟩ := x
      rw [h1] at h
      simp only at h
      cases h2 : many g n t1 with
      | error e => rw [h2] at h; simp at h
      | ok y =>
        obtain ⟨as2, t2⟩ := y
        rw [h2] at h
        simp at h
        obtain ⟨i1, i2, i3⟩ := many_inv hg n t1 as2 t2 h2
        obtain ⟨j1, j2⟩ := hg.inv l a t1 h1
        rw [← h.1, ← h.2]
        simp only [List.map_cons, puts, j2, if_true, List.length_cons]
        refine ⟨?_, i2, by omega⟩
        rw [j1, i1, List.append_assoc]

theorem many_cut {α β : Type} {f : α → List UInt8 × Bool} {g : List UInt8 → Except Int (β × List UInt8)} {c : β → α} (hg : Good f g c) :
    ∀ (l : List β) (k : Nat), (puts f (l.map c)).2 = true → k < (puts f (l.map c)).1.length → many g l.length ((puts f (l.map c)).1.take k) = .error 20
  | [], k, h, hk => by simp [puts] at hk
  | b :: r, k, h, hk => by
    rw [List.map_cons] at h hk ⊢
    obtain ⟨h1, h2, h3⟩ := puts_cons h
    rw [h3] at hk ⊢
    simp only [List.length_cons, many]
    by_cases hkl : k < (f (c b)).1.length
    · rw [List.take_append_of_le_length (by omega), hg.cut b k h1 hkl]
    · have e0 : ((f (c b)).1 ++ (puts f (r.map c)).1).take k = (f (c b)).1 ++ (puts f (r.map c)).1.take (k - (f (c b)).1.length) := by
        rw [List.take_append]
        congr 1
        exact List.take_of_length_le (by omega)
      rw [e0, hg.back b _ h1]
      simp only
      rw [List.length_append] at hk
      rw [many_cut hg r _ h2 (by omega)]

theorem goodL {α β : Type} {f : α → List UInt8 × Bool} {g : List UInt8 → Except Int (β × List UInt8)} {c : β → α} (hg : Good f g c) (most : Int) (hm : most ≤ 1048576) : Good (putList most f) (getList most g) (List.map c) := by
  have hp : ∀ l : List α, (putList most f l).2 = true → (l.length : Int) ≤ most ∧ (puts f l).2 = true ∧ (putList most f l).1 = enc l.length ++ (puts f l).1 := fun l h => by
    unfold putList at h ⊢
    split at h
    · rename_i hs
      rw [if_pos hs]
      exact ⟨hs, h, rfl⟩
    · simp at h
  refine ⟨fun l t h => ?_, fun s l t h => ?_, fun l k h hk => ?_⟩
  · obtain ⟨h1, h2, h3⟩ := hp _ h
    rw [h3, List.append_assoc]
    rw [List.length_map] at h1 ⊢
    unfold getList getC
    rw [getN_enc _ (by omega)]
    simp only
    rw [if_pos h1]
    simp only
    exact many_back hg l t h2
  · unfold getList at h
    cases hc : getC most s with
    | error er => rw [hc] at h; simp at h
    | ok x =>
      obtain ⟨n, t'⟩ := x
      rw [hc] at h
      simp only at h
      obtain ⟨h1, h2⟩ := getC_ok hc
      obtain ⟨h3, h4⟩ := getN_inv h1
      obtain ⟨i1, i2, i3⟩ := many_inv hg n t' l t h
      unfold putList
      rw [List.length_map, if_pos (by omega), i3, h3]
      exact ⟨by rw [i1, List.append_assoc], i2⟩
  · obtain ⟨h1, h2, h3⟩ := hp _ h
    rw [h3] at hk ⊢
    rw [List.length_map] at h1 hk ⊢
    unfold getList getC
    by_cases hkl : k < (enc l.length).length
    · rw [List.take_append_of_le_length (by omega), getN_cut _ k (by omega) hkl]
    · have e0 : (enc l.length ++ (puts f (l.map c)).1).take k = enc l.length ++ (puts f (l.map c)).1.take (k - (enc l.length).length) := by
        rw [List.take_append]
        congr 1
        exact List.take_of_length_le (by omega)
      rw [e0, getN_enc _ (by omega)]
      simp only
      rw [if_pos h1]
      simp only
      rw [List.length_append] at hk
      exact many_cut hg l _ h2 (by omega)

/-- Written and read whole. -/
theorem Good.whole {α β : Type} {f : α → List UInt8 × Bool} {g : List UInt8 → Except Int (β × List UInt8)} {c : β → α} (hg : Good f g c) (b : β) (h : (f (c b)).2 = true) : whole (g (f (c b)).1) = .ok b := by
  have := hg.back b [] h
  rw [List.append_nil] at this
  rw [this]
  rfl
theorem Good.more {α β : Type} {f : α → List UInt8 × Bool} {g : List UInt8 → Except Int (β × List UInt8)} {c : β → α} (hg : Good f g c) (b : β) (h : (f (c b)).2 = true) (x : UInt8) (t : List UInt8) : Proofs.Ytjajgllkbchapaa.whole (g ((f (c b)).1 ++ x :: t)) = .error 21 := by
  rw [hg.back b _ h]
  rfl
theorem Good.short {α β : Type} {f : α → List UInt8 × Bool} {g : List UInt8 → Except Int (β × List UInt8)} {c : β → α} (hg : Good f g c) (b : β) (h : (f (c b)).2 = true) (k : Nat) (hk : k < (f (c b)).1.length) : Proofs.Ytjajgllkbchapaa.whole (g ((f (c b)).1.take k)) = .error 20 := by
  rw [hg.cut b k h hk]
  rfl
theorem whole_ok {β : Type} {x : Except Int (β × List UInt8)} {b : β} (h : whole x = .ok b) : x = .ok (b, []) := by
  unfold whole at h
  split at h
  · simp at h; rw [h]
  · simp at h
  · simp at h

end Go.Proofs.Ytjajgllkbchapaa
