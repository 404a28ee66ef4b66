/-
  CodecBack: whatever the lists.
-/
import Derived.Test.YtjajgllkbchapaaBack
namespace Go.Proofs.Ytjajgllkbchapaa
open Go.RowKit
set_option linter.unusedSimpArgs false
set_option linter.unusedVariables false

theorem puts_ok {α : Type} {f : α → List UInt8 × Bool} : ∀ l : List α, (∀ a ∈ l, (f a).2 = true) → (puts f l).2 = true
  | [], _ => rfl
  | a :: r, h => by
    simp only [puts]
    rw [h a (by simp)]
    simp only [if_true]
    exact puts_ok r fun x hx => h x (by simp [hx])

theorem putList_ok {α : Type} {f : α → List UInt8 × Bool} {m : Int} {l : List α} (hm : (l.length : Int) ≤ m) (h : ∀ a ∈ l, (f a).2 = true) : (putList m f l).2 = true := by
  unfold putList
  rw [if_pos hm]
  exact puts_ok l h

theorem putList_len' {α : Type} {f : α → List UInt8 × Bool} {c : Nat} (hf : ∀ a, (f a).1.length ≤ c) (m : Int) (l : List α) : (putList m f l).1.length ≤ 8 + c * m.toNat := by
  unfold putList
  have := enc_le l.length
  have h2 := puts_len hf l
  split
  · rename_i hm
    have : c * l.length ≤ c * m.toNat := Nat.mul_le_mul_left _ (by omega)
    simp
    omega
  · simp

theorem putT_len (m : Int) (s : ByteArray) : (putT m s).1.length ≤ 8 + m.toNat := by
  unfold putT
  have := enc_le s.size
  have e1 : s.data.toList.length = s.size := rfl
  split
  · rw [List.length_append]; omega
  · simp

theorem putT_ok {m : Int} {s : ByteArray} (h : (s.size : Int) ≤ m) : (putT m s).2 = true := by
  unfold putT
  rw [if_pos h]

theorem enc_ok {x : List UInt8 × Bool} (h : x.2 = true) : encRes x = .tuple #[.string ⟨x.1.toArray⟩, .int .i64 0] := by
  unfold encRes
  rw [h]
  rfl

theorem enc_no {x : List UInt8 × Bool} (h : x.2 = false) : encRes x = .tuple #[.string ⟨#[]⟩, .int .i64 22] := by
  unfold encRes
  rw [h]
  rfl

theorem back_walk {w : World} {va vb : Value} {l : List ByteArray} {fl : List Bool} (hl : Vals Value.string w va l) (hf : Vals Value.bool w vb fl) : Calls Try.prog 6 #[va, vb] w fun e w' => e = .returned (.bool true) ∧ Below w.heap.size w w' := by
  by_cases h : 200 < (l.length : Int) ∨ 200 < (fl.length : Int)
  · exact back_long hl hf h
  · have hT : ∀ s, (putT 50 s).1.length ≤ 58 := fun s => putT_len 50 s
    have hL : ∀ x, (putList 200 (putT 50) x).1.length ≤ 11608 := fun x => putList_len' hT 200 x
    have hLL := putList_len' hL 2 [l, []]
    have hB := putList_len' (f := putB) (c := 8) (fun a => by unfold putB; exact enc_le _) 200 fl
    have hF := puts_flags fl
    have hFo : (putList 200 putB fl).2 = true := by unfold putList; rw [if_pos (by omega)]; exact hF
    have sz : ∀ x : List UInt8, (ByteArray.mk x.toArray).size = x.length := fun x => by simp [ByteArray.size]
    refine back_in hl hf (by omega) (by omega) ⟨(putList 2 (putList 200 (putT 50)) [l, []]).1.toArray⟩ ⟨(putList 200 putB fl).1.toArray⟩ ⟨(putList l.length (putT 50) l).1.toArray⟩ ?_ ?_ ?_
    · intro hall
      have ok1 : (putList 200 (putT 50) l).2 = true := putList_ok (by omega) fun a ha => putT_ok (by have := hall a ha; omega)
      have ok0 : (putList 200 (putT 50) ([] : List ByteArray)).2 = true := putList_ok (by simp) (by simp)
      have ok2 : (putList 2 (putList 200 (putT 50)) [l, []]).2 = true := putList_ok (by simp) fun a ha => by
        simp at ha
        rcases ha with rfl | rfl
        · exact ok1
        · exact ok0
      have hg := goodL (goodL (goodT 50 (by decide)) 200 (by decide)) 2 (by decide)
      have hid : List.map (List.map id) [l, []] = [l, []] := by simp
      have hw := hg.whole [l, []] (by rw [hid]; exact ok2)
      rw [hid] at hw
      exact ⟨enc_ok ok2, by rw [sz]; omega, hw, by omega⟩
    · have hg := goodL goodB 200 (by decide)
      have hw := hg.whole fl (by rw [List.map_id]; exact hFo)
      rw [List.map_id] at hw
      exact ⟨enc_ok hFo, by rw [sz]; omega, hw, by omega⟩
    · intro hall hne m hm
      have hlp : 0 < l.length := List.length_pos_iff.2 hne
      have b1 : boundF m = m := by unfold boundF; omega
      have b2 : boundF (l.length : Int) = l.length := by unfold boundF; omega
      have no1 : putList m (putT 50) l = ([], false) := by unfold putList; rw [if_neg (by omega)]
      have ok1 : (putList l.length (putT 50) l).2 = true := putList_ok (Int.le_refl _) fun a ha => putT_ok (by have := hall a ha; omega)
      have hl1 := putList_len' hT (l.length : Int) l
      have hl2 : 58 * ((l.length : Int)).toNat ≤ 58 * 200 := Nat.mul_le_mul_left _ (by omega)
      refine ⟨b1, b2, by rw [no1]; rfl, enc_ok ok1, ?_, by rw [sz]; omega, by rw [no1]; simp, by omega⟩
      show whole (getList m (getText 50) (putList l.length (putT 50) l).1) = _
      have e1 : (putList l.length (putT 50) l).1 = enc l.length ++ (puts (putT 50) l).1 := by unfold putList; rw [if_pos (Int.le_refl _)]
      rw [e1]
      unfold getList getC
      rw [getN_enc _ (by omega)]
      simp only
      rw [if_neg (by omega)]
      rfl

end Go.Proofs.Ytjajgllkbchapaa
