/-
  CodecCut: whatever the list.
-/
import Derived.Test.YtjajgllkbchapaaCut
namespace Go.Proofs.Ytjajgllkbchapaa
open Go.RowKit
set_option linter.unusedSimpArgs false
set_option linter.unusedVariables false

theorem putList_pos {α : Type} {f : α → List UInt8 × Bool} {m : Int} {l : List α} (h : (putList m f l).2 = true) : 1 ≤ (putList m f l).1.length := by
  unfold putList at h ⊢
  split at h
  · rename_i hs
    rw [if_pos hs]
    have := enc_pos l.length
    simp
    omega
  · simp at h

theorem cut_walk {w : World} {v : Value} {l : List Int} (hl : IntsAt w v l) (at_ : Int) (hat : (Lit.int .i64 at_).wf = true) : Calls Try.prog 8 #[v, .int .i64 at_] w fun e w' => e = .returned (.bool true) ∧ Below w.heap.size w w' := by
  by_cases h : 500 < (l.length : Int) ∨ at_ < 0
  · exact cut_big hl at_ h
  · cases hx : (putList 500 putN l).2 with
    | false =>
      exact cut_no hl at_ (by omega) (by omega) (by simp [Hid, encRes, hx])
    | true =>
      have hpos := putList_pos hx
      have hlen := putList_len putN_len 500 l
      have hL := putList_nat hx
      have hg := goodL goodN 500 (by decide)
      have hsz : (ByteArray.mk (putList 500 putN l).1.toArray).size = (putList 500 putN l).1.length := by simp [ByteArray.size]
      have hk0 : 0 ≤ at_ % ((ByteArray.mk (putList 500 putN l).1.toArray).size : Int) := Int.emod_nonneg _ (by omega)
      have hk1 : at_ % ((ByteArray.mk (putList 500 putN l).1.toArray).size : Int) < (ByteArray.mk (putList 500 putN l).1.toArray).size := Int.emod_lt_of_pos _ (by omega)
      refine cut_yes hl at_ (by omega) (by omega) ⟨(putList 500 putN l).1.toArray⟩ (by omega) (by omega) (at_ % ((ByteArray.mk (putList 500 putN l).1.toArray).size : Int)).toNat (by omega) (by omega) (l.map Int.toNat) hL ?_ ?_ (by simp [Hid, encRes, hx])
      · show whole _ = _
        rw [Lib.extract_data]
        have e1 : List.drop 0 (ByteArray.mk (putList 500 putN l).1.toArray).data.toList = (putList 500 putN ((l.map Int.toNat).map Int.ofNat)).1 := by rw [← hL]; rfl
        rw [e1]
        exact hg.short (l.map Int.toNat) (by rw [← hL]; exact hx) _ (by rw [← hL]; omega)
      · show whole (getList 500 getN (putList 500 putN l).1) = _
        have := hg.whole (l.map Int.toNat) (by rw [← hL]; exact hx)
        rw [← hL] at this
        exact this

end Go.Proofs.Ytjajgllkbchapaa
