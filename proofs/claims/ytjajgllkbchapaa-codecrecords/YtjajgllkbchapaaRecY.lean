/-
  CodecRecords: its walk, whole.
-/
import Derived.Test.YtjajgllkbchapaaRecX
import Derived.Test.YtjajgllkbchapaaArgR
namespace Go.Proofs.Ytjajgllkbchapaa
open Go.RowKit
set_option linter.unusedSimpArgs false
set_option linter.unusedVariables false

theorem putB_len (F : Bool) : (putB F).1.length ≤ 8 := enc_le _
theorem putB_pos (F : Bool) : 0 < (putB F).1.length := by
  show 0 < (enc F.toNat).length
  rw [enc_length]; exact Nat.pow_pos (by decide)

theorem putRec_len (A : Int) (S : ByteArray) (L : List Int) (F : Bool) : (putRec A S L F).1.length ≤ 1000 := by
  have h1 := putN_len A
  have h2 := putT_len 100 S
  have h3 := putList_len' putN_len 100 L
  have h4 := putB_len F
  have e1 : (100 : Int).toNat = 100 := rfl
  rw [e1] at h2 h3
  unfold putRec outs
  simp only [puts]
  cases hA : (putN A).2 <;> cases hS : (putT 100 S).2 <;> cases hL : (putList 100 putN L).2 <;> simp <;> (try (have h5 : (putB F).2 = true := rfl; simp [h5])) <;> omega

theorem encRes_ok {x : List UInt8 × Bool} (h : x.2 = true) : encRes x = .tuple #[.string ⟨x.1.toArray⟩, .int .i64 0] := by simp [encRes, h]
theorem encRes_no {x : List UInt8 × Bool} (h : x.2 = false) : encRes x = .tuple #[.string ⟨#[]⟩, .int .i64 22] := by simp [encRes, h]
theorem encRes_any (x : List UInt8 × Bool) : ∃ o, encRes x = .tuple #[.string o, .int .i64 (if x.2 then 0 else 22)] := by
  cases h : x.2
  · exact ⟨_, encRes_no h⟩
  · exact ⟨_, encRes_ok h⟩

theorem bytes_append (a b : List UInt8) : (⟨a.toArray⟩ : ByteArray) ++ ⟨b.toArray⟩ = ⟨(a ++ b).toArray⟩ := by
  apply ByteArray.ext
  show _ = _
  rw [ByteArray.data_append]
  simp

theorem extract_take (l : List UInt8) (k : Nat) : ((⟨l.toArray⟩ : ByteArray).extract 0 k).data.toList = l.take k := by
  rw [ByteArray.data_extract]
  simp

theorem rec_walk {w : World} {v : Value} {a : Int × ByteArray × Value × List Int × Bool} (h : ThingAt w v a) (at_ : Int) (hat : (Lit.int .i64 at_).wf = true) :
    Calls Try.prog 11 #[v, .int .i64 at_] w fun e w' => e = .returned (.bool true) ∧ Below w.heap.size w w' := by
  obtain ⟨A, S, sv, L, F⟩ := a
  obtain ⟨rfl, hL⟩ := h
  simp only at hL
  have hL' := hL
  obtain ⟨va, vc, rfl, _⟩ := hL'
  by_cases hbig : 200 < (L.length : Int) ∨ 200 < (S.size : Int) ∨ at_ < 0
  · exact rec_big A S va vc L F at_ hbig
  have h1 : ¬ 200 < (L.length : Int) := fun h => hbig (.inl h)
  have h2 : ¬ 200 < (S.size : Int) := fun h => hbig (.inr (.inl h))
  have h3 : ¬ at_ < 0 := fun h => hbig (.inr (.inr h))
  have hlen := putRec_len A S L F
  have l1 := putN_len A
  have l2 := putT_len 100 S
  have l3 := putList_len' putN_len 100 L
  have l4 := putB_len F
  have e1 : (100 : Int).toNat = 100 := rfl
  rw [e1] at l2 l3
  have KF : encRes (putB F) = .tuple #[.string ⟨(putB F).1.toArray⟩, .int .i64 0] := encRes_ok rfl
  cases hr : (putRec A S L F).2 with
  | false =>
    obtain ⟨oA, kA⟩ := encRes_any (putN A)
    obtain ⟨oS, kS⟩ := encRes_any (putT 100 S)
    obtain ⟨oL, kL⟩ := encRes_any (putList 100 putN L)
    have hno := putRec_no hr
    refine rec_no A S va vc L F hL at_ h1 h2 h3 (by show _ ≤ _; omega) (by show _ ≤ _; omega) ⟨#[]⟩ oA oS oL _ _ _ _ kA kS kL KF (encRes_no hr) ?_
    show _ ∨ _ ∨ _
    revert hno
    cases (putN A).2 <;> cases (putT 100 S).2 <;> cases (putList 100 putN L).2 <;> simp
  | true =>
    obtain ⟨o1, o2, o3, hout⟩ := putRec_ok hr
    have hA0 : A = Int.ofNat A.toNat := by
      unfold putN at o1
      cases hk : okN A with
      | true => simp [okN] at hk; show A = ((A.toNat : Nat) : Int); omega
      | false => simp [hk] at o1
    have hLn := putList_nat o3
    have b1 : (putN (Int.ofNat A.toNat)).2 = true := by rw [← hA0]; exact o1
    have b3 : (putList 100 putN ((L.map Int.toNat).map Int.ofNat)).2 = true := by rw [← hLn]; exact o3
    have back : ∀ t, getRec ((putRec A S L F).1 ++ t) = .ok ((A.toNat, S, L.map Int.toNat, F), t) := fun t => by
      have := rec_back (F := F) b1 o2 b3 t
      rw [← hA0, ← hLn] at this
      rw [hout]
      simpa [List.append_assoc] using this
    have cut : ∀ k, k < (putRec A S L F).1.length → getRec ((putRec A S L F).1.take k) = .error 20 := fun k hk => by
      rw [hout] at hk ⊢
      have := rec_cut (n := A.toNat) (S := S) (L := L.map Int.toNat) (F := F) b1 o2 b3 k (by rw [← hA0, ← hLn]; exact hk)
      rwa [← hA0, ← hLn] at this
    have hpos : 0 < (putRec A S L F).1.length := by
      have := putB_pos F
      rw [hout]; simp only [List.length_append]; omega
    generalize hRR : (putRec A S L F).1 = R at *
    have hsz : (⟨R.toArray⟩ : ByteArray).size = R.length := by simp [ByteArray.size]
    have hk0 : 0 ≤ at_ % (R.length : Int) := Int.emod_nonneg _ (by omega)
    have hk1 : at_ % (R.length : Int) < R.length := Int.emod_lt_of_pos _ (by omega)
    have hks : (at_ % (R.length : Int)).toNat < R.length := by omega
    have hsN : (⟨(putN A).1.toArray⟩ : ByteArray).size = (putN A).1.length := by simp [ByteArray.size]
    have hsS : (⟨(putT 100 S).1.toArray⟩ : ByteArray).size = (putT 100 S).1.length := by simp [ByteArray.size]
    have hsL : (⟨(putList 100 putN L).1.toArray⟩ : ByteArray).size = (putList 100 putN L).1.length := by simp [ByteArray.size]
    have hsF : (⟨(putB F).1.toArray⟩ : ByteArray).size = (putB F).1.length := by simp [ByteArray.size]
    refine rec_yes A S va vc L F hL at_ h1 h2 h3 (by show ((putRec A S L F).1.length : Int) ≤ _; rw [hRR]; omega) (by show _ ≤ _; omega) ⟨R.toArray⟩ ⟨(putN A).1.toArray⟩ ⟨(putT 100 S).1.toArray⟩ ⟨(putList 100 putN L).1.toArray⟩ ⟨(putB F).1.toArray⟩ (encRes_ok o1) (encRes_ok o2) (encRes_ok o3) KF ?_ A.toNat (at_ % (R.length : Int)).toNat (L.map Int.toNat) ?_ hLn ?_ ?_ ?_ ?_ (by rw [hsN]; omega) (by rw [hsS]; omega) (by rw [hsL]; omega) (by rw [hsF]; omega) (by rw [hsz]; omega) (by rw [hsz]; omega) (by rw [hsz]; omega) (by rw [hsz]; omega) ?_ ?_ ?_ ?_
    · show encRes _ = _
      rw [encRes_ok hr, hRR]
    · rw [beq_iff_eq]; exact hA0.symm
    · show whole (getRec R) = _
      have := back []
      rw [List.append_nil] at this
      rw [this]; rfl
    · rw [bytes_append, bytes_append, bytes_append, hout]
      simp
    · show ¬ _
      intro he
      have := congrArg ByteArray.size he
      rw [hsz] at this
      have e0 : ByteArray.empty.size = 0 := rfl
      omega
    · show _ = _
      rw [hsz, Int.tmod_eq_emod_of_nonneg (by omega)]
      omega
    · show whole (getRec _) = _
      rw [extract_take, cut _ hks]; rfl
    · show _ ≤ _
      have : ((⟨R.toArray⟩ : ByteArray).extract 0 (at_ % (R.length : Int)).toNat).data.toList.length = (R.take (at_ % (R.length : Int)).toNat).length := by rw [extract_take]
      have e2 : ((⟨R.toArray⟩ : ByteArray).extract 0 (at_ % (R.length : Int)).toNat).size = (R.take (at_ % (R.length : Int)).toNat).length := by rw [← this]; rfl
      rw [e2, List.length_take]; omega
    · show whole (getRec _) = _
      have e3 : ((⟨R.toArray⟩ : ByteArray) ++ ⟨#[0]⟩).data.toList = R ++ [0] := by rw [ByteArray.data_append]; simp
      rw [e3, back [0]]; rfl
    · show _ ≤ _
      rw [ByteArray.size_append, hsz]
      have : (⟨#[0]⟩ : ByteArray).size = 1 := rfl
      omega

end Go.Proofs.Ytjajgllkbchapaa
