/-
  Layer 7: the terms of an epoch, of what is shared, of contexts and transcripts; which of them are one.
-/
import Derived.Test.YtcfmagmhnemhaaaDoorDN
namespace Go.Proofs.YtcfmagmhnemhaaaDoor
open Go.RowKit
set_option linter.unusedSimpArgs false
set_option linter.unusedVariables false

def kJoiner : ByteArray := ⟨#[106, 111, 105, 110, 101, 114]⟩
def kMember : ByteArray := ⟨#[109, 101, 109, 98, 101, 114]⟩
def kWelcome : ByteArray := ⟨#[119, 101, 108, 99, 111, 109, 101]⟩
def kEpoch : ByteArray := ⟨#[101, 112, 111, 99, 104]⟩
def kInit : ByteArray := ⟨#[105, 110, 105, 116]⟩
def kData : ByteArray := ⟨#[100, 97, 116, 97]⟩
def kRatchets : ByteArray := ⟨#[114, 97, 116, 99, 104, 101, 116, 115]⟩
def kExporter : ByteArray := ⟨#[101, 120, 112, 111, 114, 116, 101, 114]⟩
def kExternal : ByteArray := ⟨#[101, 120, 116, 101, 114, 110, 97, 108]⟩
def kConfirm : ByteArray := ⟨#[99, 111, 110, 102, 105, 114, 109]⟩
def kMembership : ByteArray := ⟨#[109, 101, 109, 98, 101, 114, 115, 104, 105, 112]⟩
def kResumption : ByteArray := ⟨#[114, 101, 115, 117, 109, 112, 116, 105, 111, 110]⟩
def kAuthenticator : ByteArray := ⟨#[97, 117, 116, 104, 101, 110, 116, 105, 99, 97, 116, 111, 114]⟩
def kPsk : ByteArray := ⟨#[112, 115, 107]⟩
def kConfirmed : ByteArray := ⟨#[99, 111, 110, 102, 105, 114, 109, 101, 100]⟩
def kInterim : ByteArray := ⟨#[105, 110, 116, 101, 114, 105, 109]⟩
def kMac : ByteArray := ⟨#[109, 97, 99]⟩
def kExported : ByteArray := ⟨#[101, 120, 112, 111, 114, 116, 101, 100]⟩
def kExport : ByteArray := ⟨#[101, 120, 112, 111, 114, 116]⟩

theorem kJoiner_eq : (⟨#[106, 111, 105, 110, 101, 114]⟩ : ByteArray) = kJoiner := rfl
theorem kMember_eq : (⟨#[109, 101, 109, 98, 101, 114]⟩ : ByteArray) = kMember := rfl
theorem kWelcome_eq : (⟨#[119, 101, 108, 99, 111, 109, 101]⟩ : ByteArray) = kWelcome := rfl
theorem kEpoch_eq : (⟨#[101, 112, 111, 99, 104]⟩ : ByteArray) = kEpoch := rfl
theorem kInit_eq : (⟨#[105, 110, 105, 116]⟩ : ByteArray) = kInit := rfl
theorem kData_eq : (⟨#[100, 97, 116, 97]⟩ : ByteArray) = kData := rfl
theorem kRatchets_eq : (⟨#[114, 97, 116, 99, 104, 101, 116, 115]⟩ : ByteArray) = kRatchets := rfl
theorem kExporter_eq : (⟨#[101, 120, 112, 111, 114, 116, 101, 114]⟩ : ByteArray) = kExporter := rfl
theorem kExternal_eq : (⟨#[101, 120, 116, 101, 114, 110, 97, 108]⟩ : ByteArray) = kExternal := rfl
theorem kConfirm_eq : (⟨#[99, 111, 110, 102, 105, 114, 109]⟩ : ByteArray) = kConfirm := rfl
theorem kMembership_eq : (⟨#[109, 101, 109, 98, 101, 114, 115, 104, 105, 112]⟩ : ByteArray) = kMembership := rfl
theorem kResumption_eq : (⟨#[114, 101, 115, 117, 109, 112, 116, 105, 111, 110]⟩ : ByteArray) = kResumption := rfl
theorem kAuthenticator_eq : (⟨#[97, 117, 116, 104, 101, 110, 116, 105, 99, 97, 116, 111, 114]⟩ : ByteArray) = kAuthenticator := rfl
theorem kPsk_eq : (⟨#[112, 115, 107]⟩ : ByteArray) = kPsk := rfl
theorem kConfirmed_eq : (⟨#[99, 111, 110, 102, 105, 114, 109, 101, 100]⟩ : ByteArray) = kConfirmed := rfl
theorem kInterim_eq : (⟨#[105, 110, 116, 101, 114, 105, 109]⟩ : ByteArray) = kInterim := rfl
theorem kMac_eq : (⟨#[109, 97, 99]⟩ : ByteArray) = kMac := rfl
theorem kExported_eq : (⟨#[101, 120, 112, 111, 114, 116, 101, 100]⟩ : ByteArray) = kExported := rfl
theorem kExport_eq : (⟨#[101, 120, 112, 111, 114, 116]⟩ : ByteArray) = kExport := rfl

def noT : Tm := .text ⟨#[]⟩
def memberT (J S : Tm) : Tm := .kdf kMember J S
def secretT (J S C : Tm) : Tm := .kdf kEpoch (memberT J S) C
def ofT (l : ByteArray) (E : Tm) : Tm := .kdf l E noT
/-- The secrets of an epoch, in their order. -/
def epochT (J S C : Tm) : List Tm := [J, memberT J S, .kdf kWelcome (memberT J S) noT, secretT J S C, ofT kInit (secretT J S C), ofT kData (secretT J S C), ofT kRatchets (secretT J S C), ofT kExporter (secretT J S C), ofT kExternal (secretT J S C), ofT kConfirm (secretT J S C), ofT kMembership (secretT J S C), ofT kResumption (secretT J S C), ofT kAuthenticator (secretT J S C)]
def labs : List ByteArray := [kJoiner, kMember, kWelcome, kEpoch, kInit, kData, kRatchets, kExporter, kExternal, kConfirm, kMembership, kResumption, kAuthenticator]

theorem labs_inj : ∀ i < 13, ∀ j < 13, labs[i]? = labs[j]? → i = j := by decide +kernel
theorem labs_export : ∀ i < 13, labs[i]? ≠ some kExport := by decide +kernel
theorem epochT_length (J S C : Tm) : (epochT J S C).length = 13 := rfl
def joinT (A B : Tm) : Tm := .kdf kJoiner A B

theorem epochT_at (A B S C : Tm) : ∀ i < 13, ∃ l X Y, labs[i]? = some l ∧ (epochT (joinT A B) S C)[i]? = some (.kdf l X Y) := by
  intro i hi
  match i, hi with

  | 0, _ => exact ⟨_, _, _, rfl, rfl⟩
  | 1, _ => exact ⟨_, _, _, rfl, rfl⟩
  | 2, _ => exact ⟨_, _, _, rfl, rfl⟩
  | 3, _ => exact ⟨_, _, _, rfl, rfl⟩
  | 4, _ => exact ⟨_, _, _, rfl, rfl⟩
  | 5, _ => exact ⟨_, _, _, rfl, rfl⟩
  | 6, _ => exact ⟨_, _, _, rfl, rfl⟩
  | 7, _ => exact ⟨_, _, _, rfl, rfl⟩
  | 8, _ => exact ⟨_, _, _, rfl, rfl⟩
  | 9, _ => exact ⟨_, _, _, rfl, rfl⟩
  | 10, _ => exact ⟨_, _, _, rfl, rfl⟩
  | 11, _ => exact ⟨_, _, _, rfl, rfl⟩
  | 12, _ => exact ⟨_, _, _, rfl, rfl⟩

/-- Two secrets of epochs are one only at one place. -/
theorem epochT_place {A B S C A' B' S' C' : Tm} {i j : Nat} {T : Tm} (h : (epochT (joinT A B) S C)[i]? = some T) (k : (epochT (joinT A' B') S' C')[j]? = some T) : i = j := by
  have hi : i < 13 := (List.getElem?_eq_some_iff.1 h).1
  have hj : j < 13 := (List.getElem?_eq_some_iff.1 k).1
  obtain ⟨l, X, Y, e1, e2⟩ := epochT_at A B S C i hi
  obtain ⟨m, X', Y', e3, e4⟩ := epochT_at A' B' S' C' j hj
  rw [h] at e2
  rw [k] at e4
  have e5 := (Option.some.inj e2).symm.trans (Option.some.inj e4)
  simp only [Tm.kdf.injEq] at e5
  exact labs_inj i hi j hj (by rw [e1, e3, e5.1])

theorem epochT_export {A B S C X Y : Tm} {i : Nat} (h : (epochT (joinT A B) S C)[i]? = some (.kdf kExport X Y)) : False := by
  have hi : i < 13 := (List.getElem?_eq_some_iff.1 h).1
  obtain ⟨l, X', Y', e1, e2⟩ := epochT_at A B S C i hi
  rw [h] at e2
  have e5 := Option.some.inj e2
  simp only [Tm.kdf.injEq] at e5
  exact labs_export i hi (by rw [e1, e5.1])

theorem epochT_0 {A B S C A' B' S' C' : Tm} : (epochT (joinT A B) S C)[0]? = (epochT (joinT A' B') S' C')[0]? ↔ (A = A' ∧ B = B') := by
  simp [epochT, joinT]
theorem epochT_12 {A B S C A' B' S' C' : Tm} {i : Nat} (hi : i = 1 ∨ i = 2) : (epochT (joinT A B) S C)[i]? = (epochT (joinT A' B') S' C')[i]? ↔ ((A = A' ∧ B = B') ∧ S = S') := by
  rcases hi with rfl | rfl <;> simp [epochT, joinT, memberT]
theorem epochT_3 {A B S C A' B' S' C' : Tm} {i : Nat} (h3 : 3 ≤ i) (hi : i < 13) : (epochT (joinT A B) S C)[i]? = (epochT (joinT A' B') S' C')[i]? ↔ (((A = A' ∧ B = B') ∧ S = S') ∧ C = C') := by
  match i, h3, hi with

  | 3, _, _ => simp [epochT, joinT, memberT, secretT, ofT]
  | 4, _, _ => simp [epochT, joinT, memberT, secretT, ofT]
  | 5, _, _ => simp [epochT, joinT, memberT, secretT, ofT]
  | 6, _, _ => simp [epochT, joinT, memberT, secretT, ofT]
  | 7, _, _ => simp [epochT, joinT, memberT, secretT, ofT]
  | 8, _, _ => simp [epochT, joinT, memberT, secretT, ofT]
  | 9, _, _ => simp [epochT, joinT, memberT, secretT, ofT]
  | 10, _, _ => simp [epochT, joinT, memberT, secretT, ofT]
  | 11, _, _ => simp [epochT, joinT, memberT, secretT, ofT]
  | 12, _, _ => simp [epochT, joinT, memberT, secretT, ofT]

/-- What is shared beforehand, of secrets from the last to the first. -/
def pskR : List Tm → Tm
  | [] => noT
  | x :: r => .kdf kPsk (pskR r) x
def sharedT (l : List Tm) : Tm := pskR l.reverse

theorem pskR_inj : ∀ {l m : List Tm}, pskR l = pskR m → l = m
  | [], [], _ => rfl
  | [], b :: m, h => by simp [pskR, noT] at h
  | a :: l, [], h => by simp [pskR, noT] at h
  | a :: l, b :: m, h => by
    simp only [pskR, Tm.kdf.injEq, true_and] at h
    rw [h.2, pskR_inj h.1]

theorem sharedT_inj {l m : List Tm} (h : sharedT l = sharedT m) : l = m := List.reverse_inj.1 (pskR_inj h)
theorem sharedT_snoc (l : List Tm) (x : Tm) : sharedT (l ++ [x]) = .kdf kPsk (sharedT l) x := by simp [sharedT, pskR]
theorem sharedT_nil : sharedT [] = noT := rfl

def contextT (g e : Int) (t x : Tm) : Tm := listT [numT g, numT e, t, x]
def confirmedT (i c s : Tm) : Tm := .hash kConfirmed (listT [i, c, s])
def interimT (c f : Tm) : Tm := .hash kInterim (listT [c, f])
def exportT (E : Tm) (l c : ByteArray) : Tm := .kdf kExport (.kdf kExported E (.text l)) (.text c)

theorem contextT_iff {g e g' e' : Int} {t x t' x' : Tm} : contextT g e t x = contextT g' e' t' x' ↔ (g = g' ∧ e = e' ∧ t = t' ∧ x = x') := by
  constructor
  · intro h
    have := listT_inj h
    simp only [List.cons.injEq, and_true] at this
    exact ⟨numT_inj this.1, numT_inj this.2.1, this.2.2.1, this.2.2.2⟩
  · rintro ⟨rfl, rfl, rfl, rfl⟩; rfl
theorem confirmedT_iff {i c s i' c' s' : Tm} : confirmedT i c s = confirmedT i' c' s' ↔ (i = i' ∧ c = c' ∧ s = s') := by
  constructor
  · intro h
    simp only [confirmedT, Tm.hash.injEq, true_and] at h
    have := listT_inj h
    simpa using this
  · rintro ⟨rfl, rfl, rfl⟩; rfl
theorem interimT_iff {c f c' f' : Tm} : interimT c f = interimT c' f' ↔ (c = c' ∧ f = f') := by
  constructor
  · intro h
    simp only [interimT, Tm.hash.injEq, true_and] at h
    have := listT_inj h
    simpa using this
  · rintro ⟨rfl, rfl⟩; rfl
theorem context_confirmed {g e : Int} {t x i c s : Tm} : contextT g e t x ≠ confirmedT i c s := by simp [contextT, confirmedT, listT]
theorem confirmed_interim {i c s d f : Tm} : confirmedT i c s ≠ interimT d f := by
  intro h
  simp only [confirmedT, interimT, Tm.hash.injEq] at h
  exact absurd h.1 (by decide +kernel)
theorem exportT_iff {E : Tm} {a b c d : ByteArray} : exportT E a b = exportT E c d ↔ (a = c ∧ b = d) := by simp [exportT]

/-- A line of epochs: the init secret ahead of each, and all of its secrets. -/
def lineI (cs : List Tm) : Nat → Tm
  | 0 => .atom 1
  | i + 1 => ofT kInit (secretT (joinT (lineI cs i) (cs.getD i noT)) noT (contextT 1 i (.atom 2) (.atom 3)))
def lineE (cs : List Tm) (i : Nat) : List Tm := epochT (joinT (lineI cs i) (cs.getD i noT)) noT (contextT 1 i (.atom 2) (.atom 3))

theorem lineE_init (cs : List Tm) (i : Nat) : (lineE cs i)[4]? = some (lineI cs (i + 1)) := rfl

theorem lineI_inj {cs : List Tm} : ∀ {i j : Nat}, lineI cs i = lineI cs j → i = j
  | 0, 0, _ => rfl
  | 0, j + 1, h => by simp [lineI, ofT] at h
  | i + 1, 0, h => by simp [lineI, ofT] at h
  | i + 1, j + 1, h => by
    simp only [lineI, ofT, secretT, Tm.kdf.injEq, true_and, and_true, contextT_iff] at h
    omega

/-- No secret of a line comes twice. -/
theorem lineE_apart {cs : List Tm} {i j p q : Nat} {T : Tm} (h : (lineE cs i)[p]? = some T) (k : (lineE cs j)[q]? = some T) : i = j ∧ p = q := by
  have hpq := epochT_place h k
  subst hpq
  have hp : p < 13 := (List.getElem?_eq_some_iff.1 h).1
  refine ⟨?_, rfl⟩
  have e := h.trans k.symm
  unfold lineE at e
  rcases Nat.lt_or_ge p 3 with h3 | h3
  · have h0 : lineI cs i = lineI cs j := by
      rcases Nat.eq_zero_or_pos p with rfl | hp0
      · exact (epochT_0.1 e).1
      · exact ((epochT_12 (by omega)).1 e).1.1
    exact lineI_inj h0
  · have := ((epochT_3 h3 hp).1 e).2
    rw [contextT_iff] at this
    omega

end Go.Proofs.YtcfmagmhnemhaaaDoor
