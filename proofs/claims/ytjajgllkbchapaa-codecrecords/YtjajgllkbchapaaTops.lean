/-
  Encode and Decode at the codecs that the laws make; append of whole slices; calls inside a region that draws.
-/
import Derived.Test.YtjajgllkbchapaaAnchor
import Derived.Test.YtjajgllkbchapaaPureD
namespace Go.Proofs.Ytjajgllkbchapaa
open Go.RowKit
set_option linter.unusedSimpArgs false
set_option linter.unusedVariables false

theorem step_call {P : Program} {ops : Array Oper} {o : Oper} {a : Act} {w : World} {K : Act → World → Prop} {Q : Exit → Act → World → Prop} {E : Prop}
    (hg : o.guard = none) (N : FuncId) (args : Array Operand) (ts : Array TypeId) (hop : o.op = Op.call { callee := .value (.func N), args := args, argTypes := ts })
    (hent : ∀ vs w, (callFunc N vs).run P w = .ok (.enter N vs) w) (vs : Array Value) (hvs : args.map a.eval = vs)
    (hc : Calls P N vs w fun e w' => ∃ v, e = .returned v ∧ K (a.put o.dst v) w') :
    if Region.wanted o (yielded ops a.tmps) = true then Oper.wp P o a w K Q else E := by
  have hw : Region.wanted o (yielded ops a.tmps) = true := by simp [Region.wanted, hg]
  rw [if_pos hw]
  unfold Oper.wp
  have e : (execOp a.eval o).run P w = .ok (.enter N vs) w := by
    simp [execOp, hop, resolve, invoke, Deferred.ofValue, hvs, Act.eval, hent, Result.andThen]
  rw [e, Oper.upon_enter]
  refine hc.mono ?_
  rintro e w' ⟨v, rfl, hk⟩
  exact hk

theorem ent17 (vs : Array Value) (w : World) : (callFunc 17 vs).run Try.prog w = .ok (.enter 17 vs) w := by kernel_rfl
theorem ent26 (vs : Array Value) (w : World) : (callFunc 26 vs).run Try.prog w = .ok (.enter 26 vs) w := by kernel_rfl
theorem ent34 (vs : Array Value) (w : World) : (callFunc 34 vs).run Try.prog w = .ok (.enter 34 vs) w := by kernel_rfl
theorem ent37 (vs : Array Value) (w : World) : (callFunc 37 vs).run Try.prog w = .ok (.enter 37 vs) w := by kernel_rfl
theorem ent39 (vs : Array Value) (w : World) : (callFunc 39 vs).run Try.prog w = .ok (.enter 39 vs) w := by kernel_rfl
theorem ent35 (vs : Array Value) (w : World) : (callFunc 35 vs).run Try.prog w = .ok (.enter 35 vs) w := by kernel_rfl
theorem ent52 (vs : Array Value) (w : World) : (callFunc 52 vs).run Try.prog w = .ok (.enter 52 vs) w := by kernel_rfl

theorem LowList.below {α : Type} {w w' : World} {rep : Value → α → Prop} {v : Value} {l : List α} (h : LowList w.heap.size w rep v l) (hb : Below w.heap.size w w') : LowList w'.heap.size w' rep v l := by
  obtain ⟨a, cap, e, hl, hc⟩ := h
  refine ⟨a, cap, e, hl, fun hne => ?_⟩
  obtain ⟨b, off, ha, hlt, hcell⟩ := hc hne
  refine ⟨b, off, ha, Nat.lt_of_lt_of_le hlt hb.size, fun i n hi => ?_⟩
  obtain ⟨u, hu, hr⟩ := hcell i n hi
  exact ⟨u, by rw [hb.cell (p := ⟨b, _, none⟩) hlt]; exact hu, hr⟩

theorem LowList.mono {α : Type} {B : Nat} {w : World} {rep rep' : Value → α → Prop} {v : Value} {l : List α} (h : LowList B w rep v l) (hr : ∀ u a, rep u a → rep' u a) : LowList B w rep' v l := by
  obtain ⟨a, cap, e, hl, hc⟩ := h
  refine ⟨a, cap, e, hl, fun hne => ?_⟩
  obtain ⟨b, off, ha, hlt, hcell⟩ := hc hne
  refine ⟨b, off, ha, hlt, fun i n hi => ?_⟩
  obtain ⟨u, hu, h2⟩ := hcell i n hi
  exact ⟨u, hu, hr _ _ h2⟩

theorem IntsAt.low {w : World} {v : Value} {l : List Int} (h : IntsAt w v l) : LowList w.heap.size w isI v l := by
  obtain ⟨a, cap, e, hl, hc⟩ := h
  refine ⟨a, cap, e, hl, fun hne => ?_⟩
  obtain ⟨b, off, ha, hlt, hcell⟩ := hc hne
  exact ⟨b, off, ha, hlt, fun i n hi => ⟨_, hcell i n hi, rfl⟩⟩
theorem LowList.ints {w : World} {v : Value} {l : List Int} (h : LowList w.heap.size w isI v l) : IntsAt w v l := by
  obtain ⟨a, cap, e, hl, hc⟩ := h
  refine ⟨a, cap, e, hl, fun hne => ?_⟩
  obtain ⟨b, off, ha, hlt, hcell⟩ := hc hne
  refine ⟨b, off, ha, hlt, fun i n hi => ?_⟩
  obtain ⟨u, hu, h2⟩ := hcell i n hi
  unfold isI at h2
  rw [hu, h2]

theorem Row.low {α : Type} {rep : World → Value → α → Prop} {rep' : Value → α → Prop} {E base : Nat} {w : World} {v : Value} {l : List α} (h : Row rep E base w v l) (hrr : ∀ u a, rep w u a → rep' u a) : LowList w.heap.size w rep' v l := by
  obtain ⟨vs, ho, h1, hr⟩ := h
  have hvl : vs.length = l.length := by simpa using ho.1
  obtain ⟨a, c, rfl⟩ := ownsRow_form ho
  have hmax : l.length ≤ maxLen := by
    rcases ho.2 with ⟨e, h⟩ | ⟨g, cap, cur, e, _, hh, h2, h3, _⟩
    · unfold maxLen; omega
    · omega
  refine ⟨a, c, rfl, by unfold maxLen at hmax; omega, fun hne => ?_⟩
  rcases ho.2 with ⟨e, h⟩ | ⟨g, cap, cur, e, _, hh, h2, h3, h4, h5⟩
  · exfalso
    exact hne (List.eq_nil_of_length_eq_zero h)
  · have ha : a = some ⟨g, 0, none⟩ := (Value.slice.inj e).1
    subst ha
    refine ⟨g, 0, rfl, (Array.getElem?_eq_some_iff.1 hh).1, fun i x hx => ?_⟩
    have hil : i < vs.length := by have := (List.getElem?_eq_some_iff.1 hx).1; omega
    obtain ⟨u, hu⟩ : ∃ u, vs[i]? = some u := ⟨vs[i], by simp [hil]⟩
    refine ⟨u, ?_, hrr _ _ (hr i u x hu hx)⟩
    have := ho.cells (g := g) rfl i _ hu
    rw [Nat.zero_add]
    have e2 : (⟨g, 0, none⟩ : Addr).add i = ⟨g, i, none⟩ := by unfold Addr.add; split <;> simp_all
    rw [e2] at this
    exact this

/-- What was read, as what is written. -/
theorem Row.lowS {w : World} {v : Value} {l : List ByteArray} {base : Nat} (h : Row isStr 9 base w v l) : LowList w.heap.size w isS v l := h.low fun _ _ h => h
theorem Row.lowSS {w : World} {v : Value} {l : List (List ByteArray)} {base : Nat} (h : Row (Row isStr 9 0) 67 base w v l) : LowList w.heap.size w (LowList w.heap.size w isS) v l := h.low fun _ _ h => h.lowS

/-- A text's codec lies at tb. -/
def TextC (w : World) (tb : Nat) (m : Int) : Prop := tb < w.heap.size ∧ w.cell? ⟨tb, 0, none⟩ = some (.int .i64 m) ∧ 0 ≤ m ∧ m ≤ 1048576
/-- A list's codec lies at mb and cb. -/
def ListC (w : World) (mb cb : Nat) (m : Int) (x y : Value) : Prop := mb < w.heap.size ∧ cb < w.heap.size ∧ w.cell? ⟨mb, 0, none⟩ = some (.int .i64 m) ∧ w.cell? ⟨cb, 0, none⟩ = some x ∧ w.cell? ⟨cb, 1, none⟩ = some y ∧ 0 ≤ m ∧ m ≤ 1048576

theorem TextC.below {w w' : World} {tb : Nat} {m : Int} (h : TextC w tb m) (hb : Below w.heap.size w w') : TextC w' tb m :=
  ⟨Nat.lt_of_lt_of_le h.1 hb.size, by rw [hb.cell (p := ⟨tb, 0, none⟩) h.1]; exact h.2.1, h.2.2⟩
theorem ListC.below {w w' : World} {mb cb : Nat} {m : Int} {x y : Value} (h : ListC w mb cb m x y) (hb : Below w.heap.size w w') : ListC w' mb cb m x y := by
  obtain ⟨h1, h2, h3, h4, h5, h6⟩ := h
  exact ⟨Nat.lt_of_lt_of_le h1 hb.size, Nat.lt_of_lt_of_le h2 hb.size, by rw [hb.cell (p := ⟨mb, 0, none⟩) h1]; exact h3, by rw [hb.cell (p := ⟨cb, 0, none⟩) h2]; exact h4, by rw [hb.cell (p := ⟨cb, 1, none⟩) h2]; exact h5, h6⟩

theorem text_made (w : World) (m : Int) : Calls Try.prog 24 #[.int .i64 m] w fun e w' => ∃ tb, e = .returned (.agg #[.func (.func 68) #[] #[.pointer (some ⟨tb, 0, none⟩)], .func (.func 70) #[] #[.pointer (some ⟨tb, 0, none⟩)]]) ∧ TextC w' tb (boundF m) ∧ Below w.heap.size w w' := by
  refine (text_codec w m).mono ?_
  rintro e w' ⟨tb, rfl, h1, h2, h3⟩
  exact ⟨tb, rfl, ⟨h1, h2, bound_nonneg m⟩, h3⟩

theorem list_madeInt (w : World) (x y : Value) (m : Int) : Calls Try.prog 18 #[.agg #[x, y], .int .i64 m] w fun e w' => ∃ mb cb, e = .returned (.agg #[.func (.func 58) #[] #[.pointer (some ⟨mb, 0, none⟩), .pointer (some ⟨cb, 0, none⟩)], .func (.func 60) #[] #[.pointer (some ⟨mb, 0, none⟩), .pointer (some ⟨cb, 0, none⟩)]]) ∧ ListC w' mb cb (boundF m) x y ∧ Below w.heap.size w w' := by
  refine (list_codecInt w x y m).mono ?_
  rintro e w' ⟨mb, cb, rfl, h1, h2, h3, h4, h5, h6⟩
  exact ⟨mb, cb, rfl, ⟨h1, h2, h3, h4, h5, bound_nonneg m⟩, h6⟩

theorem list_madeStr (w : World) (x y : Value) (m : Int) : Calls Try.prog 30 #[.agg #[x, y], .int .i64 m] w fun e w' => ∃ mb cb, e = .returned (.agg #[.func (.func 75) #[] #[.pointer (some ⟨mb, 0, none⟩), .pointer (some ⟨cb, 0, none⟩)], .func (.func 76) #[] #[.pointer (some ⟨mb, 0, none⟩), .pointer (some ⟨cb, 0, none⟩)]]) ∧ ListC w' mb cb (boundF m) x y ∧ Below w.heap.size w w' := by
  refine (list_codecStr w x y m).mono ?_
  rintro e w' ⟨mb, cb, rfl, h1, h2, h3, h4, h5, h6⟩
  exact ⟨mb, cb, rfl, ⟨h1, h2, h3, h4, h5, bound_nonneg m⟩, h6⟩

theorem list_madeStrs (w : World) (x y : Value) (m : Int) : Calls Try.prog 33 #[.agg #[x, y], .int .i64 m] w fun e w' => ∃ mb cb, e = .returned (.agg #[.func (.func 77) #[] #[.pointer (some ⟨mb, 0, none⟩), .pointer (some ⟨cb, 0, none⟩)], .func (.func 78) #[] #[.pointer (some ⟨mb, 0, none⟩), .pointer (some ⟨cb, 0, none⟩)]]) ∧ ListC w' mb cb (boundF m) x y ∧ Below w.heap.size w w' := by
  refine (list_codecStrs w x y m).mono ?_
  rintro e w' ⟨mb, cb, rfl, h1, h2, h3, h4, h5, h6⟩
  exact ⟨mb, cb, rfl, ⟨h1, h2, h3, h4, h5, bound_nonneg m⟩, h6⟩

theorem list_madeBool (w : World) (x y : Value) (m : Int) : Calls Try.prog 36 #[.agg #[x, y], .int .i64 m] w fun e w' => ∃ mb cb, e = .returned (.agg #[.func (.func 81) #[] #[.pointer (some ⟨mb, 0, none⟩), .pointer (some ⟨cb, 0, none⟩)], .func (.func 82) #[] #[.pointer (some ⟨mb, 0, none⟩), .pointer (some ⟨cb, 0, none⟩)]]) ∧ ListC w' mb cb (boundF m) x y ∧ Below w.heap.size w w' := by
  refine (list_codecBool w x y m).mono ?_
  rintro e w' ⟨mb, cb, rfl, h1, h2, h3, h4, h5, h6⟩
  exact ⟨mb, cb, rfl, ⟨h1, h2, h3, h4, h5, bound_nonneg m⟩, h6⟩

/-- Encode of a text, a flag, lists. -/
theorem encodeT (w : World) (fget : Value) (tb : Nat) (m : Int) (s : ByteArray) (hc : TextC w tb m) : Calls Try.prog 40 #[.agg #[.func (.func 68) #[] #[.pointer (some ⟨tb, 0, none⟩)], fget], .string s] w (encoded w (putT m s)) :=
  encStr_any fun w' p hl _ h => wroteT h (by rw [hl.cell hc.1]; exact hc.2.1) rfl (by
    unfold putT
    have := enc_le s.size
    have h2 := hc.2.2.2
    have e1 : s.data.toList.length = s.size := rfl
    split
    · rw [List.nil_append, List.length_append]; omega
    · simp)

theorem encodeF (w : World) (fget : Value) (b : Bool) : Calls Try.prog 51 #[.agg #[.func (.func 65) #[] #[], fget], .bool b] w (encoded w (putB b)) :=
  encBool_any fun w' p _ _ h => wroteB h rfl (by
    unfold putB
    have := enc_le b.toNat
    simp
    omega)

theorem encodeNs (w : World) (fget y : Value) (mb cb : Nat) (m : Int) (v : Value) (l : List Int) (hc : ListC w mb cb m (.func (.func 54) #[] #[]) y) (hl : LowList w.heap.size w isI v l) (hlen : ((putList m putN l).1.length : Int) ≤ 1099511627776) :
    Calls Try.prog 17 #[.agg #[.func (.func 58) #[] #[.pointer (some ⟨mb, 0, none⟩), .pointer (some ⟨cb, 0, none⟩)], fget], v] w (encoded w (putList m putN l)) := by
  obtain ⟨h1, h2, h3, h4, h5, h6, h7⟩ := hc
  exact encInts_any fun w' p hlow hp h => putListInt h1 h2 h3 h7 h4 (fun w2 p2 bs2 v2 a2 _ _ hw hr hl2 => wroteN hw hr hl2) hlow hp h hl (by simpa using hlen)

theorem encodeFs (w : World) (fget y : Value) (mb cb : Nat) (m : Int) (v : Value) (l : List Bool) (hc : ListC w mb cb m (.func (.func 65) #[] #[]) y) (hl : LowList w.heap.size w isB v l) (hlen : ((putList m putB l).1.length : Int) ≤ 1099511627776) :
    Calls Try.prog 37 #[.agg #[.func (.func 81) #[] #[.pointer (some ⟨mb, 0, none⟩), .pointer (some ⟨cb, 0, none⟩)], fget], v] w (encoded w (putList m putB l)) := by
  obtain ⟨h1, h2, h3, h4, h5, h6, h7⟩ := hc
  exact encBools_any fun w' p hlow hp h => putListBool h1 h2 h3 h7 h4 (fun w2 p2 bs2 v2 a2 _ _ hw hr hl2 => wroteB hw hr hl2) hlow hp h hl (by simpa using hlen)

theorem encodeTs (w : World) (fget y : Value) (mb cb tb : Nat) (m mt : Int) (v : Value) (l : List ByteArray) (hc : ListC w mb cb m (.func (.func 68) #[] #[.pointer (some ⟨tb, 0, none⟩)]) y) (ht : TextC w tb mt) (hl : LowList w.heap.size w isS v l) (hlen : ((putList m (putT mt) l).1.length : Int) ≤ 1099511627776) :
    Calls Try.prog 39 #[.agg #[.func (.func 75) #[] #[.pointer (some ⟨mb, 0, none⟩), .pointer (some ⟨cb, 0, none⟩)], fget], v] w (encoded w (putList m (putT mt) l)) := by
  obtain ⟨h1, h2, h3, h4, h5, h6, h7⟩ := hc
  exact encStrs_any fun w' p hlow hp h => putListStr h1 h2 h3 h7 h4 (fun w2 p2 bs2 v2 a2 hlow2 _ hw hr hl2 => wroteT hw (by rw [hlow2.cell ht.1]; exact ht.2.1) hr hl2) hlow hp h hl (by simpa using hlen)

theorem encodeTss (w : World) (fget y y2 : Value) (mb cb ib jb tb : Nat) (m m2 mt : Int) (v : Value) (l : List (List ByteArray)) (hc : ListC w mb cb m (.func (.func 75) #[] #[.pointer (some ⟨ib, 0, none⟩), .pointer (some ⟨jb, 0, none⟩)]) y) (hc2 : ListC w ib jb m2 (.func (.func 68) #[] #[.pointer (some ⟨tb, 0, none⟩)]) y2) (ht : TextC w tb mt)
    (hl : LowList w.heap.size w (LowList w.heap.size w isS) v l) (hlen : ((putList m (putList m2 (putT mt)) l).1.length : Int) ≤ 1099511627776) :
    Calls Try.prog 35 #[.agg #[.func (.func 77) #[] #[.pointer (some ⟨mb, 0, none⟩), .pointer (some ⟨cb, 0, none⟩)], fget], v] w (encoded w (putList m (putList m2 (putT mt)) l)) := by
  obtain ⟨h1, h2, h3, h4, h5, h6, h7⟩ := hc
  obtain ⟨g1, g2, g3, g4, g5, g6, g7⟩ := hc2
  exact encStrss_any fun w' p hlow hp h => putListStrs h1 h2 h3 h7 h4 (fun w2 p2 bs2 v2 a2 hlow2 hp2 hw hr hl2 => putListStr g1 g2 g3 g7 g4 (fun w3 p3 bs3 v3 a3 hlow3 _ hw3 hr3 hl3 => wroteT hw3 (by rw [hlow3.cell ht.1]; exact ht.2.1) hr3 hl3) hlow2 hp2 hw hr hl2) hlow hp h hl (by simpa using hlen)

/-- Decode of a flag, a text, lists. -/
theorem decodeF (w : World) (fput : Value) (s : ByteArray) (hs : (s.size : Int) ≤ 1099511627776) : Calls Try.prog 21 #[.agg #[fput, .func (.func 66) #[] #[]], .string s] w (decoded isBool (.bool false) w (whole (getFlag s.data.toList))) :=
  decBool_any hs bool_one (stable_bool _) (stable_bool _) (stable_bool _) getFlag_err0 fun w' r l _ _ h => readFlag h

theorem decodeT (w : World) (fput : Value) (tb : Nat) (m : Int) (s : ByteArray) (hs : (s.size : Int) ≤ 1099511627776) (hc : TextC w tb m) : Calls Try.prog 23 #[.agg #[fput, .func (.func 70) #[] #[.pointer (some ⟨tb, 0, none⟩)]], .string s] w (decoded isStr (.string ⟨#[]⟩) w (whole (getText m s.data.toList))) :=
  decStr_any hs str_one (stable_str _) (stable_str _) (stable_str _) (getText_err0 m) fun w' r l hl _ h => readText h m hc.2.2.1 (by rw [hl.cell hc.1]; exact hc.2.1)

theorem decodeNs' (w : World) (fput x : Value) (mb cb : Nat) (m : Int) (s : ByteArray) (hs : (s.size : Int) ≤ 1099511627776) (hc : ListC w mb cb m x (.func (.func 55) #[] #[])) :
    Calls Try.prog 26 #[.agg #[fput, .func (.func 60) #[] #[.pointer (some ⟨mb, 0, none⟩), .pointer (some ⟨cb, 0, none⟩)]], .string s] w (decoded (Row isNat 3 0) (.slice none 0 0) w (whole (getList m getN s.data.toList))) := by
  obtain ⟨h1, h2, h3, h4, h5, h6, h7⟩ := hc
  exact decodeNs w fput mb cb m s hs h1 h2 h3 h6 h5

theorem decodeFs (w : World) (fput x : Value) (mb cb : Nat) (m : Int) (s : ByteArray) (hs : (s.size : Int) ≤ 1099511627776) (hc : ListC w mb cb m x (.func (.func 66) #[] #[])) :
    Calls Try.prog 38 #[.agg #[fput, .func (.func 82) #[] #[.pointer (some ⟨mb, 0, none⟩), .pointer (some ⟨cb, 0, none⟩)]], .string s] w (decoded (Row isBool 4 0) (.slice none 0 0) w (whole (getList m getFlag s.data.toList))) := by
  obtain ⟨h1, h2, h3, h4, h5, h6, h7⟩ := hc
  exact decBools_any hs (fun _ _ _ h => h.one) (stable_row (stable_bool _) (by decide)) (stable_row (stable_bool _) (by decide)) (stable_row (stable_bool _) (by decide)) (getList_err0 getFlag_err0 m)
    fun w' r l hl hr h => readListBool h1 h2 h3 h6 h5 (fun w2 r2 l2 _ _ h2 => readFlag h2) bool_one (stable_bool _) (stable_bool _) eats_flag hl hr h

theorem decodeTs (w : World) (fput x : Value) (mb cb tb : Nat) (m mt : Int) (s : ByteArray) (hs : (s.size : Int) ≤ 1099511627776) (hc : ListC w mb cb m x (.func (.func 70) #[] #[.pointer (some ⟨tb, 0, none⟩)])) (ht : TextC w tb mt) :
    Calls Try.prog 29 #[.agg #[fput, .func (.func 76) #[] #[.pointer (some ⟨mb, 0, none⟩), .pointer (some ⟨cb, 0, none⟩)]], .string s] w (decoded (Row isStr 9 0) (.slice none 0 0) w (whole (getList m (getText mt) s.data.toList))) := by
  obtain ⟨h1, h2, h3, h4, h5, h6, h7⟩ := hc
  exact decStrs_any hs (fun _ _ _ h => h.one) (stable_row (stable_str _) (by decide)) (stable_row (stable_str _) (by decide)) (stable_row (stable_str _) (by decide)) (getList_err0 (getText_err0 mt) m)
    fun w' r l hl hr h => readListStr h1 h2 h3 h6 h5 (fun w2 r2 l2 hl2 _ h2 => readText h2 mt ht.2.2.1 (by rw [hl2.cell ht.1]; exact ht.2.1)) str_one (stable_str _) (stable_str _) (eats_text mt) hl hr h

theorem decodeTss (w : World) (fput x x2 : Value) (mb cb ib jb tb : Nat) (m m2 mt : Int) (s : ByteArray) (hs : (s.size : Int) ≤ 1099511627776) (hc : ListC w mb cb m x (.func (.func 76) #[] #[.pointer (some ⟨ib, 0, none⟩), .pointer (some ⟨jb, 0, none⟩)])) (hc2 : ListC w ib jb m2 x2 (.func (.func 70) #[] #[.pointer (some ⟨tb, 0, none⟩)])) (ht : TextC w tb mt) :
    Calls Try.prog 34 #[.agg #[fput, .func (.func 78) #[] #[.pointer (some ⟨mb, 0, none⟩), .pointer (some ⟨cb, 0, none⟩)]], .string s] w (decoded (Row (Row isStr 9 0) 67 0) (.slice none 0 0) w (whole (getList m (getList m2 (getText mt)) s.data.toList))) := by
  obtain ⟨h1, h2, h3, h4, h5, h6, h7⟩ := hc
  obtain ⟨g1, g2, g3, g4, g5, g6, g7⟩ := hc2
  have st : ∀ T, T ≠ 9 → T ≠ 67 → Stable (Row (Row isStr 9 0) 67 0) T := fun T a b => stable_row (stable_row (stable_str _) a) b
  exact decStrss_any hs (fun _ _ _ h => h.one) (st _ (by decide) (by decide)) (st _ (by decide) (by decide)) (st _ (by decide) (by decide)) (getList_err0 (getList_err0 (getText_err0 mt) m2) m)
    fun w' r l hl hr h => readListStrs h1 h2 h3 h6 h5 (fun w2 r2 l2 hl2 hr2 h2 => readListStr g1 g2 g3 g6 g5 (fun w3 r3 l3 hl3 _ h3 => readText h3 mt ht.2.2.1 (by rw [hl3.cell ht.1]; exact ht.2.1)) str_one (stable_str _) (stable_str _) (eats_text mt) hl2 hr2 h2)
      (fun _ _ _ h => h.one) (stable_row (stable_str _) (by decide)) (stable_row (stable_str _) (by decide)) (eats_list (eats_text mt) m2) hl hr h

end Go.Proofs.Ytjajgllkbchapaa
