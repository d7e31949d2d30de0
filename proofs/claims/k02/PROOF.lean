import PyProof.Rows.All
import Wide.All
import OpenK.AllK
import Wide.FinOn
import HandS.ForMost
import HandS.IsInst
import HandS.StrMore
import HandS.Codes
import HandS.Walk
import HandS.FStr
import HandS.ReplaceList
import KE.KExcSuper
import HandS.ForExc
import HandS.ExcInit
import PyProof.Rows.SetFrom
import HandS.SetFor
import HandS.SetKeys
import HandS.TupSets
import HandS.More
import HandS.Star
import HandS.Style
import HandS.TupAny
import HandS.RaiseMore
import KE.KExcIs
import HandS.ExcIs
import HandS.HotCalls
import PySem.Challenge.RW_settledland_k02_trees_are_read_as_printe
set_option Elab.async false
set_option linter.all false
set_option maxRecDepth 100000
set_option maxHeartbeats 4000000
namespace Tk
/-! The mathematics of tokens: texts are lists of code points. -/
def blank (c : Nat) : Bool := c == 32 || c == 10
def letter (c : Nat) : Bool := (decide (97 ≤ c) && decide (c ≤ 122)) || (decide (65 ≤ c) && decide (c ≤ 90))
def digit (c : Nat) : Bool := decide (48 ≤ c) && decide (c ≤ 57)
def inner (c : Nat) : Bool := letter c || digit c || (c == 95 || c == 46 || c == 35)
def signC (c : Nat) : Bool := [123, 125, 58, 59, 61, 42, 43].contains c
/-- which signs a token goes on with, by its first sign -/
def going (c : Nat) : Nat → Bool := if letter c then inner else if digit c then digit else fun _ => false
/-- the length of the run of p at the head -/
def run (p : Nat → Bool) : List Nat → Nat
  | [] => 0
  | c :: r => if p c then run p r + 1 else 0
theorem run_le (p : Nat → Bool) : ∀ l, run p l ≤ l.length
  | [] => Nat.le_refl _
  | c :: r => by
    unfold run
    split
    · exact Nat.succ_le_succ (run_le p r)
    · exact Nat.zero_le _
theorem run_at {p : Nat → Bool} : ∀ {l : List Nat} {i : Nat} {c : Nat}, i < run p l → l[i]? = some c → p c = true
  | [], i, _, h, _ => absurd h (Nat.not_lt_zero _)
  | d :: r, i, c, h, e => by
    unfold run at h
    by_cases hd : p d = true
    · rw [if_pos hd] at h
      cases i with
      | zero =>
        have : d = c := Option.some.inj e
        rw [← this]; exact hd
      | succ j => exact run_at (l := r) (i := j) (by omega) e
    · rw [if_neg hd] at h
      exact absurd h (Nat.not_lt_zero _)
theorem run_end {p : Nat → Bool} : ∀ {l : List Nat} {c : Nat}, l[run p l]? = some c → p c = false
  | [], _, e => by simp [run] at e
  | d :: r, c, e => by
    by_cases hd : p d = true
    · have h : run p (d :: r) = run p r + 1 := by simp [run, hd]
      rw [h] at e
      exact run_end (l := r) e
    · have h : run p (d :: r) = 0 := by simp [run, hd]
      rw [h] at e
      have : d = c := Option.some.inj e
      rw [← this]
      simpa using hd
/-- the least number n such that all before n have p, and at n is the end or not p -/
theorem run_eq {p : Nat → Bool} : ∀ {l : List Nat} {n : Nat}, n ≤ l.length → (∀ i c, i < n → l[i]? = some c → p c = true) → (∀ c, l[n]? = some c → p c = false) → run p l = n
  | [], n, h, _, _ => by
    have : n = 0 := Nat.le_zero.mp h
    rw [this]; rfl
  | d :: r, 0, _, _, h3 => by
    have := h3 d rfl
    simp [run, this]
  | d :: r, n + 1, h1, h2, h3 => by
    have hd : p d = true := h2 0 d (by omega) rfl
    have ih : run p r = n := run_eq (by simpa using h1) (fun i c hi e => h2 (i + 1) c (by omega) e) (fun c e => h3 c e)
    simp [run, hd, ih]
/-- a token's length: the first sign, then the run behind it -/
def tokLen (c : Nat) (r : List Nat) : Nat := run (going c) r + 1
/-- signs up to the next newline -/
def notNl (c : Nat) : Bool := !(c == 10)
inductive Srt where | word | name | number | sign | wrong
deriving DecidableEq
def sortOf (isWord : List Nat → Bool) (piece : List Nat) : Srt :=
  match piece with
  | [] => .wrong
  | c :: _ => if letter c then (if isWord piece then .word else .name) else if digit c then .number else if signC c then .sign else .wrong
def toks (isWord : List Nat → Bool) (i : Nat) : List Nat → List (Srt × Nat × Nat)
  | [] => []
  | c :: r =>
    if blank c then toks isWord (i + 1) r
    else if c = 33 then toks isWord (i + 1 + run notNl r) (r.drop (run notNl r))
    else (sortOf isWord ((c :: r).take (tokLen c r)), i, i + tokLen c r) :: toks isWord (i + tokLen c r) (r.drop (run (going c) r))
termination_by l => l.length
decreasing_by
  · simp
  · simp [List.length_drop]; omega
  · simp [List.length_drop]; omega
variable {isWord : List Nat → Bool}
theorem toks_nil {i : Nat} : toks isWord i [] = [] := by unfold toks; rfl
theorem toks_blank {i c : Nat} {r : List Nat} (h : blank c = true) : toks isWord i (c :: r) = toks isWord (i + 1) r := by
  rw [toks]; simp [h]
theorem toks_note {i c : Nat} {r : List Nat} (h : c = 33) : toks isWord i (c :: r) = toks isWord (i + 1 + run notNl r) (r.drop (run notNl r)) := by
  subst h
  rw [toks]; simp [blank]
theorem toks_tok {i c : Nat} {r : List Nat} (h : blank c = false) (h2 : c ≠ 33) :
    toks isWord i (c :: r) = (sortOf isWord ((c :: r).take (tokLen c r)), i, i + tokLen c r) :: toks isWord (i + tokLen c r) (r.drop (run (going c) r)) := by
  rw [toks]; simp [h, h2]
/-- over a text, from a place -/
def from_ (isWord : List Nat → Bool) (l : List Nat) (i : Nat) : List (Srt × Nat × Nat) := toks isWord i (l.drop i)
theorem drop_at {l : List Nat} {i c : Nat} (h : l[i]? = some c) : l.drop i = c :: l.drop (i + 1) := by
  obtain ⟨h1, h2⟩ := List.getElem?_eq_some_iff.mp h
  rw [List.drop_eq_getElem_cons h1, h2]
theorem from_end {l : List Nat} {i : Nat} (h : l.length ≤ i) : from_ isWord l i = [] := by
  unfold from_
  rw [List.drop_eq_nil_of_le h, toks_nil]
theorem from_blank {l : List Nat} {i c : Nat} (h : l[i]? = some c) (hb : blank c = true) : from_ isWord l i = from_ isWord l (i + 1) := by
  unfold from_
  rw [drop_at h, toks_blank hb]
/-- behind the note that begins at i -/
def noteEnd (l : List Nat) (i : Nat) : Nat := i + run notNl (l.drop i)
theorem from_note {l : List Nat} {i c : Nat} (h : l[i]? = some c) (hb : c = 33) : from_ isWord l i = from_ isWord l (noteEnd l (i + 1)) := by
  unfold from_ noteEnd
  rw [drop_at h, toks_note hb, List.drop_drop]
/-- the end of the token that begins at i -/
def tokEnd (l : List Nat) (i : Nat) : Nat := match l[i]? with | some c => i + 1 + run (going c) (l.drop (i + 1)) | none => i
theorem tokEnd_of {l : List Nat} {i c : Nat} (h : l[i]? = some c) : tokEnd l i = i + 1 + run (going c) (l.drop (i + 1)) := by
  unfold tokEnd; rw [h]
theorem tokEnd_le {l : List Nat} {i c : Nat} (h : l[i]? = some c) : tokEnd l i ≤ l.length ∧ i < tokEnd l i := by
  rw [tokEnd_of h]
  have h1 := run_le (going c) (l.drop (i + 1))
  rw [List.length_drop] at h1
  have h2 := (List.getElem?_eq_some_iff.mp h).1
  omega
theorem noteEnd_le {l : List Nat} {i : Nat} (h : i ≤ l.length) : noteEnd l i ≤ l.length ∧ i ≤ noteEnd l i := by
  unfold noteEnd
  have h1 := run_le notNl (l.drop i)
  rw [List.length_drop] at h1
  omega
def piece (l : List Nat) (i j : Nat) : List Nat := (l.drop i).take (j - i)
theorem from_tok {l : List Nat} {i c : Nat} (h : l[i]? = some c) (hb : blank c = false) (h2 : c ≠ 33) :
    from_ isWord l i = (sortOf isWord (piece l i (tokEnd l i)), i, tokEnd l i) :: from_ isWord l (tokEnd l i) := by
  unfold from_ piece
  rw [tokEnd_of h, drop_at h, toks_tok hb h2, List.drop_drop]
  unfold tokLen
  have e1 : i + 1 + run (going c) (List.drop (i + 1) l) - i = run (going c) (List.drop (i + 1) l) + 1 := by omega
  have e2 : i + (run (going c) (List.drop (i + 1) l) + 1) = i + 1 + run (going c) (List.drop (i + 1) l) := by omega
  rw [e1, e2]
theorem piece_head {l : List Nat} {i c : Nat} (h : l[i]? = some c) : ∃ r, piece l i (tokEnd l i) = c :: r := by
  unfold piece
  rw [tokEnd_of h, drop_at h]
  have e1 : i + 1 + run (going c) (List.drop (i + 1) l) - i = run (going c) (List.drop (i + 1) l) + 1 := by omega
  rw [e1]
  exact ⟨_, rfl⟩
theorem piece_one {l : List Nat} {i c : Nat} (h : l[i]? = some c) (h1 : letter c = false) (h2 : digit c = false) : tokEnd l i = i + 1 ∧ piece l i (tokEnd l i) = [c] := by
  have e : run (going c) (l.drop (i + 1)) = 0 := by
    have hg : going c = fun _ => false := by unfold going; simp [h1, h2]
    rw [hg]
    cases l.drop (i + 1) <;> simp [run]
  have e2 : tokEnd l i = i + 1 := by rw [tokEnd_of h, e]
  refine ⟨e2, ?_⟩
  unfold piece
  rw [e2, drop_at h]
  simp
/-! the law's own loop: a place behind which nothing is passed over, a note that is open -/
def resume (isWord : List Nat → Bool) (l : List Nat) (i behind : Nat) (note : Bool) : List (Srt × Nat × Nat) :=
  if note then from_ isWord l (noteEnd l i) else from_ isWord l (max i behind)
theorem noteEnd_step {l : List Nat} {i c : Nat} (h : l[i]? = some c) (hc : c ≠ 10) : noteEnd l i = noteEnd l (i + 1) := by
  unfold noteEnd
  rw [drop_at h]
  have : notNl c = true := by simp [notNl, hc]
  simp [run, this]
  omega
theorem noteEnd_nl {l : List Nat} {i c : Nat} (h : l[i]? = some c) (hc : c = 10) : noteEnd l i = i := by
  unfold noteEnd
  rw [drop_at h]
  have : notNl c = false := by simp [notNl, hc]
  simp [run, this]
theorem resume_nl {l : List Nat} {i behind c : Nat} {note : Bool} (h : l[i]? = some c) (hc : c = 10) (hn : note = true → behind ≤ i) : resume isWord l i behind note = resume isWord l i behind false := by
  cases note with
  | false => rfl
  | true =>
    unfold resume
    rw [noteEnd_nl h hc]
    have := hn rfl
    simp [Nat.max_eq_left this]
theorem resume_end {l : List Nat} {behind : Nat} {note : Bool} (hb : behind ≤ l.length) : resume isWord l l.length behind note = [] := by
  unfold resume
  cases note with
  | false =>
    rw [if_neg (by decide)]
    exact from_end (Nat.le_max_left _ _)
  | true =>
    rw [if_pos rfl]
    exact from_end (noteEnd_le (Nat.le_refl _)).2
theorem resume_behind {l : List Nat} {i behind : Nat} (h : i < behind) : resume isWord l i behind false = resume isWord l (i + 1) behind false := by
  unfold resume
  rw [if_neg (by decide), if_neg (by decide), Nat.max_eq_right (by omega), Nat.max_eq_right (by omega)]
theorem resume_note {l : List Nat} {i behind c : Nat} (h : l[i]? = some c) (hc : c ≠ 10) : resume isWord l i behind true = resume isWord l (i + 1) behind true := by
  unfold resume
  rw [if_pos rfl, if_pos rfl, noteEnd_step h hc]
theorem resume_blank {l : List Nat} {i behind c : Nat} (h : l[i]? = some c) (hb : blank c = true) (hi : behind ≤ i) : resume isWord l i behind false = resume isWord l (i + 1) behind false := by
  unfold resume
  rw [if_neg (by decide), if_neg (by decide), Nat.max_eq_left hi, Nat.max_eq_left (by omega), from_blank h hb]
theorem resume_open {l : List Nat} {i behind c : Nat} (h : l[i]? = some c) (hc : c = 33) (hi : behind ≤ i) : resume isWord l i behind false = resume isWord l (i + 1) (i + 1) true := by
  unfold resume
  rw [if_neg (by decide), if_pos rfl, Nat.max_eq_left hi, from_note h hc]
theorem resume_tok {l : List Nat} {i behind c : Nat} (h : l[i]? = some c) (hb : blank c = false) (h2 : c ≠ 33) (hi : behind ≤ i) :
    resume isWord l i behind false = (sortOf isWord (piece l i (tokEnd l i)), i, tokEnd l i) :: resume isWord l (i + 1) (tokEnd l i) false := by
  unfold resume
  have h3 := (tokEnd_le h).2
  rw [if_neg (by decide), if_neg (by decide), Nat.max_eq_left hi, Nat.max_eq_right (by omega), from_tok h hb h2]
end Tk
/-! What all laws share: texts, heaps, data, the tape. -/
namespace LB
open PySem PySem.Spec PyProof.Rows L2
theorem beq_of {a b : Bool} (h : a = true ↔ b = true) : a = b := by
  cases a <;> cases b <;> simp_all
abbrev one (c : Nat) : V := .str ⟨#[c]⟩
abbrev txt (l : List Nat) : V := .str ⟨l.toArray⟩
theorem slen (l : List Nat) : (⟨l.toArray⟩ : Str).length = l.length := by simp [Str.length]
theorem stl (l : List Nat) : (⟨l.toArray⟩ : Str).cps.toList = l := by simp
theorem szl {n : Nat} (h : n ≤ 100000) : n ≤ sizeLine := Nat.le_trans h (by decide)
theorem szt {l : List Nat} (h : l.length ≤ 100000) : (⟨l.toArray⟩ : Str).length ≤ sizeLine := by
  rw [slen]; exact szl h
theorem at_txt {l : List Nat} {i c : Nat} (h : l[i]? = some c) : atI (⟨l.toArray⟩ : Str).cps.toList (i : Int) = some c := by
  rw [stl]; exact atI_nat h
theorem getD_of {l : List Nat} {i : Nat} (h : i < l.length) : ∃ c, l[i]? = some c := ⟨l[i], List.getElem?_eq_getElem h⟩
theorem same_seqT {K : PySem.W.Frag} {H H' : Hp} {a : Addr} {xs : List V} (e : Same H H') (h : SqT K H a xs) : SqT K H' a xs := by
  rcases h with (h | ⟨o, h⟩) | h
  · exact .inl (.inl (e _ _ h))
  · exact .inl (.inr ⟨o, e _ _ h⟩)
  · exact .inr h
mutual
theorem dp_mono {K : PySem.W.Frag} {H H' : Hp} (e : Same H H') : ∀ (d : PyData) (v : V), Dp K H v d → Dp K H' v d
  | .none, _, h => by cases h; exact .non
  | .bool b, _, h => by cases h; exact .bl b
  | .int i, _, h => by cases h; exact .int i
  | .str x, _, h => by cases h; exact .str x
  | .list ds, _, h => by
    cases h with
    | lst hs ha => exact .lst (e.seq hs) (dpAll_mono e ds _ ha)
  | .tuple ds, _, h => by
    cases h with
    | tup hs ha => exact .tup (same_seqT e hs) (dpAll_mono e ds _ ha)
  | .dict _, _, h => by cases h
theorem dpAll_mono {K : PySem.W.Frag} {H H' : Hp} (e : Same H H') : ∀ (ds : List PyData) (vs : List V), DpAll K H vs ds → DpAll K H' vs ds
  | [], _, h => by cases h; exact .nil
  | d :: ds, _, h => by
    cases h with
    | cons h1 h2 => exact .cons (dp_mono e d _ h1) (dpAll_mono e ds _ h2)
end
theorem dpAll_snoc {K : PySem.W.Frag} {H : Hp} : ∀ {vs : List V} {ds : List PyData} {v : V} {d : PyData}, DpAll K H vs ds → Dp K H v d → DpAll K H (vs ++ [v]) (ds ++ [d])
  | _, _, _, _, .nil, h => .cons h .nil
  | _, _, _, _, .cons a b, h => .cons a (dpAll_snoc b h)
theorem dpAll_len {K : PySem.W.Frag} {H : Hp} : ∀ {vs : List V} {ds : List PyData}, DpAll K H vs ds → vs.length = ds.length
  | _, _, .nil => rfl
  | _, _, .cons _ b => congrArg (· + 1) (dpAll_len b)
theorem dpAll_get {K : PySem.W.Frag} {H : Hp} : ∀ {vs : List V} {ds : List PyData} {i : Nat}, DpAll K H vs ds → i < vs.length → ∃ v d, vs[i]? = some v ∧ ds[i]? = some d ∧ Dp K H v d
  | _, _, _, .nil, h => absurd h (Nat.not_lt_zero _)
  | _, _, 0, .cons a _, _ => ⟨_, _, rfl, rfl, a⟩
  | _, _, i + 1, .cons _ b, h => dpAll_get (i := i) b (Nat.lt_of_succ_lt_succ h)
theorem same_upd {H : Hp} {p : Addr} {o : HO} (h : H p = none) : Same H (upd H p o) := fun b x e => by
  rw [upd_ne (ne_of_none e h)]
  exact e
theorem eq_one {c d : Nat} {s : Str} (h : s = ⟨#[d]⟩) : decide (one c = .str s) = decide (c = d) := by
  subst h
  refine decide_eq_decide.mpr ⟨fun e => ?_, fun e => by rw [e]⟩
  have e1 : (⟨#[c]⟩ : Str) = ⟨#[d]⟩ := V.str.inj e
  have e2 : ([c] : List Nat) = [d] := congrArg (fun z : Str => z.cps.toList) e1
  exact (List.cons.inj e2).1
/-! ### _law_same: equal data -/
def okD : Nat → PyData → Prop
  | _, .none => True
  | _, .bool _ => True
  | _, .int _ => True
  | _, .str _ => True
  | 0, .list _ => False
  | 0, .tuple _ => False
  | n + 1, .list ds => ds.length ≤ 1000000 ∧ ∀ d ∈ ds, okD n d
  | n + 1, .tuple ds => ds.length ≤ 1000000 ∧ ∀ d ∈ ds, okD n d
  | _, .dict _ => False
def spIsInt (K : PySem.W.Frag) : Sp := fun vs H Q _ => ∃ i : Int, vs = [.int i] ∧ Q (.bl true) H
def SqX (K : PySem.W.Frag) (H : Hp) (a : Addr) (xs : List V) : Prop := SqL K H a xs ∨ SqT K H a xs
def spItems (K : PySem.W.Frag) (n : Nat) : Sp := fun vs H Q _ => ∃ (a b : Addr) (xs ys : List V) (ds : List PyData), vs = [.ref a, .ref b] ∧ SqX K H a xs ∧ SqX K H b ys ∧ DpAll K H xs ds ∧ DpAll K H ys ds ∧ 0 < n ∧ ds.length ≤ 1000000 ∧ (∀ d ∈ ds, okD (n - 1) d) ∧ Q (.bl true) H
def spSame (K : PySem.W.Frag) (n : Nat) : Sp := fun vs H Q _ => ∃ (x y : V) (d : PyData), vs = [x, y] ∧ Dp K H x d ∧ Dp K H y d ∧ okD n d ∧ Q (.bl true) H
def tyN : PyData → String
  | .none => "NoneType" | .bool _ => "bool" | .int _ => "int" | .str _ => "str" | .list _ => "list" | .tuple _ => "tuple" | .dict _ => "dict"
theorem ty_d {K : PySem.W.Frag} {H : Hp} {v : V} {d : PyData} (h : Dp K H v d) : TyX K H v (.type (tyN d)) := by
  cases h with
  | non => exact .base .non
  | bl b => exact .base (.bl b)
  | int i => exact .base (.int i)
  | str x => exact .base (.str x)
  | lst hs _ =>
    rcases hs with (h | ⟨o, h⟩) | ⟨o, its, n, h, c, _⟩
    · exact .base (.lst h)
    · exact .base (.frz h)
    · exact .kList h c
  | tup hs _ =>
    rcases hs with (h | ⟨o, h⟩) | ⟨o, its, n, h, c, _⟩
    · exact .base (.tup h)
    · exact .fTuple h
    · exact .kTuple h c
theorem isi_test {K : PySem.W.Frag} {σ : L2.St} {H : Hp} {i : Nat} {x : V} {T t : String} {b : Bool} {R : Bool → Hp → Prop} (hs : σ[i]? = some (some x)) (ty : TyX K H x (.type t)) (h : kitB t T = some b) (q : R b H) :
    tB (tCB (rIsi K) (tCons (tVar i) (tCons (tC (.ty T)) tNil))) σ H R := ⟨_, hs, _, _, _, _, _, rfl, .ty _, ty, kit_ty h, _, rfl, q⟩
theorem isi_val {K : PySem.W.Frag} {σ : L2.St} {H : Hp} {i : Nat} {x : V} {T t : String} {b : Bool} {R : V → Hp → Prop} (hs : σ[i]? = some (some x)) (ty : TyX K H x (.type t)) (h : kitB t T = some b) (q : R (.bl b) H) :
    tCB (rIsi K) (tCons (tVar i) (tCons (tC (.ty T)) tNil)) σ H R := ⟨_, hs, _, _, _, _, _, rfl, .ty _, ty, kit_ty h, q⟩
theorem dec_self {α : Type} [DecidableEq α] (x : α) : decide (x = x) = true := decide_eq_true rfl
/-! ### the tape -/
abbrev kCells : Key := Sum.inr "cells"
abbrev kAt : Key := Sum.inr "at"
abbrev kLeft : Key := Sum.inr "left"
abbrev kSeed : Key := Sum.inr "seed"
abbrev kSalt : Key := Sum.inr "salt"
def tapeK (c : Addr) (at_ left seed salt : Int) : List (Key × V) := [(kCells, .ref c), (kAt, .int at_), (kLeft, .int left), (kSeed, .int seed), (kSalt, .int salt)]
section
variable {c : Addr} {a l s z x : Int}
theorem s_cells_at : ¬ Str.ofString "cells" = Str.ofString "at" := by decide +kernel
theorem s_cells_left : ¬ Str.ofString "cells" = Str.ofString "left" := by decide +kernel
theorem s_cells_seed : ¬ Str.ofString "cells" = Str.ofString "seed" := by decide +kernel
theorem s_cells_salt : ¬ Str.ofString "cells" = Str.ofString "salt" := by decide +kernel
theorem s_at_cells : ¬ Str.ofString "at" = Str.ofString "cells" := by decide +kernel
theorem s_at_left : ¬ Str.ofString "at" = Str.ofString "left" := by decide +kernel
theorem s_at_seed : ¬ Str.ofString "at" = Str.ofString "seed" := by decide +kernel
theorem s_at_salt : ¬ Str.ofString "at" = Str.ofString "salt" := by decide +kernel
theorem s_left_cells : ¬ Str.ofString "left" = Str.ofString "cells" := by decide +kernel
theorem s_left_at : ¬ Str.ofString "left" = Str.ofString "at" := by decide +kernel
theorem s_left_seed : ¬ Str.ofString "left" = Str.ofString "seed" := by decide +kernel
theorem s_left_salt : ¬ Str.ofString "left" = Str.ofString "salt" := by decide +kernel
theorem s_seed_cells : ¬ Str.ofString "seed" = Str.ofString "cells" := by decide +kernel
theorem s_seed_at : ¬ Str.ofString "seed" = Str.ofString "at" := by decide +kernel
theorem s_seed_left : ¬ Str.ofString "seed" = Str.ofString "left" := by decide +kernel
theorem s_seed_salt : ¬ Str.ofString "seed" = Str.ofString "salt" := by decide +kernel
theorem s_salt_cells : ¬ Str.ofString "salt" = Str.ofString "cells" := by decide +kernel
theorem s_salt_at : ¬ Str.ofString "salt" = Str.ofString "at" := by decide +kernel
theorem s_salt_left : ¬ Str.ofString "salt" = Str.ofString "left" := by decide +kernel
theorem s_salt_seed : ¬ Str.ofString "salt" = Str.ofString "seed" := by decide +kernel
theorem n1 : ¬ kCells = kAt := by decide +kernel
theorem n2 : ¬ kCells = kLeft := by decide +kernel
theorem n3 : ¬ kCells = kSeed := by decide +kernel
theorem n4 : ¬ kCells = kSalt := by decide +kernel
theorem n5 : ¬ kAt = kLeft := by decide +kernel
theorem n6 : ¬ kAt = kSeed := by decide +kernel
theorem n7 : ¬ kAt = kSalt := by decide +kernel
theorem n8 : ¬ kLeft = kSeed := by decide +kernel
theorem n9 : ¬ kLeft = kSalt := by decide +kernel
theorem n10 : ¬ kSeed = kSalt := by decide +kernel
theorem m5 : ¬ kLeft = kAt := by decide +kernel
theorem m6 : ¬ kSeed = kAt := by decide +kernel
theorem m7 : ¬ kSalt = kAt := by decide +kernel
theorem m8 : ¬ kSeed = kLeft := by decide +kernel
theorem m9 : ¬ kSalt = kLeft := by decide +kernel
theorem m10 : ¬ kSalt = kSeed := by decide +kernel
theorem v_cells : valV (tapeK c a l s z) kCells = some (.ref c) := valV_pos rfl
theorem v_at : valV (tapeK c a l s z) kAt = some (.int a) := by
  unfold tapeK
  rw [valV_neg n1, valV_pos rfl]
theorem v_left : valV (tapeK c a l s z) kLeft = some (.int l) := by
  unfold tapeK
  rw [valV_neg n2, valV_neg n5, valV_pos rfl]
theorem v_seed : valV (tapeK c a l s z) kSeed = some (.int s) := by
  unfold tapeK
  rw [valV_neg n3, valV_neg n6, valV_neg n8, valV_pos rfl]
theorem v_salt : valV (tapeK c a l s z) kSalt = some (.int z) := by
  unfold tapeK
  rw [valV_neg n4, valV_neg n7, valV_neg n9, valV_neg n10, valV_pos rfl]
theorem p_at : putK (tapeK c a l s z) kAt (.int x) = tapeK c x l s z := by
  unfold putK tapeK
  simp [s_cells_at, s_cells_left, s_cells_seed, s_cells_salt, s_at_cells, s_at_left, s_at_seed, s_at_salt, s_left_cells, s_left_at, s_left_seed, s_left_salt, s_seed_cells, s_seed_at, s_seed_left, s_seed_salt, s_salt_cells, s_salt_at, s_salt_left, s_salt_seed]
theorem p_left : putK (tapeK c a l s z) kLeft (.int x) = tapeK c a x s z := by
  unfold putK tapeK
  simp [s_cells_at, s_cells_left, s_cells_seed, s_cells_salt, s_at_cells, s_at_left, s_at_seed, s_at_salt, s_left_cells, s_left_at, s_left_seed, s_left_salt, s_seed_cells, s_seed_at, s_seed_left, s_seed_salt, s_salt_cells, s_salt_at, s_salt_left, s_salt_seed]
theorem p_salt : putK (tapeK c a l s z) kSalt (.int x) = tapeK c a l s x := by
  unfold putK tapeK
  simp [s_cells_at, s_cells_left, s_cells_seed, s_cells_salt, s_at_cells, s_at_left, s_at_seed, s_at_salt, s_left_cells, s_left_at, s_left_seed, s_left_salt, s_seed_cells, s_seed_at, s_seed_left, s_seed_salt, s_salt_cells, s_salt_at, s_salt_left, s_salt_seed]
theorem p_new : mergeK [] (tapeK c a l s z) = tapeK c a l s z := by
  unfold mergeK tapeK
  simp [putK, s_cells_at, s_cells_left, s_cells_seed, s_cells_salt, s_at_cells, s_at_left, s_at_seed, s_at_salt, s_left_cells, s_left_at, s_left_seed, s_left_salt, s_seed_cells, s_seed_at, s_seed_left, s_seed_salt, s_salt_cells, s_salt_at, s_salt_left, s_salt_seed]
theorem dg_cells {H : Hp} {t : Addr} (ht : H t = some (.dK (tapeK c a l s z))) : DGet H t (V.str "cells") (some (.ref c)) := by
  have h := DGet.k (k := kCells) ht
  rwa [v_cells] at h
theorem dg_at {H : Hp} {t : Addr} (ht : H t = some (.dK (tapeK c a l s z))) : DGet H t (V.str "at") (some (.int a)) := by
  have h := DGet.k (k := kAt) ht
  rwa [v_at] at h
theorem dg_left {H : Hp} {t : Addr} (ht : H t = some (.dK (tapeK c a l s z))) : DGet H t (V.str "left") (some (.int l)) := by
  have h := DGet.k (k := kLeft) ht
  rwa [v_left] at h
theorem dg_seed {H : Hp} {t : Addr} (ht : H t = some (.dK (tapeK c a l s z))) : DGet H t (V.str "seed") (some (.int s)) := by
  have h := DGet.k (k := kSeed) ht
  rwa [v_seed] at h
theorem dg_salt {H : Hp} {t : Addr} (ht : H t = some (.dK (tapeK c a l s z))) : DGet H t (V.str "salt") (some (.int z)) := by
  have h := DGet.k (k := kSalt) ht
  rwa [v_salt] at h
theorem dp_at {H : Hp} {t : Addr} (ht : H t = some (.dK (tapeK c a l s z))) : DPut H t (V.str "at") (.int x) (upd H t (.dK (tapeK c x l s z))) := by
  have h := DPut.k (k := kAt) (v := .int x) ht (by show 5 < sizeLine; decide)
  rwa [p_at] at h
theorem dp_left {H : Hp} {t : Addr} (ht : H t = some (.dK (tapeK c a l s z))) : DPut H t (V.str "left") (.int x) (upd H t (.dK (tapeK c a x s z))) := by
  have h := DPut.k (k := kLeft) (v := .int x) ht (by show 5 < sizeLine; decide)
  rwa [p_left] at h
theorem dp_salt {H : Hp} {t : Addr} (ht : H t = some (.dK (tapeK c a l s z))) : DPut H t (V.str "salt") (.int x) (upd H t (.dK (tapeK c a l s x))) := by
  have h := DPut.k (k := kSalt) (v := .int x) ht (by show 5 < sizeLine; decide)
  rwa [p_salt] at h
end
/-- a tape over these cells, its list at c -/
def TapeK (c : Addr) (cs : List Int) (kvs : List (Key × V)) : Prop :=
  ∃ (a l s z : Int), kvs = tapeK c a l s z ∧ 0 ≤ a ∧ a ≤ cs.length ∧ 0 ≤ l ∧ 0 ≤ s ∧ s < 2147483647
structure Tape (t c : Addr) (cs : List Int) (H : Hp) : Prop where
  dc : ∃ kvs, H t = some (.dK kvs) ∧ TapeK c cs kvs
  ls : H c = some (.lst (cs.map V.int))
  nn : ∀ x ∈ cs, 0 ≤ x
theorem Tape.ne {t c : Addr} {cs : List Int} {H : Hp} (T : Tape t c cs H) : c ≠ t := by
  obtain ⟨kvs, h, _⟩ := T.dc
  exact ne_of T.ls h (by intro z; cases z)
theorem Tape.new {t c : Addr} {cs : List Int} {H : Hp} {kvs : List (Key × V)} (T : Tape t c cs H) (h : TapeK c cs kvs) : Tape t c cs (upd H t (.dK kvs)) :=
  ⟨⟨kvs, upd_same, h⟩, by rw [upd_ne T.ne]; exact T.ls, T.nn⟩
/-- all but what stands at t stays -/
def SameX (t : Addr) (H H' : Hp) : Prop := ∀ b o, b ≠ t → H b = some o → H' b = some o
theorem SameX.of_same {t : Addr} {H H' : Hp} (h : Same H H') : SameX t H H' := fun b o _ e => h b o e
theorem SameX.trans {t : Addr} {H H1 H2 : Hp} (a : SameX t H H1) (b : SameX t H1 H2) : SameX t H H2 := fun x o n e => b x o n (a x o n e)
theorem SameX.upd {t : Addr} {H : Hp} {o : HO} : SameX t H (upd H t o) := fun b u n e => by rw [upd_ne n]; exact e
theorem upd_id {H : Hp} {t : Addr} {o : HO} (h : H t = some o) : upd H t o = H := by
  funext b
  by_cases hb : b = t
  · subst hb; rw [upd_same, h]
  · rw [upd_ne hb]
def spTape (K : PySem.W.Frag) : Sp := fun vs H Q _ => ∃ (a : Addr) (ns : List Int), vs = [.ref a] ∧ SqL K H a (ns.map V.int) ∧ ns.length ≤ 63 ∧
  ∀ (t c : Addr) (cs : List Int) (H' : Hp), Same H H' → H t = none → H c = none → Tape t c cs H' → Q (.ref t) H'
def spTake : Sp := fun vs H Q _ => ∃ (t c : Addr) (cs : List Int) (many : Int), vs = [.ref t, .int many] ∧ Tape t c cs H ∧ 0 < many ∧ many < 1000000 ∧
  ∀ (r : Int) (kvs : List (Key × V)), 0 ≤ r → r < many → TapeK c cs kvs → Q (.int r) (upd H t (.dK kvs))
def absI (n : Int) : Int := if n < 0 then -n else n
/-- the built-ins' names are the built-ins -/
structure Blt (mg : Str → Option Value) : Prop where
  b_len : mg "len" = none
  b_range : mg "range" = none
  b_abs : mg "abs" = none
  b_int : mg "int" = none
  b_str : mg "str" = none
  b_bool : mg "bool" = none
  b_tuple : mg "tuple" = none
  b_list : mg "list" = none
  b_dict : mg "dict" = none
  b_isinstance : mg "isinstance" = none
section
variable {P : Program} {w : World} {K : PySem.W.Frag} {mg : Str → Option Value} {base : Heap}
/-- a def by its body, as one that may be called by its name -/
theorem cal {x : Str} {st : Stmt} {f : Addr} {fd : FuncData} {ps : List Str} {k : Nat} {sp : Sp} (F : Fun K x x st f fd) (gf : mg x = some (.ref f)) (b : Binds K fd ps []) (G : FnOk P w K mg base CX0 k f fd ps sp) : C8.Cal P w K mg base k x sp [] :=
  ⟨f, fd, ps, [], G, gf, F.kp, b, .nil⟩
theorem sqx_len {X : Cx} {H : Hp} {a : Addr} {xs : List V} (h : SqX K H a xs) : SqL K H a xs ∨ SqT K H a xs := h
theorem ix_x {H : Hp} {a : Addr} {xs : List V} {i : Nat} {v : V} {R : V → Hp → Prop} (h : SqX K H a xs) (hv : xs[i]? = some v) (q : R v H) : rIx K (.ref a) (.int (i : Int)) H R := by
  rcases h with h | h
  · exact .inl ⟨a, xs, i, v, rfl, rfl, h, atI_nat hv, q⟩
  · exact .inr (.inl ⟨a, xs, i, v, rfl, rfl, h, atI_nat hv, q⟩)
end
/-! ### heaps but for some open objects -/
/-- the heap without what stands at S -/
def wo (S : List Addr) (H : Hp) : Hp := fun b => if b ∈ S then none else H b
theorem wo_some {S : List Addr} {H : Hp} {b : Addr} {o : HO} : wo S H b = some o ↔ b ∉ S ∧ H b = some o := by
  unfold wo
  by_cases h : b ∈ S
  · rw [if_pos h]
    exact ⟨fun e => (by cases e), fun e => absurd h e.1⟩
  · rw [if_neg h]
    exact ⟨fun e => ⟨h, e⟩, fun e => e.2⟩
/-- all that stands outside S stays -/
def Out (S : List Addr) (H H' : Hp) : Prop := ∀ b o, b ∉ S → H b = some o → H' b = some o
theorem Out.refl {S : List Addr} {H : Hp} : Out S H H := fun _ _ _ e => e
theorem Out.trans {S : List Addr} {H H1 H2 : Hp} (a : Out S H H1) (b : Out S H1 H2) : Out S H H2 := fun x o n e => b x o n (a x o n e)
theorem Out.of_same {S : List Addr} {H H' : Hp} (h : Same H H') : Out S H H' := fun b o _ e => h b o e
theorem Out.mono {S S' : List Addr} {H H' : Hp} (s : ∀ b ∈ S, b ∈ S') (h : Out S H H') : Out S' H H' := fun b o n e => h b o (fun q => n (s b q)) e
theorem Out.upd_in {S : List Addr} {H : Hp} {p : Addr} {o : HO} (h : p ∈ S) : Out S H (upd H p o) := fun b u n e => by
  rw [upd_ne (fun q => n (by rw [q]; exact h))]
  exact e
theorem Out.upd_new {S : List Addr} {H : Hp} {p : Addr} {o : HO} (h : H p = none) : Out S H (upd H p o) := .of_same (same_upd h)
theorem Out.same {S : List Addr} {H H' : Hp} (h : Out S H H') : Same (wo S H) (wo S H') := fun b o e => by
  obtain ⟨n, e⟩ := wo_some.mp e
  exact wo_some.mpr ⟨n, h b o n e⟩
theorem Out.free {S : List Addr} {H H' : Hp} {p : Addr} (h : Out S H H') (hp : p ∉ S) (e : H' p = none) : H p = none := by
  cases q : H p with
  | none => rfl
  | some o =>
    rw [h p o hp q] at e
    cases e
theorem wo_le {S : List Addr} {H : Hp} : Same (wo S H) H := fun _ _ e => (wo_some.mp e).2
theorem wo_anti {S S' : List Addr} {H : Hp} (s : ∀ b ∈ S', b ∈ S) : Same (wo S H) (wo S' H) := fun b o e => by
  obtain ⟨n, e⟩ := wo_some.mp e
  exact wo_some.mpr ⟨fun q => n (s b q), e⟩
/-- a new open object -/
theorem wo_open {S : List Addr} {H : Hp} {f : Addr} {o : HO} (h : H f = none) : Same (wo S H) (wo (f :: S) (upd H f o)) := fun b u e => by
  obtain ⟨n, e⟩ := wo_some.mp e
  have hb : b ≠ f := ne_of_none e h
  exact wo_some.mpr ⟨fun q => (List.mem_cons.mp q).elim hb n, by rw [upd_ne hb]; exact e⟩
theorem SameX.out {t : Addr} {H H' : Hp} (h : SameX t H H') : Out [t] H H' := fun b o n e => h b o (fun q => n (by rw [q]; exact List.mem_singleton.mpr rfl)) e
/-- what is open is there -/
def Alive (S : List Addr) (H : Hp) : Prop := ∀ b ∈ S, H b ≠ none
theorem Alive.new {S : List Addr} {H : Hp} {p : Addr} (a : Alive S H) (h : H p = none) : p ∉ S := fun q => a p q h
theorem Alive.cons {S : List Addr} {H : Hp} {p : Addr} {o : HO} (a : Alive S H) (h : H p = some o) : Alive (p :: S) H := fun b hb => by
  rcases List.mem_cons.mp hb with rfl | hb
  · rw [h]; exact fun z => by cases z
  · exact a b hb
theorem Alive.nil {H : Hp} : Alive [] H := fun _ h => by cases h
theorem Alive.upd {S : List Addr} {H : Hp} {p : Addr} {o : HO} (a : Alive S H) : Alive S (upd H p o) := fun b hb => by
  by_cases h : b = p
  · subst h; rw [upd_same]; exact fun z => by cases z
  · rw [upd_ne h]; exact a b hb
theorem Alive.out {S T : List Addr} {H H' : Hp} (a : Alive S H) (h : Out T H H') (t : ∀ b ∈ T, H' b ≠ none) : Alive S H' := fun b hb => by
  by_cases hT : b ∈ T
  · exact t b hT
  · cases e : H b with
    | none => exact absurd e (a b hb)
    | some o => rw [h b o hT e]; exact fun z => by cases z
/-- data outside the open objects -/
abbrev DpS (K : PySem.W.Frag) (S : List Addr) (H : Hp) (v : V) (d : PyData) : Prop := Dp K (wo S H) v d
abbrev DsS (K : PySem.W.Frag) (S : List Addr) (H : Hp) (vs : List V) (ds : List PyData) : Prop := DpAll K (wo S H) vs ds
section
variable {K : PySem.W.Frag} {S : List Addr} {H H' : Hp}
theorem dpS_tup {p : Addr} {xs : List V} {ds : List PyData} (np : p ∉ S) (h : H p = some (.tup xs)) (a : DsS K S H xs ds) : DpS K S H (.ref p) (.tuple ds) := .tup (SqT.of (wo_some.mpr ⟨np, h⟩)) a
theorem dpS_lst {p : Addr} {xs : List V} {ds : List PyData} (np : p ∉ S) (h : H p = some (.lst xs)) (a : DsS K S H xs ds) : DpS K S H (.ref p) (.list ds) := .lst (SqL.of (wo_some.mpr ⟨np, h⟩)) a
theorem dpS_out {v : V} {d : PyData} (h : Out S H H') (a : DpS K S H v d) : DpS K S H' v d := dp_mono h.same _ _ a
theorem dsS_out {vs : List V} {ds : List PyData} (h : Out S H H') (a : DsS K S H vs ds) : DsS K S H' vs ds := dpAll_mono h.same _ _ a
theorem dpS_in {v : V} {d : PyData} (a : DpS K S H v d) : Dp K H v d := dp_mono wo_le _ _ a
theorem dsS_in {vs : List V} {ds : List PyData} (a : DsS K S H vs ds) : DpAll K H vs ds := dpAll_mono wo_le _ _ a
theorem dp_all {v : V} {d : PyData} (a : Dp K H v d) : DpS K [] H v d := dp_mono (fun b o e => wo_some.mpr ⟨List.not_mem_nil, e⟩) _ _ a
/-- what data are -/
theorem dp_tuple {v : V} {ds : List PyData} (h : Dp K H v (.tuple ds)) : ∃ a xs, v = .ref a ∧ SqT K H a xs ∧ DpAll K H xs ds := by
  cases h with
  | tup a b => exact ⟨_, _, rfl, a, b⟩
theorem dp_list {v : V} {ds : List PyData} (h : Dp K H v (.list ds)) : ∃ a xs, v = .ref a ∧ SqL K H a xs ∧ DpAll K H xs ds := by
  cases h with
  | lst a b => exact ⟨_, _, rfl, a, b⟩
theorem dp_str {v : V} {x : Str} (h : Dp K H v (.str x)) : v = .str x := by cases h; rfl
theorem dp_int {v : V} {x : Int} (h : Dp K H v (.int x)) : v = .int x := by cases h; rfl
theorem dp_none {v : V} (h : Dp K H v .none) : v = .non := by cases h; rfl
theorem ds_nil {vs : List V} (h : DpAll K H vs []) : vs = [] := by cases h; rfl
theorem ds_cons {vs : List V} {d : PyData} {ds : List PyData} (h : DpAll K H vs (d :: ds)) : ∃ v r, vs = v :: r ∧ Dp K H v d ∧ DpAll K H r ds := by
  cases h with
  | cons a b => exact ⟨_, _, rfl, a, b⟩
end
end LB
/-! Drawn trees: data, open lists. -/
namespace LB
open PySem PySem.Spec PyProof.Rows L2
/-! ### the state in which things are drawn -/
structure Live (t c : Addr) (cs : List Int) (S : List Addr) (H : Hp) : Prop where
  tape : Tape t c cs H
  al : Alive S H
  tS : t ∈ S
  cS : c ∉ S
section
variable {t c : Addr} {cs : List Int} {S : List Addr} {H H' : Hp}
theorem Tape.out {T : List Addr} (W : Tape t c cs H) (h : Out T H H') (ht : t ∉ T) (hc : c ∉ T) : Tape t c cs H' := by
  obtain ⟨kvs, e, q⟩ := W.dc
  exact ⟨⟨kvs, h t _ ht e, q⟩, h c _ hc W.ls, W.nn⟩
theorem Live.take (L : Live t c cs S H) {kvs : List (Key × V)} (h : TapeK c cs kvs) : Live t c cs S (upd H t (.dK kvs)) := ⟨L.tape.new h, L.al.upd, L.tS, L.cS⟩
theorem Live.new (L : Live t c cs S H) {p : Addr} {o : HO} (h : H p = none) : Live t c cs S (upd H p o) := ⟨L.tape.out (T := []) (.upd_new h) List.not_mem_nil List.not_mem_nil, L.al.upd, L.tS, L.cS⟩
theorem Live.nt (L : Live t c cs S H) {f : Addr} {xs : List V} (h : H f = some (.lst xs)) : f ≠ t := by
  obtain ⟨kvs, e, _⟩ := L.tape.dc
  exact ne_of h e (by intro z; cases z)
theorem Live.list (L : Live t c cs S H) {f : Addr} {xs ys : List V} (h : H f = some (.lst xs)) (hf : f ∈ S) : Live t c cs S (upd H f (.lst ys)) :=
  ⟨L.tape.out (T := [f]) (.upd_in (List.mem_singleton.mpr rfl)) (fun q => L.nt h (List.mem_singleton.mp q).symm) (fun q => L.cS (by rw [List.mem_singleton.mp q]; exact hf)), L.al.upd, L.tS, L.cS⟩
theorem Live.open_ (L : Live t c cs S H) {f : Addr} {o : HO} (h : H f = none) : Live t c cs (f :: S) (upd H f o) :=
  ⟨(L.new h).tape, (L.new h).al.cons upd_same, List.mem_cons_of_mem _ L.tS, fun q => (List.mem_cons.mp q).elim (ne_of_none L.tape.ls h) L.cS⟩
theorem Live.less (L : Live t c cs S H) {S' : List Addr} (h : ∀ b ∈ S', b ∈ S) (ht : t ∈ S') : Live t c cs S' H := ⟨L.tape, fun b hb => L.al b (h b hb), ht, fun q => L.cS (h c q)⟩
theorem Live.free (L : Live t c cs S H) {p : Addr} (h : H p = none) : p ∉ S := L.al.new h
theorem out_take {kvs : List (Key × V)} : Out [t] H (upd H t (.dK kvs)) := .upd_in (List.mem_singleton.mpr rfl)
end
/-- a list that grows -/
structure OpenL (K : PySem.W.Frag) (S : List Addr) (H : Hp) (f : Addr) (ds : List PyData) : Prop where
  at_ : ∃ xs, H f = some (.lst xs) ∧ DsS K S H xs ds
  mem : f ∈ S
section
variable {K : PySem.W.Frag} {t c : Addr} {cs : List Int} {S : List Addr} {H H' : Hp} {f : Addr} {ds : List PyData}
theorem OpenL.out {T : List Addr} (O : OpenL K S H f ds) (h : Out T H H') (sub : ∀ b ∈ T, b ∈ S) (hf : f ∉ T) : OpenL K S H' f ds := by
  obtain ⟨xs, e, a⟩ := O.at_
  exact ⟨⟨xs, h f _ hf e, dsS_out (h.mono sub) a⟩, O.mem⟩
theorem OpenL.nt (O : OpenL K S H f ds) (L : Live t c cs S H) : f ≠ t := by
  obtain ⟨xs, e, _⟩ := O.at_
  exact L.nt e
theorem OpenL.take (O : OpenL K S H f ds) (L : Live t c cs S H) (h : Out [t] H H') : OpenL K S H' f ds :=
  O.out h (fun b hb => by rw [List.mem_singleton.mp hb]; exact L.tS) fun q => O.nt L (List.mem_singleton.mp q)
theorem OpenL.new (O : OpenL K S H f ds) {p : Addr} {o : HO} (h : H p = none) : OpenL K S (upd H p o) f ds := O.out (T := []) (.upd_new h) (fun b q => absurd q List.not_mem_nil) List.not_mem_nil
theorem OpenL.ne {p : Addr} (O : OpenL K S H f ds) (h : H p = none) : f ≠ p := by
  obtain ⟨xs, e, _⟩ := O.at_
  exact ne_of_none e h
/-- another one opened behind it -/
theorem OpenL.more (O : OpenL K S H f ds) {g : Addr} {o : HO} (h : H g = none) : OpenL K (g :: S) (upd H g o) f ds := by
  obtain ⟨xs, e, a⟩ := O.at_
  exact ⟨⟨xs, by rw [upd_ne (ne_of_none e h)]; exact e, dpAll_mono (wo_open h) _ _ a⟩, List.mem_cons_of_mem _ O.mem⟩
theorem OpenL.less {S' : List Addr} (O : OpenL K S H f ds) (sub : ∀ b ∈ S', b ∈ S) (hf : f ∈ S') : OpenL K S' H f ds := by
  obtain ⟨xs, e, a⟩ := O.at_
  exact ⟨⟨xs, e, dpAll_mono (wo_anti sub) _ _ a⟩, hf⟩
theorem OpenL.start {f : Addr} (h : H f = none) : OpenL K (f :: S) (upd H f (.lst [])) f [] := ⟨⟨[], upd_same, .nil⟩, List.mem_cons_self ..⟩
theorem OpenL.snoc (O : OpenL K S H f ds) {v : V} {d : PyData} (a : DpS K S H v d) {xs : List V} (h : H f = some (.lst xs)) : OpenL K S (upd H f (.lst (xs ++ [v]))) f (ds ++ [d]) := by
  obtain ⟨xs', e, b⟩ := O.at_
  rw [h] at e
  cases e
  exact ⟨⟨_, upd_same, dpAll_snoc (dsS_out (.upd_in O.mem) b) (dpS_out (.upd_in O.mem) a)⟩, O.mem⟩
/-- the other ones when one has grown -/
theorem OpenL.other (O : OpenL K S H f ds) {g : Addr} {o : HO} (hg : g ∈ S) (n : f ≠ g) : OpenL K S (upd H g o) f ds :=
  O.out (T := [g]) (.upd_in (List.mem_singleton.mpr rfl)) (fun b hb => by rw [List.mem_singleton.mp hb]; exact hg) fun q => n (List.mem_singleton.mp q)
theorem OpenL.len (O : OpenL K S H f ds) {xs : List V} (h : H f = some (.lst xs)) : xs.length = ds.length := by
  obtain ⟨xs', e, b⟩ := O.at_
  rw [h] at e
  cases e
  exact dpAll_len b
theorem seq_out {T : List Addr} {a : Addr} {xs : List V} (h : H a = some (.lst xs)) (o : Out T H H') (ha : a ∉ T) : H' a = some (.lst xs) := o a _ ha h
end
/-- a new tuple of data, handed out -/
theorem fin_tup {K : PySem.W.Frag} {t c : Addr} {cs : List Int} {S : List Addr} {H H1 : Hp} {p : Addr} {xs : List V} {ds : List PyData} (L : Live t c cs S H1) (o : Out [t] H H1) (np : H1 p = none) (a : DsS K S H1 xs ds) :
    Live t c cs S (upd H1 p (.tup xs)) ∧ Out [t] H (upd H1 p (.tup xs)) ∧ DpS K S (upd H1 p (.tup xs)) (.ref p) (.tuple ds) :=
  ⟨L.new np, o.trans (.upd_new np), dpS_tup (L.free np) upd_same (dsS_out (.upd_new np) a)⟩
/-! ### drawing with open lists: F the lists that grow (the newest first), R lists that are read -/
structure Bg (K : PySem.W.Frag) (t c : Addr) (cs : List Int) (H : Hp) (S : List Addr) (F : List (Addr × List PyData)) (R : List (Addr × List V)) (H' : Hp) : Prop where
  live : Live t c cs (F.map (·.1) ++ S) H'
  out : Out [t] H H'
  op : ∀ p ∈ F, OpenL K (F.map (·.1) ++ S) H' p.1 p.2 ∧ H p.1 = none
  ro : ∀ p ∈ R, H' p.1 = some (.lst p.2) ∧ p.1 ∉ F.map (·.1) ++ S
  nd : (F.map (·.1)).Nodup
  al0 : Alive S H
section
variable {K : PySem.W.Frag} {t c : Addr} {cs : List Int} {H H' : Hp} {S : List Addr} {F : List (Addr × List PyData)} {R : List (Addr × List V)}
theorem Out.fresh {T : List Addr} {p : Addr} {o : HO} (h : Out T H H') (hp : H p = none) : Out T H (upd H' p o) := fun b u n e => by
  rw [upd_ne (ne_of_none e hp)]
  exact h b u n e
theorem Bg.start (L : Live t c cs S H) : Bg K t c cs H S [] [] H := ⟨L, .refl, fun _ h => absurd h List.not_mem_nil, fun _ h => absurd h List.not_mem_nil, List.nodup_nil, L.al⟩
theorem Bg.call (B : Bg K t c cs H S F R H') {H2 : Hp} (L : Live t c cs (F.map (·.1) ++ S) H2) (o : Out [t] H' H2) : Bg K t c cs H S F R H2 :=
  ⟨L, B.out.trans o, fun p hp => ⟨(B.op p hp).1.take B.live o, (B.op p hp).2⟩, fun p hp => ⟨o _ _ (fun q => (B.ro p hp).2 (by rw [List.mem_singleton.mp q]; exact B.live.tS)) (B.ro p hp).1, (B.ro p hp).2⟩, B.nd, B.al0⟩
theorem Bg.take (B : Bg K t c cs H S F R H') {kvs : List (Key × V)} (h : TapeK c cs kvs) : Bg K t c cs H S F R (upd H' t (.dK kvs)) := B.call (B.live.take h) out_take
theorem Bg.new (B : Bg K t c cs H S F R H') {p : Addr} {o : HO} (h : H' p = none) : Bg K t c cs H S F R (upd H' p o) := B.call (B.live.new h) (.upd_new h)
theorem Bg.free0 (B : Bg K t c cs H S F R H') {p : Addr} (h : H' p = none) : H p = none := B.out.free (fun q => by
  obtain ⟨kvs, e, _⟩ := B.live.tape.dc
  rw [List.mem_singleton.mp q, e] at h
  cases h) h
theorem Bg.read (B : Bg K t c cs H S F R H') {p : Addr} {xs : List V} (h : H' p = none) : Bg K t c cs H S F ((p, xs) :: R) (upd H' p (.lst xs)) := by
  have B2 := B.new (o := .lst xs) h
  refine ⟨B2.live, B2.out, B2.op, fun q hq => ?_, B2.nd, B.al0⟩
  rcases List.mem_cons.mp hq with rfl | hq
  · exact ⟨upd_same, B.live.free h⟩
  · exact B2.ro q hq
theorem Bg.drop (B : Bg K t c cs H S F R H') {R' : List (Addr × List V)} (h : ∀ p ∈ R', p ∈ R) : Bg K t c cs H S F R' H' := ⟨B.live, B.out, B.op, fun p hp => B.ro p (h p hp), B.nd, B.al0⟩
theorem Bg.open_ (B : Bg K t c cs H S F R H') {p : Addr} (h : H' p = none) : Bg K t c cs H S ((p, []) :: F) R (upd H' p (.lst [])) := by
  have hF : p ∉ F.map (·.1) := fun q => B.live.free h (List.mem_append_left _ q)
  refine ⟨B.live.open_ h, B.out.fresh (B.free0 h), fun q hq => ?_, fun q hq => ?_, List.nodup_cons.mpr ⟨hF, B.nd⟩, B.al0⟩
  · rcases List.mem_cons.mp hq with rfl | hq
    · exact ⟨OpenL.start h, B.free0 h⟩
    · exact ⟨(B.op q hq).1.more h, (B.op q hq).2⟩
  · have e := (B.ro q hq).1
    refine ⟨by rw [upd_ne (ne_of_none e h)]; exact e, fun z => ?_⟩
    rcases List.mem_cons.mp z with z | z
    · exact ne_of_none e h z
    · exact (B.ro q hq).2 z
theorem Bg.head {f : Addr} {ds : List PyData} (B : Bg K t c cs H S ((f, ds) :: F) R H') : ∃ xs, H' f = some (.lst xs) ∧ DsS K (f :: (F.map (·.1) ++ S)) H' xs ds := (B.op _ (List.mem_cons_self ..)).1.at_
theorem Bg.snoc {f : Addr} {ds : List PyData} (B : Bg K t c cs H S ((f, ds) :: F) R H') {xs : List V} {v : V} {d : PyData} (h : H' f = some (.lst xs)) (a : DpS K (f :: (F.map (·.1) ++ S)) H' v d) : Bg K t c cs H S ((f, ds ++ [d]) :: F) R (upd H' f (.lst (xs ++ [v]))) := by
  have O := (B.op _ (List.mem_cons_self ..)).1
  have fS : f ∈ ((f, ds) :: F).map (·.1) ++ S := List.mem_cons_self ..
  have nF : f ∉ F.map (·.1) := (List.nodup_cons.mp B.nd).1
  refine ⟨B.live.list h fS, B.out.fresh (B.op _ (List.mem_cons_self ..)).2, fun q hq => ?_, fun q hq => ?_, B.nd, B.al0⟩
  · rcases List.mem_cons.mp hq with rfl | hq
    · exact ⟨O.snoc a h, (B.op _ (List.mem_cons_self ..)).2⟩
    · have hq2 := B.op q (List.mem_cons_of_mem _ hq)
      exact ⟨hq2.1.other fS (fun z => nF (by rw [← z]; exact List.mem_map_of_mem hq)), hq2.2⟩
  · have e := B.ro q hq
    exact ⟨by rw [upd_ne (fun z => e.2 (by rw [z]; exact fS))]; exact e.1, e.2⟩
theorem Bg.close {f : Addr} {ds : List PyData} (B : Bg K t c cs H S ((f, ds) :: F) R H') : Bg K t c cs H S F R H' :=
  ⟨B.live.less (fun b hb => List.mem_cons_of_mem _ hb) (by
    rcases List.mem_cons.mp B.live.tS with h | h
    · obtain ⟨xs, e, _⟩ := B.head
      obtain ⟨kvs, e2, _⟩ := B.live.tape.dc
      rw [h] at e2
      rw [e] at e2
      cases e2
    · exact h), B.out, fun p hp => by
      have hp2 := B.op p (List.mem_cons_of_mem _ hp)
      exact ⟨hp2.1.less (fun b hb => List.mem_cons_of_mem _ hb) (List.mem_append_left _ (List.mem_map_of_mem hp)), hp2.2⟩,
    fun p hp => ⟨(B.ro p hp).1, fun q => (B.ro p hp).2 (List.mem_cons_of_mem _ q)⟩, (List.nodup_cons.mp B.nd).2, B.al0⟩
/-- a list that grows no more, to be read -/
theorem Bg.freeze {f : Addr} {ds : List PyData} (B : Bg K t c cs H S ((f, ds) :: F) R H') {xs : List V} (h : H' f = some (.lst xs)) : Bg K t c cs H S F ((f, xs) :: R) H' := by
  have B2 := B.close
  refine ⟨B2.live, B2.out, B2.op, fun q hq => ?_, B2.nd, B.al0⟩
  rcases List.mem_cons.mp hq with rfl | hq
  · refine ⟨h, fun z => ?_⟩
    rcases List.mem_append.mp z with z | z
    · exact (List.nodup_cons.mp B.nd).1 z
    · exact B.al0 _ z (B.op _ (List.mem_cons_self ..)).2
  · exact B2.ro q hq
/-- data are data still when a list is closed -/
theorem dp_close {f : Addr} {S' : List Addr} {v : V} {d : PyData} (a : DpS K (f :: S') H' v d) : DpS K S' H' v d := dp_mono (wo_anti fun _ hb => List.mem_cons_of_mem _ hb) _ _ a
theorem ds_close {f : Addr} {S' : List Addr} {vs : List V} {ds : List PyData} (a : DsS K (f :: S') H' vs ds) : DsS K S' H' vs ds := dpAll_mono (wo_anti fun _ hb => List.mem_cons_of_mem _ hb) _ _ a
/-- a new tuple -/
theorem Bg.tup (B : Bg K t c cs H S F R H') {p : Addr} {xs : List V} {ds : List PyData} (h : H' p = none) (a : DsS K (F.map (·.1) ++ S) H' xs ds) : Bg K t c cs H S F R (upd H' p (.tup xs)) ∧ DpS K (F.map (·.1) ++ S) (upd H' p (.tup xs)) (.ref p) (.tuple ds) :=
  ⟨B.new h, dpS_tup (B.live.free h) upd_same (dsS_out (.upd_new h) a)⟩
theorem Bg.dp_new (B : Bg K t c cs H S F R H') {p : Addr} {o : HO} (h : H' p = none) {v : V} {d : PyData} (a : DpS K (F.map (·.1) ++ S) H' v d) : DpS K (F.map (·.1) ++ S) (upd H' p o) v d := dpS_out (.upd_new h) a
theorem Bg.dp_take (B : Bg K t c cs H S F R H') {kvs : List (Key × V)} {v : V} {d : PyData} (a : DpS K (F.map (·.1) ++ S) H' v d) : DpS K (F.map (·.1) ++ S) (upd H' t (.dK kvs)) v d := dpS_out (.upd_in B.live.tS) a
end
/-! ### trees -/
inductive Vl where
  | number (n : Int) | none | index (n : Int) | name (s : Str) | told (s : Str) (n : Int)
def Vl.d : Vl → PyData
  | .number n => .tuple [.str "number", .int n]
  | .none => .tuple [.str "none"]
  | .index n => .tuple [.str "index", .int n]
  | .name s => .tuple [.str "name", .str s]
  | .told s n => .tuple [.str "told", .str s, .int n]
def strD (l : List Str) : List PyData := l.map .str
theorem strD_ds {K : PySem.W.Frag} {H : Hp} : ∀ ms : List Str, DpAll K H (ms.map V.str) (strD ms)
  | [] => .nil
  | m :: r => .cons (.str m) (strD_ds r)
structure Fd where
  name : Str
  target : Str
  marks : List Str
def Fd.d (f : Fd) : PyData := .tuple [.str f.name, .str f.target, .tuple (strD f.marks)]
structure Kd where
  name : Str
  fields : List Fd
def Kd.d (k : Kd) : PyData := .tuple [.str k.name, .tuple (k.fields.map Fd.d)]
def valD (p : Str × Vl) : PyData := .tuple [.str p.1, p.2.d]
def cntD : Option Int → PyData
  | none => .none
  | some n => .int n
inductive Im where
  | thing (name : Str) (count : Option Int) (kind : Str) (vals : List (Str × Vl))
  | keep (name : Str) | most (n : Int) | adopt (n : Int) (name : Str) | move (old new : Str)
def Im.d : Im → PyData
  | .thing n c k vs => .tuple [.str "thing", .str n, cntD c, .str k, .tuple (vs.map valD)]
  | .keep n => .tuple [.str "keep", .str n]
  | .most n => .tuple [.str "most", .int n]
  | .adopt n x => .tuple [.str "adopt", .int n, .str x]
  | .move a b => .tuple [.str "move", .str a, .str b]
structure Tree where
  kinds : List Kd
  items : List Im
def Tree.d (T : Tree) : PyData := .tuple [.tuple (T.kinds.map Kd.d), .tuple (T.items.map Im.d)]
/-! ### what is drawn -/
def namesL : List Str := ["a", "b", "c.1", "d_#", "e"]
def fieldL : List Str := ["p", "q", "r"]
def markL : List Str := ["empty", "fixed", "single"]
def kindL : List Str := ["k0", "k1", "k2"]
def targetL : List Str := ["", "", "k0", "k1"]
def numL : List Int := [0, 1, 7, 4294967295]
def cntL : List (Option Int) := [none, none, some 0, some 1, some 3]
def Vl.ok (nm : List Str) : Vl → Prop
  | .number n => n ∈ numL
  | .none => True
  | .index n => 0 ≤ n ∧ n < 3
  | .name s => s ∈ nm
  | .told s n => s ∈ nm ∧ 0 ≤ n ∧ n < 3
def marksOk (m : List Str) : Prop := m.Sublist markL
structure Fd.ok (f : Fd) : Prop where
  name : f.name ∈ fieldL
  target : f.target ∈ targetL
  marks : marksOk f.marks
structure Kd.ok (k : Kd) : Prop where
  name : k.name ∈ kindL
  fields : ∀ f ∈ k.fields, f.ok
  few : k.fields.length ≤ 3
def Im.ok : Im → Prop
  | .thing n c k vs => n ∈ namesL ∧ c ∈ cntL ∧ k ∈ kindL ∧ (∀ p ∈ vs, p.1 ∈ fieldL ∧ p.2.ok namesL) ∧ vs.length ≤ 3
  | .keep n => n ∈ namesL
  | .most n => 0 ≤ n ∧ n < 9
  | .adopt n x => 0 ≤ n ∧ n < 4 ∧ x ∈ namesL
  | .move a b => a ∈ namesL ∧ b ∈ namesL
structure Tree.ok (T : Tree) : Prop where
  kinds : ∀ k ∈ T.kinds, k.ok
  items : ∀ i ∈ T.items, i.ok
  fewK : T.kinds.length ≤ 3
  fewI : T.items.length ≤ 5
/-- a drawn place of a list -/
theorem drawn {α : Type} {l : List α} {r : Int} (h0 : 0 ≤ r) (h1 : r < l.length) : ∃ x, l[r.toNat]? = some x ∧ x ∈ l ∧ r = (r.toNat : Int) := by
  have h : r.toNat < l.length := by omega
  exact ⟨l[r.toNat], List.getElem?_eq_getElem h, List.getElem_mem h, by omega⟩
theorem drawn_at {xs : List V} {r : Int} {v : V} (e : r = (r.toNat : Int)) (h : xs[r.toNat]? = some v) : atI xs r = some v := at_of e h
def spValueOf (K : PySem.W.Frag) : Sp := fun vs H Q _ => ∃ (t c a : Addr) (cs : List Int) (x : V) (nm : List Str) (S : List Addr), vs = [.ref t, x, .ref a] ∧ Live t c cs S H ∧ H a = some (.lst (nm.map V.str)) ∧ a ∉ S ∧ 0 < nm.length ∧ nm.length ≤ 1000 ∧
  ∀ (v : V) (x : Vl) (H' : Hp), x.ok nm → Live t c cs S H' → Out [t] H H' → DpS K S H' v x.d → Q v H'
def spAnyTree (K : PySem.W.Frag) : Sp := fun vs H Q _ => ∃ (t c : Addr) (cs : List Int) (S : List Addr), vs = [.ref t] ∧ Live t c cs S H ∧
  ∀ (v : V) (T : Tree) (H' : Hp), T.ok → Live t c cs S H' → Out [t] H H' → DpS K S H' v T.d → Q v H'
def cntV : Option Int → V
  | none => .non
  | some n => .int n
theorem cnt_dp {K : PySem.W.Frag} {H : Hp} (c : Option Int) : Dp K H (cntV c) (cntD c) := by
  cases c with
  | none => exact .non
  | some n => exact .int n
theorem kname {k : Int} (h0 : 0 ≤ k) (h1 : k < 3) : (Str.ofString "k" ++ Str.ofString (toString k)) ∈ kindL := by
  have : k = 0 ∨ k = 1 ∨ k = 2 := by omega
  rcases this with rfl | rfl | rfl <;> decide +kernel
theorem kname_len {k : Int} (h0 : 0 ≤ k) (h1 : k < 3) : (Str.ofString "k").length + (Str.ofString (toString k)).length ≤ sizeLine := by
  have : k = 0 ∨ k = 1 ∨ k = 2 := by omega
  rcases this with rfl | rfl | rfl <;> decide +kernel
theorem small_log {k : Int} (h0 : 0 ≤ k) (h1 : k < 1000000) : k.natAbs.log2 < 1920 := by
  have h : k.natAbs < 2 ^ 20 := by
    have : (2 : Nat) ^ 20 = 1048576 := by decide
    omega
  by_cases hz : k.natAbs = 0
  · rw [hz]; decide
  · exact Nat.lt_trans ((Nat.log2_lt hz).mpr h) (by decide)
end LB
/-! Tokens: data, promises, without any row. -/
namespace LB
open PySem PySem.Spec PyProof.Rows L2
abbrev sBLANKS : Str := Str.ofString " \n"
abbrev sDIGITS : Str := Str.ofString "0123456789"
abbrev sLETTERS : Str := Str.ofString "abcdefghijklmnopqrstuvwxyzABCDEFGHIJKLMNOPQRSTUVWXYZ"
abbrev sNAMES : Str := Str.ofString "abcdefghijklmnopqrstuvwxyzABCDEFGHIJKLMNOPQRSTUVWXYZ0123456789_.#"
abbrev sSIGNS : Str := Str.ofString "{}:;=*+"
def wordL : List Str := ["kind", "number", "ref", "fixed", "empty", "single", "thing", "none", "index", "told", "keep", "adopt", "as", "move", "to", "most"]
structure TTxt (K : PySem.W.Frag) (mg : Str → Option Value) (a_WORDS : Addr) : Prop extends Blt mg where
  g_BLANKS : ∃ u, mg "BLANKS" = some u ∧ RelV (.str sBLANKS) u
  g_DIGITS : ∃ u, mg "DIGITS" = some u ∧ RelV (.str sDIGITS) u
  g_LETTERS : ∃ u, mg "LETTERS" = some u ∧ RelV (.str sLETTERS) u
  g_NAME_CHARACTERS : ∃ u, mg "NAME_CHARACTERS" = some u ∧ RelV (.str sNAMES) u
  g_SIGNS : ∃ u, mg "SIGNS" = some u ∧ RelV (.str sSIGNS) u
  g_WORDS : ∃ u, mg "WORDS" = some u ∧ RelV (.ref a_WORDS) u
  o_WORDS : ∀ H, SqT K H a_WORDS (wordL.map V.str)

theorem lt1 (c d : Nat) : decide (([c] : List Nat) < [d]) = decide (c < d) := by
  apply decide_eq_decide.mpr
  rw [List.cons_lt_cons_iff]
  constructor
  · rintro (h | ⟨_, h⟩)
    · exact h
    · exact absurd h (List.not_lt_nil _)
  · exact fun h => .inl h
theorem le1 (c d : Nat) : (!decide (([c] : List Nat) < [d])) = decide (d ≤ c) := by
  rw [lt1]
  by_cases h : c < d
  · simp [h]
  · simp [h]; omega
theorem ofs_a : (Str.ofString "a").cps.toList = [97] := by decide +kernel
theorem ofs_z : (Str.ofString "z").cps.toList = [122] := by decide +kernel
theorem ofs_A : (Str.ofString "A").cps.toList = [65] := by decide +kernel
theorem ofs_Z : (Str.ofString "Z").cps.toList = [90] := by decide +kernel
theorem ofs_0 : (Str.ofString "0").cps.toList = [48] := by decide +kernel
theorem ofs_9 : (Str.ofString "9").cps.toList = [57] := by decide +kernel
theorem cp_one (c : Nat) : (⟨#[c]⟩ : Str).cps.toList = [c] := rfl
theorem mem_rg {c a n : Nat} : c ∈ List.range' a n ↔ a ≤ c ∧ c < a + n := by
  rw [List.mem_range'_1]
theorem letters_eq : sLETTERS.cps.toList = List.range' 97 26 ++ List.range' 65 26 := by decide +kernel
theorem digits_eq : sDIGITS.cps.toList = List.range' 48 10 := by decide +kernel
theorem names_eq : sNAMES.cps.toList = List.range' 97 26 ++ List.range' 65 26 ++ List.range' 48 10 ++ [95, 46, 35] := by decide +kernel
theorem blanks_eq : sBLANKS.cps.toList = [32, 10] := by decide +kernel
theorem signs_eq : sSIGNS.cps.toList = [123, 125, 58, 59, 61, 42, 43] := by decide +kernel
theorem three_eq : (Str.ofString "_.#").cps.toList = [95, 46, 35] := by decide +kernel
theorem in_letters (c : Nat) : decide (c ∈ sLETTERS.cps.toList) = Tk.letter c := by
  rw [letters_eq]
  refine beq_of ?_
  simp only [decide_eq_true_eq, List.mem_append, mem_rg, Tk.letter, Bool.or_eq_true, Bool.and_eq_true]
  omega
theorem in_digits (c : Nat) : decide (c ∈ sDIGITS.cps.toList) = Tk.digit c := by
  rw [digits_eq]
  refine beq_of ?_
  simp only [decide_eq_true_eq, mem_rg, Tk.digit, Bool.and_eq_true]
  omega
theorem in_names (c : Nat) : decide (c ∈ sNAMES.cps.toList) = Tk.inner c := by
  rw [names_eq]
  refine beq_of ?_
  simp only [decide_eq_true_eq, List.mem_append, mem_rg, Tk.inner, Tk.letter, Tk.digit, Bool.or_eq_true, Bool.and_eq_true, List.mem_cons, List.not_mem_nil, or_false, beq_iff_eq]
  omega
theorem in_three (c : Nat) : decide (c ∈ (Str.ofString "_.#").cps.toList) = (c == 95 || c == 46 || c == 35) := by
  rw [three_eq]
  refine beq_of ?_
  simp [or_assoc]
theorem in_blanks (c : Nat) : decide (c ∈ sBLANKS.cps.toList) = Tk.blank c := by
  rw [blanks_eq]
  refine beq_of ?_
  simp [Tk.blank]
theorem in_signs (c : Nat) : decide (c ∈ sSIGNS.cps.toList) = Tk.signC c := by
  rw [signs_eq]
  refine beq_of ?_
  simp [Tk.signC]
def spLetter : Sp := fun vs H Q _ => ∃ c : Nat, vs = [one c] ∧ Q (.bl (Tk.letter c)) H
def spDigit : Sp := fun vs H Q _ => ∃ c : Nat, vs = [one c] ∧ Q (.bl (Tk.digit c)) H
/-- the run of the signs of a text -/
def spRun : Sp := fun vs H Q _ => ∃ (l : List Nat) (i : Nat) (ch : Str) (p : Nat → Bool), vs = [txt l, .int i, .str ch] ∧ l.length ≤ 100000 ∧ i ≤ l.length ∧ (∀ c, decide (c ∈ ch.cps.toList) = p c) ∧ Q (.int ((i + Tk.run p (l.drop i) : Nat) : Int)) H
theorem run_step {p : Nat → Bool} {l : List Nat} {e c : Nat} (h : l[e]? = some c) (hp : p c = true) : e + Tk.run p (l.drop e) = e + 1 + Tk.run p (l.drop (e + 1)) := by
  rw [Tk.drop_at h]
  simp [Tk.run, hp]
  omega
theorem run_stop {p : Nat → Bool} {l : List Nat} {e c : Nat} (h : l[e]? = some c) (hp : p c = false) : e + Tk.run p (l.drop e) = e := by
  rw [Tk.drop_at h]
  simp [Tk.run, hp]
theorem run_over {p : Nat → Bool} {l : List Nat} {e : Nat} (h : l.length ≤ e) : e + Tk.run p (l.drop e) = e := by
  rw [List.drop_eq_nil_of_le h]
  rfl
theorem range_pre {s n a : Nat} {pre post : List Nat} (h : List.range' s n = pre ++ a :: post) : ∀ k, s ≤ k → k < a → k ∈ pre := by
  intro k h1 h2
  have ha : a ∈ List.range' s n := by rw [h]; simp
  have ha2 := List.mem_range'_1.mp ha
  have hk : k ∈ List.range' s n := List.mem_range'_1.mpr ⟨h1, by omega⟩
  rw [h, List.mem_append, List.mem_cons] at hk
  have pw : (List.range' s n).Pairwise (· < ·) := List.pairwise_lt_range'
  rw [h, List.pairwise_append, List.pairwise_cons] at pw
  rcases hk with hk | hk | hk
  · exact hk
  · omega
  · exact absurd (pw.2.1.1 k hk) (by omega)
theorem from_nat (n i : Nat) : fromIndex n (i : Int) = i := by
  unfold fromIndex
  rw [if_neg (by omega)]
  omega
theorem find3_one (l : List Nat) (c i : Nat) (hi : i ≤ l.length) :
    Txt.find3 ⟨l.toArray⟩ ⟨#[c]⟩ (i : Int) = if i + Tk.run (fun d => !(d == c)) (l.drop i) < l.length then ((i + Tk.run (fun d => !(d == c)) (l.drop i) : Nat) : Int) else -1 := by
  unfold Txt.find3
  rw [from_nat, StrLaws.occ_eq]
  have hr := Tk.run_le (fun d => !(d == c)) (l.drop i)
  rw [List.length_drop] at hr
  rcases StrLaws.occ_first (⟨l.toArray⟩ : Str) ⟨#[c]⟩ (⟨l.toArray⟩ : Str).length 1 (Nat.le_refl _) (List.range' i ((⟨l.toArray⟩ : Str).length + 1 - i)) i (fun k hk => (List.mem_range'_1.mp hk).1) with ⟨h0, hn⟩ | ⟨pre, a, post, e, h0, ha, hn⟩
  · rw [h0]
    rw [if_neg]
    intro hlt
    obtain ⟨d, hd⟩ : ∃ d, (l.drop i)[Tk.run (fun d => !(d == c)) (l.drop i)]? = some d := ⟨_, List.getElem?_eq_getElem (by rw [List.length_drop]; omega)⟩
    have h1 := Tk.run_end hd
    have h2 : d = c := by simpa using h1
    rw [List.getElem?_drop, h2] at hd
    refine hn (i + Tk.run (fun d => !(d == c)) (l.drop i)) (List.mem_range'_1.mpr ⟨Nat.le_add_right _ _, by rw [slen]; omega⟩) ?_
    exact (StrLaws.subAt_one _ c _).mpr (by rw [stl]; exact hd)
  · have hat : l[a]? = some c := by
      have := (StrLaws.subAt_one (⟨l.toArray⟩ : Str) c a).mp ha
      rwa [stl] at this
    have hal := (List.getElem?_eq_some_iff.mp hat).1
    have hai : i ≤ a := (List.mem_range'_1.mp (by rw [e]; simp : a ∈ List.range' i ((⟨l.toArray⟩ : Str).length + 1 - i))).1
    have er : Tk.run (fun d => !(d == c)) (l.drop i) = a - i := by
      refine Tk.run_eq (by rw [List.length_drop]; omega) (fun k d hk hd => ?_) (fun d hd => ?_)
      · rw [List.getElem?_drop] at hd
        by_cases h : d = c
        · subst h
          exact absurd ((StrLaws.subAt_one _ d _).mpr (by rw [stl]; exact hd)) (hn (i + k) (range_pre e _ (by omega) (by omega)))
        · simp [h]
      · rw [List.getElem?_drop, show i + (a - i) = a by omega, hat] at hd
        have : c = d := Option.some.inj hd
        simp [this]
    rw [er, if_pos (by omega)]
    generalize (forIn (List.range' i ((⟨l.toArray⟩ : Str).length + 1 - i)) ((#[] : Array Nat), i) (StrLaws.occBody (⟨l.toArray⟩ : Str) ⟨#[c]⟩ (⟨l.toArray⟩ : Str).length 1)).run.fst = arr at h0
    have h1 : arr.toList[0]? = some a := by simpa using h0
    cases hL : arr.toList with
    | nil => rw [hL] at h1; cases h1
    | cons b t =>
      rw [hL] at h1
      have : b = a := by simpa using h1
      subst this
      show ((b : Nat) : Int) = _
      omega
theorem nl_eq : Str.ofString "\n" = ⟨#[10]⟩ := by decide +kernel
def spNote : Sp := fun vs H Q _ => ∃ (l : List Nat) (i : Nat), vs = [txt l, .int i] ∧ l.length ≤ 100000 ∧ i ≤ l.length ∧ Q (.int (Tk.noteEnd l i : Int)) H
def spEnd : Sp := fun vs H Q _ => ∃ (l : List Nat) (i c : Nat), vs = [txt l, .int i] ∧ l.length ≤ 100000 ∧ l[i]? = some c ∧ Q (.int (Tk.tokEnd l i : Int)) H
/-- a text is a word -/
def isWord (p : List Nat) : Bool := wordL.any fun y => decide (y = ⟨p.toArray⟩)
def sortS : Tk.Srt → Str
  | .word => "word" | .name => "name" | .number => "number" | .sign => "sign" | .wrong => "wrong"
def spSort : Sp := fun vs H Q _ => ∃ (c : Nat) (r : List Nat), vs = [txt (c :: r)] ∧ (c :: r).length ≤ 100000 ∧ (Tk.letter c = false → Tk.digit c = false → r = []) ∧ Q (.str (sortS (Tk.sortOf isWord (c :: r)))) H
theorem run_none (l : List Nat) : Tk.run (fun _ => false) l = 0 := by
  cases l <;> simp [Tk.run]
theorem words_letters : (wordL.all fun y => match y.cps.toList with | c :: _ => Tk.letter c | [] => false) = true := by decide +kernel
theorem word_letter {c : Nat} {r : List Nat} (h : isWord (c :: r) = true) : Tk.letter c = true := by
  unfold isWord at h
  obtain ⟨y, hy, e⟩ := List.any_eq_true.mp h
  have e := of_decide_eq_true e
  have h2 := List.all_eq_true.mp words_letters y hy
  rw [e] at h2
  exact h2
theorem words_flat : (wordL.map V.str).all flatV = true := by decide +kernel
theorem inV_word (p : List Nat) : inV (.str ⟨p.toArray⟩) (wordL.map V.str) = isWord p := by
  unfold inV isWord
  rw [List.any_map]
  rfl
/-- a list at f grows by a new object at p; G is the heap without f -/
theorem grow {H G H' : Hp} {f p : Addr} {o u x : HO} (s0 : Same H G) (gf : G f = none) (s1 : Same G H') (hf : H' f = some x) (np : H' p = none) :
    Same H (upd G p o) ∧ (upd G p o) f = none ∧ Same (upd G p o) (upd (upd H' p o) f u) ∧ Same G (upd G p o) := by
  have gp : G p = none := s1.free np
  have npf : f ≠ p := ne_of_none hf np
  refine ⟨s0.trans (same_upd gp), by rw [upd_ne npf]; exact gf, fun b z e => ?_, same_upd gp⟩
  by_cases hb : b = p
  · subst hb
    rw [upd_same] at e
    rw [upd_ne npf.symm, upd_same]
    exact e
  · rw [upd_ne hb] at e
    have hbf : b ≠ f := fun q => by rw [q, gf] at e; cases e
    rw [upd_ne hbf, upd_ne hb]
    exact s1 _ _ e
def tokD (t : Tk.Srt × Nat × Nat) : PyData := .tuple [.str (sortS t.1), .int (t.2.1 : Int), .int (t.2.2 : Int)]
abbrev tokV (t : Tk.Srt × Nat × Nat) : List V := [.str (sortS t.1), .int (t.2.1 : Int), .int (t.2.2 : Int)]
theorem tok_dp {K : PySem.W.Frag} {H : Hp} {p : Addr} {t : Tk.Srt × Nat × Nat} (h : H p = some (.tup (tokV t))) : Dp K H (.ref p) (tokD t) :=
  .tup (SqT.of h) (.cons (.str _) (.cons (.int _) (.cons (.int _) .nil)))
def spTokens (K : PySem.W.Frag) : Sp := fun vs H Q _ => ∃ (l : List Nat), vs = [txt l] ∧ l.length ≤ 50000 ∧
  ∀ p H', Same H H' → H p = none → Dp K H' (.ref p) (.list ((Tk.from_ isWord l 0).map tokD)) → Q (.ref p) H'
theorem bang_eq : Str.ofString "!" = ⟨#[33]⟩ := by decide +kernel
theorem sp_eq : Str.ofString " " = ⟨#[32]⟩ := by decide +kernel
theorem slice_piece {l : List Nat} {i j : Nat} (hi : i ≤ l.length) (hj : j ≤ l.length) : Txt.slice ⟨l.toArray⟩ (some (i : Int)) (some (j : Int)) = ⟨(Tk.piece l i j).toArray⟩ := by
  rw [← C8.cutS_slice]
  unfold cutS Tk.piece
  rw [HT.sIx_nat, HT.sIx_nat, slen, stl, Nat.min_eq_left hi, Nat.min_eq_left hj]
theorem slice_tail {l : List Nat} {i : Nat} (hi : i ≤ l.length) : Txt.slice ⟨l.toArray⟩ (some (i : Int)) none = ⟨(l.drop i).toArray⟩ := by
  rw [← C8.cutS_slice]
  unfold cutS
  rw [HT.sIx_nat, HT.sIx_none, slen, stl, Nat.min_eq_left hi, List.take_of_length_le (by rw [List.length_drop]; omega)]
def spStretch : Sp := fun vs H Q _ => ∃ (l : List Nat) (i c : Nat), vs = [txt l, .int i] ∧ l.length ≤ 100000 ∧ l[i]? = some c ∧ (Tk.letter c = true ∨ Tk.digit c = true) ∧ Q (.int ((Tk.tokEnd l i : Nat) : Int)) H
theorem no_both {c : Nat} (h : Tk.letter c = true) : Tk.digit c = false := by
  unfold Tk.letter at h
  unfold Tk.digit
  simp only [Bool.or_eq_true, Bool.and_eq_true, decide_eq_true_eq] at h
  by_cases h1 : 48 ≤ c
  · have : ¬ c ≤ 57 := by omega
    simp [this]
  · simp [h1]
theorem sum_of {i : Nat} {z : Int} {p : Nat → Bool} {l : List Nat} {n : Nat} (e : Tk.run p l = n) (hz : z = ((i + n : Nat) : Int)) : z = ((i + Tk.run p l : Nat) : Int) := by
  rw [e]; exact hz
theorem words_cat : ([.str "kind", .str "number", .str "ref", .str "fixed", .str "empty", .str "single", .str "thing", .str "none", .str "index", .str "told", .str "keep", .str "adopt"] : List V) ++ [.str "as", .str "move", .str "to", .str "most"] = wordL.map V.str := rfl
theorem in_signsC (c : Nat) : decide (c ∈ (Str.ofString "{}:;=*+").cps.toList) = Tk.signC c := in_signs c
/-- the state of the law's loop at a place -/
structure LawAt (K : PySem.W.Frag) (l : List Nat) (H H' : Hp) (wd g : Addr) (i behind : Nat) (note : Bool) (ps : List V) (done : List (Tk.Srt × Nat × Nat)) (G : Hp) : Prop where
  s0 : Same H G
  gg : G g = none
  s1 : Same G H'
  hg : H' g = some (.lst ps)
  hw : SqL K G wd (wordL.map V.str)
  hd : DpAll K G ps (done.map tokD)
  hn : note = true → behind ≤ i
  hb : behind ≤ l.length
  hlen : done.length ≤ i
  hdone : done ++ Tk.resume isWord l i behind note = Tk.from_ isWord l 0
/-- a token found -/
theorem LawAt.found {K : PySem.W.Frag} {l : List Nat} {H H' : Hp} {wd g : Addr} {i behind c : Nat} {ps : List V} {done : List (Tk.Srt × Nat × Nat)} {G : Hp} {p : Addr} {sx : Str} (W : LawAt K l H H' wd g i behind false ps done G) (hc : l[i]? = some c) (hb : Tk.blank c = false) (hx : c ≠ 33) (hi : behind ≤ i)
    (np : H' p = none) (hs : sx = sortS (Tk.sortOf isWord (Tk.piece l i (Tk.tokEnd l i)))) :
    ∃ ps' done' G', LawAt K l H (upd (upd H' p (.tup [.str sx, .int (i : Int), .int ((Tk.tokEnd l i : Nat) : Int)])) g (.lst (ps ++ [.ref p]))) wd g (i + 1) (Tk.tokEnd l i) false ps' done' G' := by
  obtain ⟨a1, a2, a3, a4⟩ := grow (o := .tup [.str sx, .int (i : Int), .int ((Tk.tokEnd l i : Nat) : Int)]) (u := .lst (ps ++ [.ref p])) W.s0 W.gg W.s1 W.hg np
  have ht := Tk.tokEnd_le hc
  refine ⟨ps ++ [.ref p], done ++ [(Tk.sortOf isWord (Tk.piece l i (Tk.tokEnd l i)), i, Tk.tokEnd l i)], _, a1, a2, a3, upd_same, a4.seq W.hw, ?_, (fun h => by cases h), ht.1, ?_, ?_⟩
  · rw [List.map_append]
    refine dpAll_snoc (dpAll_mono a4 _ _ W.hd) (tok_dp ?_)
    rw [upd_same, hs]
  · rw [List.length_append]
    have := W.hlen
    show done.length + 1 ≤ _
    omega
  · have e := W.hdone
    rw [Tk.resume_tok hc hb hx hi] at e
    rw [List.append_assoc]
    exact e
def scrapL : List Str := ["kind ", "a", "b.0", "#", "{", "}", ":", ";", "=", "*", "+", "number", " ref ", " fixed", " thing ", "17", "none", "told ", "index", "keep ", "move ", " to ", "adopt ", " as ", "most ", "! x", "\n", " ", "_", "?"]
theorem scrap_len : ∀ y ∈ scrapL, y.length ≤ 8 := by
  have h : (scrapL.all fun y => decide (y.length ≤ 8)) = true := by decide +kernel
  exact fun y hy => of_decide_eq_true (List.all_eq_true.mp h y hy)
theorem joinL_nil_len : ∀ ps : List (List Nat), (TL.joinL [] ps).length = (ps.map (·.length)).sum
  | [] => rfl
  | [p] => by simp [TL.joinL]
  | p :: q :: r => by
    show (p ++ ([] ++ TL.joinL [] (q :: r))).length = _
    rw [List.nil_append, List.length_append, joinL_nil_len (q :: r)]
    simp
theorem tl_len (x : Str) : (TL.tl x).length = x.length := by simp [TL.tl, Str.length]
theorem join_len (ys : List Str) (e : Str) (he : e = ⟨#[]⟩) : (Txt.join e ys).length = (ys.map (·.length)).sum := by
  rw [← tl_len, TL.join_eq, TL.tl_join]
  subst he
  have : TL.tl (⟨#[]⟩ : Str) = [] := rfl
  rw [this, joinL_nil_len, List.map_map]
  have e : (fun y : List Nat => y.length) ∘ TL.tl = fun y : Str => y.length := funext tl_len
  exact congrArg (fun f => (ys.map f).sum) e
theorem sum_le {ys : List Str} {k : Nat} (h : ∀ y ∈ ys, y.length ≤ k) : (ys.map (·.length)).sum ≤ k * ys.length := by
  induction ys with
  | nil => simp
  | cons y r ih =>
    have h1 := h y (List.mem_cons_self ..)
    have h2 := ih fun z hz => h z (List.mem_cons_of_mem _ hz)
    simp only [List.map_cons, List.sum_cons, List.length_cons]
    rw [Nat.mul_add, Nat.mul_one]
    omega
theorem empty_eq : Str.ofString "" = ⟨#[]⟩ := by decide +kernel
def spScraps : Sp := fun vs H Q _ => ∃ (t c : Addr) (cs : List Int) (most : Int), vs = [.ref t, .int most] ∧ Tape t c cs H ∧ 0 ≤ most ∧ most < 1000 ∧
  ∀ (l : List Nat) (H' : Hp), l.length ≤ 50000 → Tape t c cs H' → SameX t H H' → Q (txt l) H'
theorem toks_len {iw : List Nat → Bool} : ∀ (n i : Nat) (l : List Nat), l.length ≤ n → (Tk.toks iw i l).length ≤ l.length
  | 0, i, l, h => by
    have : l = [] := List.eq_nil_of_length_eq_zero (Nat.le_zero.mp h)
    subst this
    rw [Tk.toks_nil]
    exact Nat.le_refl _
  | n + 1, i, [], h => by
    rw [Tk.toks_nil]
    exact Nat.le_refl _
  | n + 1, i, c :: r, h => by
    have hr : r.length ≤ n := Nat.le_of_succ_le_succ h
    cases hb : Tk.blank c with
    | true =>
      rw [Tk.toks_blank hb]
      exact Nat.le_succ_of_le (toks_len n _ r hr)
    | false =>
      by_cases h2 : c = 33
      · rw [Tk.toks_note h2]
        refine Nat.le_trans (toks_len n _ _ (by rw [List.length_drop]; omega)) ?_
        rw [List.length_drop, List.length_cons]
        omega
      · rw [Tk.toks_tok hb h2, List.length_cons, List.length_cons]
        refine Nat.succ_le_succ (Nat.le_trans (toks_len n _ _ (by rw [List.length_drop]; omega)) ?_)
        rw [List.length_drop]
        omega
theorem ok_toks (ts : List (Tk.Srt × Nat × Nat)) (h : ts.length ≤ 1000000) : okD 2 (.list (ts.map tokD)) := by
  refine ⟨by rw [List.length_map]; exact h, fun d hd => ?_⟩
  obtain ⟨t, _, rfl⟩ := List.mem_map.mp hd
  refine ⟨by show 3 ≤ 1000000; decide, fun d hd => ?_⟩
  rcases List.mem_cons.mp hd with rfl | hd
  · exact True.intro
  rcases List.mem_cons.mp hd with rfl | hd
  · exact True.intro
  rcases List.mem_cons.mp hd with rfl | hd
  · exact True.intro
  cases hd
end LB
/-! The mathematics of reading: parsers over lists of tokens; what they do with the first tokens of a list. -/
namespace PM
open PySem LB
structure Tok where
  kd : Tk.Srt
  text : List Nat
  start : Nat
  stop : Nat
def Tok.str (t : Tok) : Str := ⟨t.text.toArray⟩
def Tok.form (t : Tok) : Str := match t.kd with | .name => "NAME" | .number => "NUMBER" | _ => t.str
inductive Res (α : Type) where
  | ok (a : α) (rest : List Tok)
  | bad (rest : List Tok)
def Res.rest {α : Type} : Res α → List Tok
  | .ok _ r => r
  | .bad r => r
abbrev Pr (α : Type) := List Tok → Res α
def ret {α : Type} (a : α) : Pr α := fun ts => .ok a ts
def fail {α : Type} : Pr α := fun ts => .bad ts
def bnd {α β : Type} (p : Pr α) (q : α → Pr β) : Pr β := fun ts => match p ts with | .ok a r => q a r | .bad r => .bad r
def aheadS : List Tok → Str
  | [] => ""
  | t :: _ => t.form
def ahead : Pr Str := fun ts => .ok (aheadS ts) ts
/-- the next token, its form out of fs -/
def tok (fs : List Str) : Pr Tok
  | [] => .bad []
  | t :: r => if t.form ∈ fs then .ok t r else .bad (t :: r)
def take (fs : List Str) : Pr Str := bnd (tok fs) fun t => ret t.str
def numV (ds : List Nat) : Int := ds.foldl (fun v c => (v * 10 + ((c - 48 : Nat) : Int)) % 4294967296) 0
def number : Pr Int := bnd (tok ["NUMBER"]) fun t => ret (numV t.text)
def name : Pr Str := take ["NAME"]
/-- read while c holds of the next form -/
def lp {α : Type} (c : Str → Bool) (p : Pr α) : Nat → Pr (List α)
  | 0 => fail
  | n + 1 => bnd ahead fun a => if c a = true then bnd p fun x => bnd (lp c p n) fun xs => ret (x :: xs) else ret []
abbrev until_ {α : Type} (stop : Str) (p : Pr α) (n : Nat) : Pr (List α) := lp (fun a => !decide (a = stop)) p n
abbrev while_ {α : Type} (go : Str) (p : Pr α) (n : Nat) : Pr (List α) := lp (fun a => decide (a = go)) p n
def addition : Pr Int := bnd ahead fun a => if a = "+" then bnd (take ["+"]) fun _ => number else ret 0
def value : Pr Vl := bnd ahead fun a =>
  if a = "NUMBER" then bnd number fun n => ret (.number n)
  else if a = "NAME" then bnd name fun n => ret (.name n)
  else bnd (take ["none", "index", "told"]) fun w =>
    if w = "none" then ret .none
    else if w = "index" then bnd addition fun n => ret (.index n)
    else bnd name fun x => bnd addition fun n => ret (.told x n)
def pair : Pr (Str × Vl) := bnd name fun f => bnd (take ["="]) fun _ => bnd value fun v => bnd (take [";"]) fun _ => ret (f, v)
def thing (n : Nat) : Pr Im := bnd name fun x => bnd ahead fun a =>
  bnd (if a = "*" then bnd (take ["*"]) fun _ => bnd number fun k => ret (some k) else ret none) fun c =>
  bnd (take [":"]) fun _ => bnd name fun k => bnd (take ["{"]) fun _ => bnd (until_ "}" pair n) fun vs => bnd (take ["}"]) fun _ => ret (.thing x c k vs)
def endIt (i : Im) : Pr Im := bnd (take [";"]) fun _ => ret i
def item (n : Nat) : Pr Im := bnd (take ["thing", "keep", "most", "adopt", "move"]) fun w =>
  if w = "thing" then thing n
  else if w = "keep" then bnd name fun x => endIt (.keep x)
  else if w = "most" then bnd number fun k => endIt (.most k)
  else if w = "adopt" then bnd number fun k => bnd (take ["as"]) fun _ => bnd name fun x => endIt (.adopt k x)
  else bnd name fun o => bnd (take ["to"]) fun _ => bnd name fun x => endIt (.move o x)
/-- marks without doubles, in order -/
def marksOf (ms : List Str) : List Str := markL.filter fun m => decide (m ∈ ms)
def field (n : Nat) : Pr Fd := bnd name fun x => bnd (take [":"]) fun _ => bnd (take ["number", "ref"]) fun w =>
  bnd (if w = "ref" then name else ret "") fun g => bnd (until_ ";" (take ["fixed", "empty", "single"]) n) fun ms => bnd (take [";"]) fun _ => ret ⟨x, g, marksOf ms⟩
def kind (n : Nat) : Pr Kd := bnd (take ["kind"]) fun _ => bnd name fun x => bnd (take ["{"]) fun _ => bnd (until_ "}" (field n) n) fun fs => bnd (take ["}"]) fun _ => ret ⟨x, fs⟩
def tree (n : Nat) : Pr LB.Tree := bnd (while_ "kind" (kind n) n) fun ks => bnd (until_ "" (item n) n) fun is => ret ⟨ks, is⟩
/-! ### the first tokens of a list -/
def Sim {α : Type} (D : List Tok) (r r' : Res α) : Prop :=
  (r'.rest = [] ∧ r.rest.length ≤ D.length) ∨ (∃ a S, S ≠ [] ∧ r = .ok a (S ++ D) ∧ r' = .ok a S) ∨ (∃ S, S ≠ [] ∧ r = .bad (S ++ D) ∧ r' = .bad S)
structure Good {α : Type} (p : Pr α) : Prop where
  suf : ∀ ts, (p ts).rest <:+ ts
  sim : ∀ R D, Sim D (p (R ++ D)) (p R)
section
variable {α β : Type}
theorem good_ret (a : α) : Good (ret a) := ⟨fun ts => List.suffix_refl ts, fun R D => by
  cases R with
  | nil => exact .inl ⟨rfl, Nat.le_refl _⟩
  | cons t r => exact .inr (.inl ⟨a, t :: r, by simp, rfl, rfl⟩)⟩
theorem good_fail : Good (fail : Pr α) := ⟨fun ts => List.suffix_refl ts, fun R D => by
  cases R with
  | nil => exact .inl ⟨rfl, Nat.le_refl _⟩
  | cons t r => exact .inr (.inr ⟨t :: r, by simp, rfl, rfl⟩)⟩
theorem good_ahead : Good ahead := ⟨fun ts => List.suffix_refl ts, fun R D => by
  cases R with
  | nil => exact .inl ⟨rfl, Nat.le_refl _⟩
  | cons t r => exact .inr (.inl ⟨t.form, t :: r, by simp, rfl, rfl⟩)⟩
theorem good_tok (fs : List Str) : Good (tok fs) := by
  have suf : ∀ ts, (tok fs ts).rest <:+ ts := fun ts => by
    cases ts with
    | nil => exact List.suffix_refl _
    | cons t r =>
      by_cases h : t.form ∈ fs
      · have e1 : tok fs (t :: r) = .ok t r := by simp [tok, h]
        rw [e1]
        exact List.suffix_cons t r
      · have e1 : tok fs (t :: r) = .bad (t :: r) := by simp [tok, h]
        rw [e1]
        exact List.suffix_refl _
  refine ⟨suf, fun R D => ?_⟩
  cases R with
  | nil => exact .inl ⟨rfl, (suf D).length_le⟩
  | cons t r =>
    by_cases h : t.form ∈ fs
    · have e1 : tok fs (t :: r ++ D) = .ok t (r ++ D) := by simp [tok, h]
      have e2 : tok fs (t :: r) = .ok t r := by simp [tok, h]
      rw [e1, e2]
      cases r with
      | nil => exact .inl ⟨rfl, Nat.le_refl _⟩
      | cons u r => exact .inr (.inl ⟨t, u :: r, by simp, rfl, rfl⟩)
    · have e1 : tok fs (t :: r ++ D) = .bad (t :: r ++ D) := by simp [tok, h]
      have e2 : tok fs (t :: r) = .bad (t :: r) := by simp [tok, h]
      rw [e1, e2]
      exact .inr (.inr ⟨t :: r, by simp, rfl, rfl⟩)
theorem good_bnd {p : Pr α} {q : α → Pr β} (hp : Good p) (hq : ∀ a, Good (q a)) : Good (bnd p q) := by
  have suf : ∀ ts, (bnd p q ts).rest <:+ ts := fun ts => by
    have h := hp.suf ts
    unfold bnd
    cases e : p ts with
    | ok a r =>
      rw [e] at h
      exact ((hq a).suf r).trans h
    | bad r =>
      rw [e] at h
      exact h
  refine ⟨suf, fun R D => ?_⟩
  rcases hp.sim R D with ⟨h1, h2⟩ | ⟨a, S, hS, h1, h2⟩ | ⟨S, hS, h1, h2⟩
  · refine .inl ⟨?_, ?_⟩
    · unfold bnd
      cases e : p R with
      | ok a r =>
        rw [e] at h1
        have h1 : r = [] := h1
        subst h1
        exact List.eq_nil_of_length_eq_zero (Nat.le_zero.mp ((hq a).suf []).length_le)
      | bad r =>
        rw [e] at h1
        exact h1
    · unfold bnd
      cases e : p (R ++ D) with
      | ok a r =>
        rw [e] at h2
        exact Nat.le_trans ((hq a).suf r).length_le h2
      | bad r =>
        rw [e] at h2
        exact h2
  · have e1 : bnd p q (R ++ D) = q a (S ++ D) := by unfold bnd; rw [h1]
    have e2 : bnd p q R = q a S := by unfold bnd; rw [h2]
    rw [e1, e2]
    exact (hq a).sim S D
  · have e1 : bnd p q (R ++ D) = .bad (S ++ D) := by unfold bnd; rw [h1]
    have e2 : bnd p q R = .bad S := by unfold bnd; rw [h2]
    rw [e1, e2]
    exact .inr (.inr ⟨S, hS, rfl, rfl⟩)
theorem good_ite {c : Prop} [Decidable c] {p q : Pr α} (hp : Good p) (hq : Good q) : Good (if c then p else q) := by
  split
  · exact hp
  · exact hq
theorem good_take (fs : List Str) : Good (take fs) := good_bnd (good_tok fs) fun _ => good_ret _
theorem good_number : Good number := good_bnd (good_tok _) fun _ => good_ret _
theorem good_name : Good name := good_take _
theorem good_lp {c : Str → Bool} {p : Pr α} (hp : Good p) : ∀ n, Good (lp c p n)
  | 0 => good_fail
  | n + 1 => good_bnd good_ahead fun _ => good_ite (good_bnd hp fun _ => good_bnd (good_lp hp n) fun _ => good_ret _) (good_ret _)
theorem good_until {stop : Str} {p : Pr α} (hp : Good p) (n : Nat) : Good (until_ stop p n) := good_lp hp n
theorem good_while {go : Str} {p : Pr α} (hp : Good p) (n : Nat) : Good (while_ go p n) := good_lp hp n
theorem good_addition : Good addition := good_bnd good_ahead fun _ => good_ite (good_bnd (good_take _) fun _ => good_number) (good_ret _)
theorem good_value : Good value := good_bnd good_ahead fun _ => good_ite (good_bnd good_number fun _ => good_ret _) (good_ite (good_bnd good_name fun _ => good_ret _)
  (good_bnd (good_take _) fun _ => good_ite (good_ret _) (good_ite (good_bnd good_addition fun _ => good_ret _) (good_bnd good_name fun _ => good_bnd good_addition fun _ => good_ret _))))
theorem good_pair : Good pair := good_bnd good_name fun _ => good_bnd (good_take _) fun _ => good_bnd good_value fun _ => good_bnd (good_take _) fun _ => good_ret _
theorem good_thing (n : Nat) : Good (thing n) := good_bnd good_name fun _ => good_bnd good_ahead fun _ => good_bnd (good_ite (good_bnd (good_take _) fun _ => good_bnd good_number fun _ => good_ret _) (good_ret _)) fun _ =>
  good_bnd (good_take _) fun _ => good_bnd good_name fun _ => good_bnd (good_take _) fun _ => good_bnd (good_until good_pair n) fun _ => good_bnd (good_take _) fun _ => good_ret _
theorem good_endIt (i : Im) : Good (endIt i) := good_bnd (good_take _) fun _ => good_ret _
theorem good_item (n : Nat) : Good (item n) := good_bnd (good_take _) fun _ => good_ite (good_thing n) (good_ite (good_bnd good_name fun _ => good_endIt _) (good_ite (good_bnd good_number fun _ => good_endIt _)
  (good_ite (good_bnd good_number fun _ => good_bnd (good_take _) fun _ => good_bnd good_name fun _ => good_endIt _) (good_bnd good_name fun _ => good_bnd (good_take _) fun _ => good_bnd good_name fun _ => good_endIt _))))
theorem good_field (n : Nat) : Good (field n) := good_bnd good_name fun _ => good_bnd (good_take _) fun _ => good_bnd (good_take _) fun _ => good_bnd (good_ite good_name (good_ret _)) fun _ =>
  good_bnd (good_until (good_take _) n) fun _ => good_bnd (good_take _) fun _ => good_ret _
theorem good_kind (n : Nat) : Good (kind n) := good_bnd (good_take _) fun _ => good_bnd good_name fun _ => good_bnd (good_take _) fun _ => good_bnd (good_until (good_field n) n) fun _ => good_bnd (good_take _) fun _ => good_ret _
theorem good_tree (n : Nat) : Good (tree n) := good_bnd (good_while (good_kind n) n) fun _ => good_bnd (good_until (good_item n) n) fun _ => good_ret _
/-- the tokens ahead of the wrong one: a tree, or wrong at their end -/
theorem first_before {p : Pr α} (hp : Good p) {C S : List Tok} (h : p (C ++ S) = .bad S) : (∃ a, p C = .ok a []) ∨ p C = .bad [] := by
  rcases hp.sim C S with ⟨h1, _⟩ | ⟨a, T, _, h1, _⟩ | ⟨T, hT, h1, _⟩
  · cases e : p C with
    | ok a r =>
      rw [e] at h1
      have h1 : r = [] := h1
      subst h1
      exact .inl ⟨a, rfl⟩
    | bad r =>
      rw [e] at h1
      have h1 : r = [] := h1
      subst h1
      exact .inr rfl
  · rw [h] at h1
    cases h1
  · rw [h] at h1
    have h1 : S = T ++ S := by injection h1
    have := congrArg List.length h1
    rw [List.length_append] at this
    exact absurd (List.eq_nil_of_length_eq_zero (by omega)) hT
/-- the tokens up to the wrong one: wrong there -/
theorem first_at {p : Pr α} (hp : Good p) {C S : List Tok} {t : Tok} (h : p (C ++ t :: S) = .bad (t :: S)) : p (C ++ [t]) = .bad [t] := by
  have h' : p ((C ++ [t]) ++ S) = .bad (t :: S) := by rw [List.append_assoc]; exact h
  rcases hp.sim (C ++ [t]) S with ⟨_, h2⟩ | ⟨a, T, _, h1, _⟩ | ⟨T, hT, h1, h2⟩
  · rw [h'] at h2
    exact absurd h2 (Nat.not_succ_le_self _)
  · rw [h'] at h1
    cases h1
  · rw [h'] at h1
    have h1 : t :: S = T ++ S := by injection h1
    have : [t] ++ S = T ++ S := h1
    have e := List.append_cancel_right this
    rw [← e] at h2
    exact h2
end
/-! ### as a condition on what follows -/
def Wp {α : Type} (p : Pr α) (ts : List Tok) (Ok : α → List Tok → Prop) (Bad : List Tok → Prop) : Prop := match p ts with | .ok a r => Ok a r | .bad r => Bad r
section
variable {α β : Type} {ts : List Tok} {Ok Ok' : α → List Tok → Prop} {Bad Bad' : List Tok → Prop}
theorem wp_bnd {p : Pr α} {q : α → Pr β} {Ok : β → List Tok → Prop} : Wp (bnd p q) ts Ok Bad = Wp p ts (fun a r => Wp (q a) r Ok Bad) Bad := by
  unfold Wp bnd
  cases p ts <;> rfl
theorem wp_ret {a : α} : Wp (ret a) ts Ok Bad = Ok a ts := rfl
theorem wp_ahead {Ok : Str → List Tok → Prop} : Wp ahead ts Ok Bad = Ok (aheadS ts) ts := rfl
theorem Wp.imp {p : Pr α} (h : Wp p ts Ok Bad) (f : ∀ a r, Ok a r → Ok' a r) (g : ∀ r, Bad r → Bad' r) : Wp p ts Ok' Bad' := by
  unfold Wp at *
  cases e : p ts with
  | ok a r => rw [e] at h; exact f a r h
  | bad r => rw [e] at h; exact g r h
end
/-- at least one token is read -/
def Prog {α : Type} (p : Pr α) : Prop := ∀ ts a r, p ts = .ok a r → r.length < ts.length
theorem prog_tok (fs : List Str) : Prog (tok fs) := fun ts a r h => by
  cases ts with
  | nil => cases h
  | cons t u =>
    by_cases hf : t.form ∈ fs
    · have e1 : tok fs (t :: u) = .ok t u := by simp [tok, hf]
      rw [e1] at h
      injection h with h1 h2
      rw [← h2]
      exact Nat.lt_succ_self _
    · have e1 : tok fs (t :: u) = .bad (t :: u) := by simp [tok, hf]
      rw [e1] at h
      cases h
theorem prog_bnd {α β : Type} {p : Pr α} {q : α → Pr β} (hp : Prog p) (hq : ∀ a, Good (q a)) : Prog (bnd p q) := fun ts b r h => by
  unfold bnd at h
  cases e : p ts with
  | ok a u =>
    rw [e] at h
    have h1 := hp ts a u e
    have h2 := ((hq a).suf u).length_le
    have h : q a u = .ok b r := h
    rw [h] at h2
    exact Nat.lt_of_le_of_lt h2 h1
  | bad u => rw [e] at h; cases h
theorem prog_take (fs : List Str) : Prog (take fs) := prog_bnd (prog_tok fs) fun _ => good_ret _
theorem prog_name : Prog name := prog_take _
theorem prog_pair : Prog pair := prog_bnd prog_name fun _ => good_bnd (good_take _) fun _ => good_bnd good_value fun _ => good_bnd (good_take _) fun _ => good_ret _
theorem prog_field (n : Nat) : Prog (field n) := prog_bnd prog_name fun _ => good_bnd (good_take _) fun _ => good_bnd (good_take _) fun _ => good_bnd (good_ite good_name (good_ret _)) fun _ =>
  good_bnd (good_until (good_take _) n) fun _ => good_bnd (good_take _) fun _ => good_ret _
theorem prog_kind (n : Nat) : Prog (kind n) := prog_bnd (prog_take _) fun _ => good_bnd good_name fun _ => good_bnd (good_take _) fun _ => good_bnd (good_until (good_field n) n) fun _ => good_bnd (good_take _) fun _ => good_ret _
theorem prog_item (n : Nat) : Prog (item n) := prog_bnd (prog_take _) fun _ => good_ite (good_thing n) (good_ite (good_bnd good_name fun _ => good_endIt _) (good_ite (good_bnd good_number fun _ => good_endIt _)
  (good_ite (good_bnd good_number fun _ => good_bnd (good_take _) fun _ => good_bnd good_name fun _ => good_endIt _) (good_bnd good_name fun _ => good_bnd (good_take _) fun _ => good_bnd good_name fun _ => good_endIt _))))
theorem Wp.suf {α : Type} {p : Pr α} {ts : List Tok} {Ok : α → List Tok → Prop} {Bad : List Tok → Prop} (h : Wp p ts Ok Bad) (hp : Good p) : Wp p ts (fun a r => Ok a r ∧ r.length ≤ ts.length) Bad := by
  have hs := (hp.suf ts).length_le
  unfold Wp at *
  cases e : p ts with
  | ok a r => rw [e] at h hs; exact ⟨h, hs⟩
  | bad r => rw [e] at h; exact h
theorem Wp.prog {α : Type} {p : Pr α} {ts : List Tok} {Ok : α → List Tok → Prop} {Bad : List Tok → Prop} (h : Wp p ts Ok Bad) (hp : Prog p) : Wp p ts (fun a r => Ok a r ∧ r.length < ts.length) Bad := by
  unfold Wp at *
  cases e : p ts with
  | ok a r => rw [e] at h; exact ⟨h, hp ts a r e⟩
  | bad r => rw [e] at h; exact h
end PM
/-! An own error over ValueError (another own class may stand between): its __init__ says super().__init__(f'..{v}') and stores v in one field. -/
namespace PySem
namespace SupX
open PySem.W PySem.Calls PyProof.Rows PySem.HandSPX
abbrev fld : Str := "start"
abbrev msg : Str := "the text cannot be read on from character "
def iA (p1 p2 : Pos) : Arguments := { posonlyargs := [], args := [{ arg := "self", annotation := none, pos := p1 }, { arg := fld, annotation := none, pos := p2 }], vararg := none, kwonlyargs := [], kw_defaults := [], kwarg := none, defaults := [] }
def iB (a1 a2 a3 b1 b2 b3 b4 b5 b6 q1 q2 q3 q4 : Pos) : List Stmt :=
  [.Expr (.Call (.Attribute (.Call (.Name "super" a1) [] [] a2) "__init__" a3) [.JoinedStr [.Constant (.str msg) 0 b1, .FormattedValue (.Name fld b2) (-1) none b3] b4] [] b5) b6,
   .Assign [.Attribute (.Name "self" q1) fld q2] (.Name fld q3) q4]
def iS : Scope := { kind := .function, names := [("self", .local), (fld, .local), ("__class__", .free), ("super", .globalImplicit)], isGenerator := false, isCoroutine := false, more := [] }
/-- what the written part says of the class x, at C, and of its __init__, at fI -/
structure SupTxt (prog : Program) (K : Frag) (mg : Str → Option Value) (x qual : Str) (C fI : Addr) : Prop where
  gC : mg x = some (.ref C)
  cls : ∃ nm q N bs bm sn sub ab col dd k0 k1 k2 k3 k5, K.lookup C = some (excClassObj nm q C N bs bm true sn sub ab col dd k0 k1 k2 k3 k5 "ValueError.__new__") ∧ refsVE bm = true
  sa : findIn K (.ref C) "__setattr__" = some (some (.builtin "object.__setattr__"))
  ga : findIn K (.ref C) "__getattribute__" = some (some (.builtin "BaseException.__getattribute__"))
  gg : findIn K (.ref C) "__getattr__" = some none
  noN : findIn K (.ref C) fld = some none
  iC : findIn K (.ref C) "__init__" = some (some (.ref fI))
  tC : typeIn K (.ref fI) = some (.type "function")
  kC : keepIn K (.ref C) = true
  exC : subIn K (.ref C) (.type "BaseException") = some true
  tyC : typeIn K (.ref C) = some (.type "type")
  hdC : hasDictIn K C = true
  te : exmOne K (.ref C) (.ref C) = some true
  su : ks_superIn K C C "__init__" = some (some (.builtin "ValueError.__init__"))
  veC : subIn K (.ref C) (.type "ValueError") = some true
  opq : nsIn K cStatics "thirdparty.any" = some none
  nosup : mg "super" = none
  mr : mroIn K C (.ref C) = some true
  bT : subIn K (.ref C) (.type "BaseException") = some true
  fn : ∃ (oc cl ccl : Value) (od cld cdd : Option Addr) (doc pm : Value) (an : Option Addr) (cda cc : Addr) (ct : Value) (osl csl ccs : Array (Option Value)) (cvs : Array Value) (file : Str) (tf : Tok) (p1 p2 a1 a2 a3 b1 b2 b3 b4 b5 b6 q1 q2 q3 q4 : Pos),
    K.lookup fI = some ⟨oc, od, .func (ksFn "__init__" qual (iA p1 p2) (iB a1 a2 a3 b1 b2 b3 b4 b5 b6 q1 q2 q3 q4) iS .none .none doc pm an (.ref cda) ct cc), osl⟩ ∧ codeIn K (.ref cda) qual = true ∧
    K.lookup cc = some ⟨cl, cld, .cell (some (.ref C)), csl⟩ ∧ K.lookup cda = some ⟨ccl, cdd, .fields cvs, ccs⟩ ∧ (a3.endLine == b5.line) = true ∧ cvs[2]? = some (.str file tf) ∧ ((prog.main.file : Str) == file) = true ∧ (prog.main.scope.names.lookup ("super" : Str)).isSome = false
theorem one_size (v : Value) : [v].length ≤ sizeLine := by
  rw [sizeLine_eq]
  exact (by decide : 1 ≤ 16777216)
theorem kept_but {K : Frag} {h h' : Heap} {x : Addr} (X : K.In h) (hx : K.lookup x = none) (k : ∀ b o, b ≠ x → h.get? b = some o → h'.get? b = some o) : K.In h' := fun a o e =>
  k a o (fun z => by rw [z, hx] at e; cases e) (X a o e)
/-- the method-wrapper that super().__init__ is, called -/
theorem call_mw {prog : Program} {w : World} {A : Around} {E : Value → Shared → Prop} {h : Heap} {g : Array GenState} {d : Drawn} {t : Nat} {os : OsState} {nm q : Str} {C N : Addr} {bs bm : List Value} {hdct : Bool} {sn : List Str} {sub : List Value} {ab : Bool} {col : Option Bool} {dd : Option Addr}
    {k0 k1 k2 k3 k5 : Option Value} {u e t0 : Addr} {rest : List Value} {Q : Value → Shared → Prop}
    (hC : h.get? C = some (excClassObj nm q C N bs bm hdct sn sub ab col dd k0 k1 k2 k3 k5 "ValueError.__new__")) (he : h.get? e = some (excO C t0)) (hu : h.get? u = some (kxs_mw "ValueError.__init__" e)) (hz : rest.length ≤ sizeLine)
    (hq : ∀ h' t1, (∀ b o, b ≠ e → h.get? b = some o → h'.get? b = some o) → h'.get? e = some (excO C t1) → Q .none ⟨h', g, d, t, os⟩) :
    wpAny (model prog w) A (call (.ref u) rest) Q E ⟨h, g, d, t, os⟩ := by
  refine wpAny_call (codeAny_of_tree ?_)
  change wpAny _ _ (callAny (.ref u) ⟨rest, []⟩) _ _ _
  unfold callAny
  refine wpAny_bind (wpAny_load hu ?_)
  have y1 : (Value.type "method-wrapper" == Value.type "method" || Value.type "method-wrapper" == Value.type "builtin_function_or_method"
      || Value.type "method-wrapper" == Value.type "method-wrapper") = true := by decide
  simp only [y1, if_true]
  refine KFB.if_so (by decide) (wpAny_bind (check_bound_init F.excBase_ValueError.toExcCallFacts hC he rfl ?_))
  refine wpAny_bind (wpAny_pure (wpAny_pure ⟨plainId_quiet F.excBase_ValueError.init.plain _, codeAny_builtin F.excBase_ValueError.initEntry ?_⟩))
  exact exc_init_tree (cls := .ref C) (t0 := t0) (dv := none) (c2 := .none) (c3 := .none) (b4 := .bool false) he hz fun h' k e' _ => hq h' _ k e'
/-- what __init__ leaves of a fresh exception at x -/
structure InitEnd (h h' : Heap) (x C dx t1 : Addr) (v : Value) : Prop where
  keep : ∀ b o, b ≠ x → h.get? b = some o → h'.get? b = some o
  obj : h'.get? x = some { cls := .ref C, dict := some dx, data := .fields #[.ref t1, .none, .none, .none, .bool false, .none] }
  dbig : h.objs.size ≤ dx
  dne : dx ≠ x
  ns : h'.Ns1 dx (fun y => if y = fld then some v else none)
/-- what may be shown in the error's text -/
def Shown : Value → Prop
  | .int i _ => i.natAbs.log2 < 1920 ∧ (Str.ofString (toString i)).length ≤ 1921
  | .str y _ => y.length ≤ 1921
  | _ => False
section
variable {prog : Program} {w : World} {A : Around} {E : Value → Shared → Prop} {R : Result → Shared → Prop} {s : Shared} {K : Frag} {mg mb : Str → Option Value} {x qual : Str} {C fI : Addr}
theorem ldX {M : Model} {s : Shared} {name : Str} {scope : Scope} {L a : Addr} {cd : Value} {cells : List (Str × Addr)} {m : Str → Option Value} {x : Str} {pos : Pos} {v : Value} {Q : Value → Shared → Prop} {A : Around} {E : Value → Shared → Prop} (hn : s.heap.Ns L m) (hv : m x = some v) (h : Q v s)
    (hk : scope.kind = .function := by rfl) (hl : (envX name scope L a cd cells).kindOf x = some .local := by rfl) (hd : (x == ("__debug__" : Str)) = false := by decide) :
    wpAny M A (eval (.Name x pos) (envX name scope L a cd cells)) Q E s := wpAny_Name (wpAny_loadName_local hk hl hn hv h) hd
theorem he_of {o : Expr} {name : Str} {apos pos : Pos} {a : Expr} {env : Env} (hline : (apos.endLine == pos.line) = true) (hs : starEach [a] env = [(false, eval a env)] := by rfl) :
    eval (.Call (.Attribute o name apos) [a] [] pos) env = (do
      let ov ← attributeBase o name env (eval o env)
      standAt apos.atName
      let (f, first) ← holding [ov] (getMethod ov name (do return (← importBound o env).getD true))
      callWith pos f first (backTo pos (starEach [a] env)) []) := by
  have e1 : methodCallForm 1 (backTo pos (starEach [a] env)) (backToKw pos (keywordEach [] env)) = true := by rw [hs]; rfl
  have e2 : methodCallPos true o env apos pos = pure pos := by
    unfold methodCallPos
    rw [if_pos (by rw [hline]; rfl)]
  rw [arm_eval_Call]
  have e3 : ([a].length + ([] : List Keyword).length) = 1 := rfl
  rw [e3]
  have e4 : ∀ ov, methodCall o name apos pos env ov 1 (backTo pos (starEach [a] env)) (backToKw pos (keywordEach [] env)) = (do
      let (f, first) ← holding [ov] (getMethod ov name (do return (← importBound o env).getD true))
      callWith pos f first (backTo pos (starEach [a] env)) []) := fun ov => by
    unfold methodCall calleeOf
    rw [e1, e2]
    simp only [pure_bind, if_true]
    rfl
  simp only [e4]
theorem sup_init (T : SupTxt prog K mg x qual C fI) {e t0 : Addr} {v : Value} (hv : Shown v) (X : K.In s.heap) (hg : s.heap.Ns mainGlobals mg) (hb : s.heap.Ns builtinsNs mb) (hbb : mb "super" = some (.type "super"))
    (hlim : s.heap.NoLimit) (hx : s.heap.get? e = some (excO C t0)) (hnx : K.lookup e = none) (hroom : A.depth < recursionLimit)
    (hq : ∀ h' tk dx t1, InitEnd s.heap h' e C dx t1 v → R (.ok (.ret .none)) { s with heap := h', toks := tk }) :
    codeAny (model prog w) A (.call (.ref fI) ⟨[.ref e, v], []⟩) R s := by
  obtain ⟨oc, cl, ccl, od, cld, cdd, doc, pm, an, cda, cc, ct, osl, csl, ccs, cvs, file, tf, p1, p2, a1, a2, a3, b1, b2, b3, b4, b5, b6, q1, q2, q3, q4, ho, hcd, hcell, hcode, hline, hvs, hfile, htop⟩ := T.fn
  obtain ⟨nm, q, N, bs, bm, sn, sub, ab, col, dd, k0, k1, k2, k3, k5, hC, hbm⟩ := T.cls
  have hcl : clsIn K C = some { name := nm, bases := bs, mro := .ref C :: bm, ns := N, qualname := q, hasDict := true, slotNames := sn, subclasses := sub, abstract := ab, collection := col, hasDel := false } := by unfold clsIn; rw [hC] <;> rfl
  have nc : ∀ y ∈ iS.names, y.2 ≠ .cell := by decide
  have nl : ∀ y ∈ ([("self", Value.ref e), (fld, v)] : List (Str × Value)), iS.names.lookup y.1 = some .local := fun y hy => by
    rcases List.mem_cons.mp hy with rfl | hy
    · rfl
    · rw [List.mem_singleton.mp hy]; rfl
  refine ks_codeAny_call_defAt (binds := [("self", .ref e), (fld, v)]) hroom (X _ _ ho) rfl hlim (codeRec_of X hcd) rfl (BindsTo.of_eq (by first | rfl | with_unfolding_all rfl)) nc nl (fun h₁ hns hk₁ => ?_)
  have X₁ : K.In h₁ := X.keeps hk₁
  have hx₁ := hk₁ _ _ hx
  have hne : e ≠ s.heap.objs.size := Nat.ne_of_lt (Heap.lt_size hx)
  have hm1 : ([("self", Value.ref e), (fld, v)] : List (Str × Value)).reverse.lookup ("self" : Str) = some (.ref e) := by first | rfl | with_unfolding_all rfl
  have hm2 : ([("self", Value.ref e), (fld, v)] : List (Str × Value)).reverse.lookup fld = some v := by first | rfl | with_unfolding_all rfl
  generalize ([("self", Value.ref e), (fld, v)] : List (Str × Value)).length = nb
  generalize hm : (fun x : Str => ([("self", Value.ref e), (fld, v)] : List (Str × Value)).reverse.lookup x) = m at hns
  have hm1' : m ("self" : Str) = some (.ref e) := by rw [← hm]; exact hm1
  have hm2' : m fld = some v := by rw [← hm]; exact hm2
  clear hm hm1 hm2
  -- super().__init__(..)
  refine ks_wpAt_execs_cons (ks_wpAt_Expr_any (ks_wpAt_MethodCall (pl := (do return (← importBound (.Call (.Name "super" a1) [] [] a2) (ksEnv qual iS s.heap.objs.size fI (.ref cda) cc)).getD true)) ?_ (he_of hline)))
  obtain ⟨hp, g, dr, tk, os⟩ := s
  refine ks_wpAt_super_base (env := ksEnv qual iS hp.objs.size fI (.ref cda) cc) rfl rfl (by decide) rfl (X₁ _ _ ho) rfl rfl rfl (X₁ _ _ hcode) rfl hvs hfile htop ?_
  refine ks_loadName_global rfl rfl (loadGlobal_builtin (env := ksEnv qual iS hp.objs.size fI (.ref cda) cc) (hg.keeps hk₁) T.nosup (hb.keeps hk₁) hbb ⟨rfl, ?_⟩)
  refine wpAny_loadName_free rfl rfl rfl ⟨_, X₁ _ _ hcell, rfl⟩ ?_
  refine wpAny_loadName_local rfl rfl hns hm1' ?_
  have I₁ : W.InstAt h₁ e (excO C t0) C none := ⟨hx₁, rfl, rfl, trivial⟩
  refine ks_wpAny_isType_cls (X₁ _ _ hC) rfl ⟨rfl, ?_⟩
  refine ks_wpAny_call_super (X₁ _ _ hC) rfl hx₁ rfl (fun c z => by cases z) (looks_mroIn X₁ T.mr) (fun h₂ hso k₂ => ?_)
  have X₂ := X₁.keeps k₂
  have hx₂ := k₂ _ _ hx₁
  have I₂ : W.InstAt h₂ e (excO C t0) C none := ⟨hx₂, rfl, rfl, trivial⟩
  have hsu : alongIn K "__init__" (((Value.ref C :: bm).dropWhile (· != .ref C)).drop 1) = some (some (.builtin "ValueError.__init__")) := by
    have z := T.su
    unfold ks_superIn at z
    rw [hcl] at z
    exact z
  have hmro : Looks (model prog w) h₂ (mroOf (.ref C)) (.ref C :: bm) := (looks_clsIn X₂ hcl).andThen .now
  refine kxs_getMethod kxs_ValueError hso (looks_opaque X₂ T.opq) hmro rfl X₂ hsu (I₂.type.andThen (looks_subIn X₂ T.veC)) (ks_ne X₂ I₂ hcl) (by decide) ?_
  -- its argument
  have hmw : (h₂.push (kxs_mw "ValueError.__init__" e)).get? h₂.objs.size = some (kxs_mw "ValueError.__init__" e) := Heap.get?_push_size _ rfl
  have k₃ : ∀ b o, h₂.get? b = some o → (h₂.push (kxs_mw "ValueError.__init__" e)).get? b = some o := fun b o z => Heap.get?_push_of_some _ z
  have hns₃ := (hns.keeps k₂).keeps k₃
  have fin : ∀ (y : Str) (tk1 tk2 : Nat), wpAny (model prog w) (A.deeper (ksEnv qual iS hp.objs.size fI (.ref cda) cc)) (call (.ref h₂.objs.size) [.str y tk1])
      (fun _ s' => _root_.PySem.wpAt (model prog w) (A.deeper (ksEnv qual iS hp.objs.size fI (.ref cda) cc)) (.func (iB a1 a2 a3 b1 b2 b3 b4 b5 b6 q1 q2 q3 q4) (ksEnv qual iS hp.objs.size fI (.ref cda) cc)) (execs [.Assign [.Attribute (.Name "self" q1) fld q2] (.Name fld q3) q4] (ksEnv qual iS hp.objs.size fI (.ref cda) cc))
        (fun f s' => R (.ok (.ret (match f with | .ret v => v | _ => .none))) s') (fun e s' => wpAny (model prog w) (A.deeper (ksEnv qual iS hp.objs.size fI (.ref cda) cc)) (leaving (ksEnv qual iS hp.objs.size fI (.ref cda) cc) e) (fun _ s'' => R (.error e) s'') (fun e' s'' => R (.error e') s'') s') s')
      (fun e s' => wpAny (model prog w) (A.deeper (ksEnv qual iS hp.objs.size fI (.ref cda) cc)) (leaving (ksEnv qual iS hp.objs.size fI (.ref cda) cc) e) (fun _ s'' => R (.error e) s'') (fun e' s'' => R (.error e') s'') s')
      ⟨h₂.push (kxs_mw "ValueError.__init__" e), g, dr, tk2, os⟩ := by
    intro y tk1 tk2
    refine call_mw (k₃ _ _ (X₂ _ _ hC)) (k₃ _ _ hx₂) hmw (one_size _) (fun h₄ t1 k₄ hx₄ => ?_)
    have X₄ : K.In h₄ := kept_but ((X₂.keeps k₃)) hnx k₄
    have hns₄ : h₄.Ns hp.objs.size m := hns₃.at (fun o z => k₄ _ _ (Ne.symm hne) z)
    refine wpAt_of_wpAny ?_
    refine wpAny_execs_cons (plainObj_wpAny_Assign_Attribute ?_)
    refine ldX (v := v) hns₄ hm2' (ldX (v := .ref e) hns₄ hm1' ?_)
    refine set_plain X₄ (ox := excO C t1) (od := none) ⟨hx₄, rfl, rfl, trivial⟩ T.sa ?_
    refine exc_osa X₄ hx₄ hcl (show refsVE (.ref C :: bm) = true from hbm) rfl T.noN (fun h₅ tk₅ dx k₅ dn dne hx₅ hn₅ => ?_)
    refine wpAny_execs_nil (hq h₅ tk₅ dx t1 ⟨fun b o hb z => k₅ b o hb (k₄ b o hb (k₃ b o (k₂ b o (hk₁ b o z)))), hx₅, ?_, dne, hn₅⟩)
    exact Nat.le_trans (Nat.le_of_lt hns₄.lt) dn
  show wpAny _ _ (callWith b5 (.ref h₂.objs.size) [] [(false, eval (.JoinedStr [.Constant (.str msg) 0 b1, .FormattedValue (.Name fld b2) (-1) none b3] b4) (ksEnv qual iS hp.objs.size fI (.ref cda) cc))] []) _ _ _
  refine kxs_callWith (i := "ValueError.__init__") (x := e) rfl (evalArgs_plain (spliced_cons ?_))
  have hml : msg.length ≤ 100 := by decide +kernel
  refine wpAny_JoinedStr ?_
  show Joins _ _ _ [eval (.Constant (.str msg) 0 b1) _, eval (.FormattedValue (.Name fld b2) (-1) none b3) _] _ _ _
  have big : ∀ n : Nat, n ≤ 4000 → n ≤ sizeLine := fun n hn => Nat.le_trans hn (by rw [sizeLine_eq]; exact (by decide : 4000 ≤ 16777216))
  have al : ∀ a b : Str, (a ++ b).length = a.length + b.length := fun a b => by
    have h := congrArg List.length (TL.tl_append a b)
    rw [List.length_append] at h
    simpa [Str.length, TL.tl] using h
  have e0 : (Str.empty : Str).length = 0 := rfl
  refine Calls.Constant_str ⟨msg, _, rfl, big _ (by rw [al, e0]; omega), ?_⟩
  refine wpAny_FormattedValue_plain (ldX (v := v) hns₃ hm2' ?_)
  match v, hv with
  | .int i t, hv => exact wpAny_formatField_int hv.1 ⟨_, _, rfl, big _ (by have := hv.2; rw [al, al, e0]; omega), big _ (by have := hv.2; rw [al, al, e0]; omega), spliced_nil ⟨hmw, fin _ _ _⟩⟩
  | .str y t, hv => exact wpAny_formatField_str ⟨_, _, rfl, big _ (by have : y.length ≤ 1921 := hv; rw [al, al, e0]; omega), big _ (by have : y.length ≤ 1921 := hv; rw [al, al, e0]; omega), spliced_nil ⟨hmw, fin _ _ _⟩⟩ ⟨_, _, rfl, big _ (by have : y.length ≤ 1921 := hv; rw [al, al, e0]; omega), big _ (by have : y.length ≤ 1921 := hv; rw [al, al, e0]; omega), spliced_nil ⟨hmw, fin _ _ _⟩⟩ (big _ (Nat.le_trans hv (by decide)))
/-- a made one -/
structure OwnMade (h h' : Heap) (e C d : Addr) (v : Value) : Prop where
  keep : ∀ b o, h.get? b = some o → h'.get? b = some o
  new : h.objs.size ≤ e
  obj : ∃ oe vs, h'.get? e = some oe ∧ oe.cls = .ref C ∧ oe.dict = some d ∧ oe.data = .fields vs ∧ vs[1]? = some .none
  dbig : h.objs.size ≤ d
  dne : d ≠ e
  ns : h'.Ns1 d (fun y => if y = fld then some v else none)
theorem sup_made (T : SupTxt prog K mg x qual C fI) {v : Value} (hv : Shown v) (X : K.In s.heap) (hg : s.heap.Ns mainGlobals mg) (hb : s.heap.Ns builtinsNs mb) (hbb : mb "super" = some (.type "super")) (hlim : s.heap.NoLimit) (hroom : A.depth + 1 < recursionLimit)
    (hq : ∀ h' tk e d, OwnMade s.heap h' e C d v → R (.ok (.ret (.ref e))) { s with heap := h', toks := tk }) :
    codeAny (model prog w) A (.call (.ref C) ⟨[v], []⟩) R s := by
  obtain ⟨nm, q, N, bs, bm, sn, sub, ab, col, dd, k0, k1, k2, k3, k5, hC, hbm⟩ := T.cls
  obtain ⟨hp, g, dr, tk, os⟩ := s
  have k : ∀ b o, hp.get? b = some o → ((hp.push (kdv_tup [v])).push (excO C hp.objs.size)).get? b = some o := fun b o e => Heap.get?_push_of_some _ (Heap.get?_push_of_some _ e)
  have hget : ((hp.push (kdv_tup [v])).push (excO C hp.objs.size)).get? (hp.objs.size + 1) = some (excO C hp.objs.size) := by heap_get
  have hnx : K.lookup (hp.objs.size + 1) = none := by
    cases e : K.lookup (hp.objs.size + 1) with
    | none => rfl
    | some o =>
      have z : hp.get? (hp.objs.size + 1) = some o := X _ _ e
      exact absurd (Nat.lt_of_succ_lt (Heap.lt_size z)) (Nat.lt_irrefl _)
  refine call_own F.excBase_ValueError (fun X => refsVE_contains X bm hbm) (X _ _ hC) (looks_findIn X T.iC) (fun self => bind_fn X self T.tC) (one_size v) ?_
  refine sup_init (s := ⟨(hp.push (kdv_tup [v])).push (excO C hp.objs.size), g, dr, tk, os⟩) T hv (X.keeps k) (hg.keeps k) (hb.keeps k) hbb (hlim.keeps k) hget hnx ?_ fun h' tk' dx t1 ⟨k', hx, dn, dne, hns⟩ => ?_
  · show A.depth + 1 < recursionLimit
    exact hroom
  · have old : ∀ b o, hp.get? b = some o → h'.get? b = some o := fun b o e => k' b o (Nat.ne_of_lt (Nat.lt_succ_of_lt (Heap.lt_size e))) (k b o e)
    have z : hp.objs.size + 1 + 1 ≤ dx := by
      first
        | (simpa only [Heap.size_push] using dn)
        | exact dn
        | (have q := dn; rw [Heap.size_push, Heap.size_push] at q; exact q)
    exact ⟨rfl, hq h' tk' (hp.objs.size + 1) dx ⟨old, Nat.le_succ _, ⟨_, _, hx, rfl, rfl, rfl, rfl⟩, Nat.le_trans (Nat.le_trans (Nat.le_succ _) (Nat.le_succ _)) z, dne, hns⟩⟩
end
end SupX
end PySem
namespace L2
open PySem PySem.Spec PyProof.Rows
open PySem.SupX (fld)
theorem relO_sup {v : V} {v' : Value} (r : RelV v v') (f : Str) : RelO (List.lookup f [(fld, v)]) (if f = fld then some v' else none) := by
  by_cases hw : f = fld
  · subst hw
    rw [if_pos rfl]
    have q : List.lookup fld [(fld, v)] = some v := by simp [List.lookup]
    rw [q]
    exact r
  · rw [if_neg hw]
    have qw : (f == fld) = false := by simpa using hw
    have q2 : List.lookup f [(fld, v)] = none := by simp [List.lookup, qw]
    rw [q2]
    trivial
def ShownV : V → Prop
  | .int i => i.natAbs.log2 < 1920 ∧ (Str.ofString (toString i)).length ≤ 1921
  | .str y => y.length ≤ 1921
  | _ => False
section
variable {X : Cx} {C fI : Addr} {x qual : Str}
/-- x(e) -/
def tMkSup (C : Addr) (ta : TA) : St → Hp → XK → Prop := fun σ H Q => ta σ H fun vs H1 => ∃ v, vs = [v] ∧ ShownV v ∧ ∀ d, H1 d = none → Q (.ref C) (some d) (upd H1 d (.xd [(fld, v)]))
theorem pmk_sup {a : Expr} {ta : TA} {p pos : Pos} {k : Nat} (T : PySem.SupX.SupTxt X.prog X.K X.mg x qual C fI) (hr : Room k X.A) (ha : PA X [a] ta) (hg : Gl X x := by rfl)
    (he : starEach (a :: []) X.env = (false, eval a X.env) :: starEach [] X.env := by rfl) (hpl : (backTo pos (starEach [] X.env)).any (·.1) = false := by rfl) (hdb : (x == ("__debug__" : Str)) = false := by rfl) :
    PMk X (.Call (.Name x p) [a] [] pos) (tMkSup C ta) := by
  intro pins s σ H Q I h
  refine wpAny_Call_Name_kw (ld_glob I hg T.gC ?_ hdb)
  refine PySem.W.callWith_K (h₀ := X.base) I.ok.mod.kin T.kC (thn (ha.run pos pins s σ H _ I h) fun us s1 hh => ?_) he hpl
  obtain ⟨vs, H1, I1, r1, v, ev, sv, q1⟩ := hh
  subst ev
  refine ⟨I1.kIn, ?_⟩
  cases r1 with
  | cons rv rn =>
    rename_i v' us'
    cases rn
    show wpAny _ _ (call (.ref C) [v']) _ _ _
    have hlim := I1.nolimit
    have sv' : PySem.SupX.Shown v' := by
      cases v with
      | int i =>
        obtain ⟨t, rfl⟩ := rv
        exact sv
      | str y =>
        obtain ⟨t, rfl⟩ := rv
        exact sv
      | _ => exact absurd sv id
    obtain ⟨mb, hb, hbb⟩ := I1.ok.mod.blt
    have hg1 := I1.ok.mod.glob.keeps (Inv.bk I1)
    have hb1 := hb.keeps (Inv.bk I1)
    have hs1 : mb "super" = some (.type "super") := (hbb "super" (by decide)).trans (by decide +kernel)
    have hkin := I1.kIn
    obtain ⟨hp, g, dr, tk, os⟩ := s1
    refine wpAny_call (PySem.SupX.sup_made T sv' hkin hg1 hb1 hs1 hlim (by have := hr.dp; omega) fun h' tk' e d M => ?_)
    show MkP X pins σ Q (.ref e) ⟨h', g, dr, tk', os⟩
    obtain ⟨oe, fv, hoe, hc, hd, hdat, h1⟩ := M.obj
    have hns := M.ns
    obtain ⟨G', g1, g2⟩ := restrict h' fun b => decide (b ≠ e)
    have gk : ∀ b, b ≠ e → G'.get? b = h'.get? b := fun b hb => g1 b (decide_eq_true hb)
    have ge : G'.get? e = none := g2 e (by simp)
    have old : ∀ b o, hp.get? b = some o → G'.get? b = some o := fun b o q => (gk b (Nat.ne_of_lt (Nat.lt_of_lt_of_le (Heap.lt_size q) M.new))).trans (M.keep b o q)
    have ob : ObjOk X.prog X.w (upd H1 d (.xd [(fld, v)])) G' d (.xd [(fld, v)]) :=
      ⟨_, hns.at (fun o q => (gk d M.dne).trans q), fun f => relO_sup rv f⟩
    have J : Inv X pins σ (upd H1 d (.xd [(fld, v)])) ⟨G', g, dr, tk', os⟩ := I1.laid (t' := tk') old M.dbig ob
    refine ⟨e, oe, fv, ⟨G', g, dr, tk', os⟩, _, .ref C, some d, rfl, J, fun b o q => ?_, ge, hoe, ⟨hc, hd⟩, hdat, h1, ?_, rfl, I1.bare, raises_own T.exC T.tyC, q1 d (I1.hok.fresh M.dbig)⟩
    · by_cases hb : b = e
      · have q' : G'.get? b = some o := q
        rw [hb, ge] at q'; cases q'
      · exact (gk b hb).symm.trans q
    · rw [upd_ne (Ne.symm M.dne)]
      exact I1.hok.fresh M.new
/-- raise x(e) -/
def tRaiseSup (C : Addr) (W : WX) (ta : TA) : TS := fun _ σ H => tMkSup C ta σ H fun cls d H' => W cls d σ H'
theorem ps_raiseSup {a : Expr} {ta : TA} {W : WX} {p pos pos2 : Pos} {k : Nat} (hc : X.calm = true) (T : PySem.SupX.SupTxt X.prog X.K X.mg x qual C fI) (hr : Room k X.A) (tk : Takes X W) (ha : PA X [a] ta) (hg : Gl X x := by rfl)
    (he : starEach (a :: []) X.env = (false, eval a X.env) :: starEach [] X.env := by rfl) (hpl : (backTo pos (starEach [] X.env)).any (·.1) = false := by rfl) (hdb : (x == ("__debug__" : Str)) = false := by rfl) :
    PS X (.Raise (some (.Call (.Name x p) [a] [] pos)) none pos2) (tRaiseSup C W ta) := ps_raise hc tk (pmk_sup T hr ha hg he hpl hdb)
/-- e.start, e the exception that the suite holds (at a; its class cls, its dict d) -/
def tBySup (C : Addr) (a : Addr) (cls : Value) (d : Option Addr) (te : TE) : TE := fun σ H Q => te σ H fun x H1 => x = .ref a ∧ cls = .ref C ∧ ∃ (dd : Addr) (v : V), d = some dd ∧ H1 dd = some (.xd [(fld, v)]) ∧ Q v H1
theorem pe_bySup {a : Addr} {oe : Obj} {cls : Value} {d : Option Addr} {pn : List (Addr × Obj)} {e : Expr} {te : TE} {pos : Pos} (T : PySem.SupX.SupTxt X.prog X.K X.mg x qual C fI) (hz : Zc cls d oe) (hf : ∃ vs, oe.data = .fields vs) (he : PE (X.suite a ((a, oe) :: pn)) e te)
    (hb : attributeBase e fld X.env (eval e X.env) = eval e X.env := by rfl) :
    PE (X.suite a ((a, oe) :: pn)) (.Attribute e fld pos) (tBySup C a cls d te) := by
  refine ⟨fun pins s σ H Q I h => ?_⟩
  refine attr_of hb (thn (he.run pins s σ H _ I h) fun u s1 hh => ?_)
  obtain ⟨x, H1, I1, rx, ex, ec, dd, v, ed, ea, q⟩ := hh
  subst ex
  obtain rfl : u = Value.ref a := rx
  subst ec
  subst ed
  obtain ⟨ha, _⟩ := I1.pin (a, oe) (List.mem_append_left _ List.mem_cons_self)
  obtain ⟨vs, hd⟩ := hf
  have hx : ObjOk X.prog X.w H1 s1.heap dd (.xd [(fld, v)]) := I1.hok dd _ ea
  obtain ⟨mA, hns, hr⟩ := hx
  obtain ⟨od, ho, hl⟩ := lookIn_ns hns
  have l : List.lookup fld [(fld, v)] = some v := by simp [List.lookup]
  obtain ⟨u, hu, ru⟩ := RelO.some_of (v := v) (o := mA fld) (by rw [← l]; exact hr fld)
  have J : PySem.W.InstAt s1.heap a oe C (some od) := ⟨ha, hz.1, by unfold PySem.W.notCls; rw [hd] <;> rfl, by rw [hz.2]; exact ho⟩
  exact HandSPX.exc_get I1.kIn J T.ga T.gg T.exC (PySem.W.findObj_own T.hdC T.noN rfl (by rw [hl, hu])) (handed_of ru) ⟨v, H1, I1.tok _, ru, q⟩
end
end L2
/-! set(a list of texts), sorted(a set of texts). -/
namespace SX
open PySem L2
def GoodS (w : World) (e : Int × Value) : Prop := ∃ x t, e.snd = .str x t ∧ e.fst = hashStr w x
def keyS (e : Int × Value) : Str := match e.snd with | .str x _ => x | _ => Str.empty
structure Rows (w : World) (xs : List Str) (es : List (Int × Value)) : Prop where
  good : ∀ e ∈ es, GoodS w e
  nd : (es.map keyS).Nodup
  mem : ∀ k, k ∈ xs ↔ k ∈ es.map keyS
def SetS (w : World) (h : Heap) (a : Addr) (xs : List Str) : Prop :=
  ∃ o es ep t, h.get? a = some o ∧ o.ExactSet ∧ o.data = .set es ep t ∧ Rows w xs es.toList ∧ t.fits es.size = true ∧ Ris t.place.toList ∧ (w.params.followText "set-order" = true ∨ t.led = true)
theorem SetS.at {w : World} {h h' : Heap} {a : Addr} {xs : List Str} (S : SetS w h a xs) (k : ∀ o, h.get? a = some o → h'.get? a = some o) : SetS w h' a xs := by
  obtain ⟨o, es, ep, t, ho, r⟩ := S
  exact ⟨o, es, ep, t, k o ho, r⟩
theorem nd_len : ∀ {l B : List Str}, l.Nodup → (∀ x ∈ l, x ∈ B) → l.length ≤ B.length
  | [], _, _, _ => Nat.zero_le _
  | x :: r, B, hn, hs => by
    have hx := hs x List.mem_cons_self
    have hr : r.length ≤ (B.erase x).length := nd_len (List.nodup_cons.mp hn).2 fun y hy =>
      (List.mem_erase_of_ne (fun e => (List.nodup_cons.mp hn).1 (by rw [← e]; exact hy))).mpr (hs y (List.mem_cons_of_mem _ hy))
    have := List.length_erase_of_mem hx
    have : 0 < B.length := List.length_pos_of_mem hx
    simp only [List.length_cons]
    omega
theorem Rows.len {w : World} {xs B : List Str} {es : List (Int × Value)} (R : Rows w xs es) (hB : ∀ x ∈ xs, x ∈ B) : es.length ≤ B.length := by
  have := nd_len R.nd (B := B) fun x hx => hB x ((R.mem x).mpr hx)
  simpa using this
section
variable {P : Program} {w : World} {A : Around} {E : Value → Shared → Prop} {s : Shared} {a : Addr} {xs B : List Str}
theorem Rows.elems {es : List (Int × Value)} (R : Rows w xs es) : ElemsOf (strKind P w) es := fun e he => by
  obtain ⟨x, t, h1, h2⟩ := R.good e he
  refine ⟨⟨x, ?_, h2⟩, ?_⟩
  · rw [h1]; exact (beq_self_eq_true x)
  · rw [h1]; rfl
theorem Rows.perm {es es' : List (Int × Value)} (R : Rows w xs es) (p : es'.Perm es) : Rows w xs es' :=
  ⟨fun e he => R.good e (p.mem_iff.mp he), (p.map keyS).nodup_iff.mpr R.nd, fun k => (R.mem k).trans (p.map keyS).mem_iff.symm⟩
theorem isStr_eq {x y : Str} {t : Tok} (h : (strKind P w).is x (.str y t) = true) : x = y := by
  first
    | exact eq_of_beq h
    | exact (eq_of_beq h).symm
    | exact of_decide_eq_true h
    | exact (of_decide_eq_true h).symm
    | exact (strKind P w).inj (.str y t) x y h (by first | exact beq_self_eq_true y | exact decide_eq_true rfl)
theorem tail {g : Bool → Sem Unit} (hg : ∀ (b : Bool) (s₁ : Shared) (Q' : Unit → Shared → Prop), Q' () s₁ → wpAny (model P w) A (g b) Q' E s₁)
    {o : Obj} {es : Array (Int × Value)} {ep : Nat} {t : SetTable} (ho : s.heap.get? a = some o) (hx : o.ExactSet) (hd : o.data = .set es ep t)
    {es1 : Array (Int × Value)} {t2 : SetTable} (R : Rows w xs es1.toList) (hz : es1.size < scanBound) (hf : t2.fits es1.size = true) (hr : Ris t2.place.toList) (hl : w.params.followText "set-order" = true ∨ t2.led = true)
    {wasDummy : Bool} {Q : Option Bool → Shared → Prop} (hq : ∀ h', Heap.SameBut a s.heap h' → SetS w h' a xs → Q (some true) { s with heap := h' }) :
    wpAny (model P w) A (do
      storeSet a es1 t2
      if (!wasDummy && t2.tooFull) = true then do
        g (relayAll t2 es1 (SetTable.grown es1.size)).snd.snd
        storeSet a (relayAll t2 es1 (SetTable.grown es1.size)).fst (relayAll t2 es1 (SetTable.grown es1.size)).snd.fst
        pure (some true)
      else pure (some true)) Q E s := by
  have st := store_at (es' := es1) (t' := t2) ho hd
  refine wpAny_bind (wpAny_storeSet_of ho hd ?_ (fits_of_scanBound hz))
  have hx' : (⟨o.cls, o.dict, .set es1 (ep + 1) t2, o.slots⟩ : Obj).ExactSet := hx
  by_cases c : (!wasDummy && t2.tooFull) = true
  · rw [if_pos c]
    refine wpAny_bind (hg _ _ _ ?_)
    have p := relayAll_perm t2 es1 (SetTable.grown es1.size)
    have f := relayAll_fits t2 es1 (SetTable.grown es1.size)
    have r := relayAll_ris t2 es1 (SetTable.grown es1.size)
    have l := relayAll_led t2 es1 (SetTable.grown es1.size)
    have z : (relayAll t2 es1 (SetTable.grown es1.size)).fst.size < scanBound := by
      have := p.length_eq
      simp only [Array.length_toList] at this
      omega
    refine wpAny_bind (wpAny_storeSet_of st rfl ?_ (fits_of_scanBound z))
    refine wpAny_pure (hq _ ((Heap.SameBut.update _ _ _).trans (Heap.SameBut.update _ _ _)) ?_)
    exact ⟨_, _, _, _, store_at st rfl, hx, rfl, R.perm p, f, r, hl.imp_right fun q => l.trans q⟩
  · rw [if_neg c]
    exact wpAny_pure (hq _ (Heap.SameBut.update _ _ _) ⟨_, _, _, _, st, hx, rfl, R, hf, hr, hl⟩)
theorem Rows.add {es es' : List (Int × Value)} (R : Rows w xs es) {x : Str} {tk : Tok} (hn : x ∉ xs) (p : es'.Perm (es ++ [(hashStr w x, Value.str x tk)])) : Rows w (xs ++ [x]) es' := by
  have q : es'.Perm ((hashStr w x, Value.str x tk) :: es) := p.trans (List.perm_append_singleton _ _)
  refine Rows.perm ⟨fun e he => ?_, ?_, fun k => ?_⟩ q
  · rcases List.mem_cons.mp he with rfl | he
    · exact ⟨x, tk, rfl, rfl⟩
    · exact R.good e he
  · rw [List.map_cons]
    exact List.nodup_cons.mpr ⟨fun h => hn ((R.mem _).mpr h), R.nd⟩
  · rw [List.map_cons, List.mem_cons, ← R.mem k, List.mem_append, List.mem_singleton]
    exact ⟨fun h => h.elim .inr .inl, fun h => h.elim .inr .inl⟩
def gwh (b : Bool) : Sem Unit := match b with | true => rule "set.scan.the-table-gave-way" | false => pure ()
theorem gwh_ok (b : Bool) (s₁ : Shared) (Q' : Unit → Shared → Prop) (h : Q' () s₁) : wpAny (model P w) A (gwh b) Q' E s₁ := by
  cases b
  · exact wpAny_pure h
  · exact wpAny_rule h
theorem add_hashed (S : SetS w s.heap a xs) (hB : ∀ x ∈ xs, x ∈ B) (hz : B.length + 1 < scanBound) {x : Str} {tk : Tok} {Q : Bool → Shared → Prop}
    (hq : ∀ b h', Heap.SameBut a s.heap h' → SetS w h' a (xs ++ [x]) → Q b { s with heap := h' }) :
    wpAny (model P w) A (setAddHashed a (.str x tk) (hashStr w x)) Q E s := by
  obtain ⟨o, es, ep, t, ho, hx, hd, R, hf, hr, hl⟩ := S
  have hsz : es.size < scanBound := by
    have := R.len hB
    simp only [Array.length_toList] at this
    omega
  have hsz1 : es.size + 1 < scanBound := by
    have := R.len hB
    simp only [Array.length_toList] at this
    omega
  have hk : (strKind P w).is x (.str x tk) = true := beq_self_eq_true x
  have el : ElemsOf (strKind P w) es.toList := R.elems
  refine wpAny_holding ?_
  have e1 : setAddHashedIn a (.str x tk) (hashStr w x) 100000 = setAddHashedIn a (.str x tk) (hashStr w x) (99999 + 1) := rfl
  rw [e1, setAddHashedIn_succ]
  refine wpAny_bind (wpAny_setState_of ho hd hf ?_)
  show wpAny _ _ (if byScan (.str x tk) es = true then _ else _) _ _ _
  rw [if_pos (byScan_of (knd := strKind P w) (x := .str x tk) rfl hsz el)]
  refine wpAny_bind ?_
  unfold setAddByScan
  refine wpAny_bind (wpAny_rule (wpAny_bind (wpAny_setScan_of (knd := strKind P w) (k := x) hk ho hd hf el ?_)))
  cases e : List.findIdx? (fun e => (strKind P w).is x e.snd) es.toList with
  | some j =>
    refine wpAny_pure (wpAny_pure (hq _ _ (Heap.SameBut.refl _ _) ⟨o, es, ep, t, ho, hx, hd, ⟨R.good, R.nd, fun k => ?_⟩, hf, hr, hl⟩))
    have hm : x ∈ xs := by
      obtain ⟨hj, h1, _⟩ := List.findIdx?_eq_some_iff_getElem.mp e
      rw [R.mem x]
      obtain ⟨y, t', h2, _⟩ := R.good _ (List.getElem_mem hj)
      have h3 : keyS (es.toList[j]) = y := by unfold keyS; rw [h2]
      rw [h2] at h1
      have : x = y := isStr_eq h1
      rw [this, ← h3]
      exact List.mem_map_of_mem (List.getElem_mem hj)
    rw [← R.mem k, List.mem_append, List.mem_singleton]
    exact ⟨fun h => h.elim id (fun h => h ▸ hm), .inl⟩
  | none =>
    have hn : x ∉ xs := fun h => by
      rw [R.mem x] at h
      obtain ⟨e', he, h2⟩ := List.mem_map.mp h
      obtain ⟨y, t', h3, _⟩ := R.good _ he
      have h4 := List.findIdx?_eq_none_iff.mp e e' he
      have h5 : y = x := by
        rw [← h2]; unfold keyS; rw [h3]
      rw [h3, h5] at h4
      have : ((strKind P w).is x (.str x t')) = true := beq_self_eq_true x
      rw [this] at h4
      cases h4
    have p := layNew_perm t es (hashStr w x) (.str x tk)
    have f := layNew_fits t es (hashStr w x) (.str x tk)
    have r := layNew_ris t es (hashStr w x) (.str x tk) hr
    have l := layNew_led t es (hashStr w x) (.str x tk)
    rw [Array.toList_push] at p
    have R' := R.add hn p
    have z : (layNew t es (hashStr w x) (.str x tk)).fst.size < scanBound := by
      have := p.length_eq
      simp only [Array.length_toList, List.length_append, List.length_singleton] at this
      omega
    generalize layNew t es (hashStr w x) (.str x tk) = ln at p f r l R' z ⊢
    obtain ⟨es1, t1, wd, gv⟩ := ln
    have gw : ∀ (b : Bool) (s₁ : Shared) (Q' : Unit → Shared → Prop), Q' () s₁ → wpAny (model P w) A (gwh b) Q' E s₁ := gwh_ok
    refine wpAny_bind (gw gv s _ ?_)
    have fin : ∀ t2 : SetTable, t2.fits es1.size = true → Ris t2.place.toList → t2.led = t1.led → wpAny (model P w) A (do
        storeSet a es1 t2
        if (!wd && t2.tooFull) = true then do
          gwh (relayAll t2 es1 (SetTable.grown es1.size)).snd.snd
          storeSet a (relayAll t2 es1 (SetTable.grown es1.size)).fst (relayAll t2 es1 (SetTable.grown es1.size)).snd.fst
          pure (some true)
        else pure (some true)) (fun r s' => wpAny (model P w) A (match r with | some added => pure added | none => setAddHashedIn a (.str x tk) (hashStr w x) 99999) Q E s') E s := fun t2 f2 r2 l2 =>
      tail gw ho hx hd R' z f2 r2 (hl.imp_right fun q => l2.trans (l.trans q)) fun h' sb S' => wpAny_pure (hq _ h' sb S')
    by_cases c : t1.plain = true
    · refine wpAny_ite_true (decide_eq_true c) ?_
      have pk : plainKind (.str x tk) = false := rfl
      rw [hashByValue_scannable 8 (x := .str x tk) rfl, pk]
      refine wpAny_bind (wpAny_pure ?_)
      exact fin { t1 with plain := false } f r rfl
    · refine wpAny_ite_false (decide_eq_false c) ?_
      refine wpAny_bind (wpAny_pure ?_)
      exact fin t1 f r rfl
/-! the loop -/
theorem update_loop {I : Addr} {fp wr : List Addr} {G : Array GenState → Array GenState → Prop} {n : Nat} {Pv : Nat → Value → Prop} {St : Nat → Shared → Prop} {R : Result → Shared → Prop} (W : WalksS P w A.in1 I fp wr G n Pv St) (S : Addr) (hS : S ∉ fp)
    (ys : List Str) (hn : n = ys.length) (hB : ∀ x ∈ ys, x ∈ B) (hz : B.length + 1 < scanBound) (hv : ∀ i v, Pv i v → ∃ y t, ys[i]? = some y ∧ v = .str y t) :
    ∀ (k i : Nat) (s : Shared), n - i = k → i ≤ n → St i s → SetS w s.heap S (ys.take i) → (∀ s', Moved (S :: wr) G s s' → SetS w s'.heap S ys → R (.ok (.ret .none)) s') →
      codeAny (model P w) A (.builtin "set.update.loop" ⟨[.ref S, .ref I], []⟩) R s := by
  intro k
  induction k with
  | zero =>
    intro i s hk hi hs hset hq
    have hin : i = n := by omega
    subst hin
    refine codeAny_builtin PyProof.Rows.F.entry_set_update_loop ?_
    rw [Around.under_plainId PyProof.Rows.F.plain_set_update_loop]
    refine wpAny_bind (W.done _ _ _ hs fun s' m => ?_)
    refine wpAny_pure ?_
    have e : ys.take i = ys := by rw [hn]; exact List.take_length
    rw [e] at hset
    refine hq _ (m.mono fun b hb => List.mem_cons_of_mem _ hb) (hset.at fun o ho => m.heap _ _ (fun h => hS (W.sub _ h)) ho)
  | succ k ih =>
    intro i s hk hi hs hset hq
    refine codeAny_builtin PyProof.Rows.F.entry_set_update_loop ?_
    rw [Around.under_plainId PyProof.Rows.F.plain_set_update_loop]
    refine wpAny_bind (W.item i _ _ _ (by omega) hs fun v s' hp hs' m => ?_)
    obtain ⟨y, t, hy, rfl⟩ := hv i v hp
    refine wpAny_bind (wpAny_holding (wpAny_holding (wpAny_bind ((strKind P w).pyHash (k := y) (beq_self_eq_true y) ?_))))
    have hset' : SetS w s'.heap S (ys.take i) := hset.at fun o ho => m.heap _ _ (fun h => hS (W.sub _ h)) ho
    refine add_hashed (s := { s' with toks := s'.toks + 1 }) (B := B) hset' (fun x hx => hB x (List.mem_of_mem_take hx)) hz (fun b h' sb S' => ?_)
    refine wpAny_pure ⟨plainId_quiet PyProof.Rows.F.plain_set_update_loop _, ?_⟩
    have e : ys.take (i + 1) = ys.take i ++ [y] := by rw [List.take_add_one, hy]; rfl
    have old : ∀ b o, b ≠ S → s'.heap.get? b = some o → h'.get? b = some o := fun b o hb ho => (sb.2 b hb).trans ho
    refine ih (i + 1) _ (by omega) (by omega) (W.frame _ s' _ _ hs' (Nat.le_succ _) fun b hb o ho => old b o (fun h => hS (h ▸ hb)) ho) (by rw [e]; exact S') fun s'' m2 S2 => ?_
    refine hq _ (Moved.trans W.gtrans ((m.mono fun b hb => List.mem_cons_of_mem _ hb).then_heap (Nat.le_succ _) fun b o hb ho => old b o (fun h => hb (h ▸ List.mem_cons_self)) ho) m2) S2
theorem fresh {h : Heap} {a : Addr} (e : h.get? a = some { cls := .type "set", data := .set #[] 0 (SetTable.fresh 0 0 !w.params.followText "set-order") }) : SetS w h a [] := by
  refine ⟨_, _, _, _, e, ⟨rfl, rfl, rfl⟩, rfl, ⟨fun e h => absurd h List.not_mem_nil, List.nodup_nil, fun k => Iff.rfl⟩, rfl, List.Pairwise.nil, ?_⟩
  show w.params.followText "set-order" = true ∨ (!w.params.followText "set-order") = true
  cases w.params.followText "set-order"
  · exact .inr rfl
  · exact .inl rfl
theorem strs_at : ∀ {vs : List Value} {ys : List Str}, PyProof.Rows.StrsAre vs ys → ∀ (i : Nat) (v : Value), vs[i]? = some v → ∃ y t, ys[i]? = some y ∧ v = .str y t
  | _, _, .nil, i, v, h => by simp at h
  | _, _, .cons y t r, 0, v, h => by
    refine ⟨y, t, rfl, ?_⟩
    simpa using h.symm
  | _, _, .cons y t r, i + 1, v, h => strs_at r i v h
theorem strs_len : ∀ {vs : List Value} {ys : List Str}, PyProof.Rows.StrsAre vs ys → vs.length = ys.length
  | _, _, .nil => rfl
  | _, _, .cons y t r => by simp [strs_len r]
theorem call_set {l : Addr} {items : Array Value} (ys : List Str) {Q : Value → Shared → Prop} (hh : A.handled = none) (hl : s.heap.IsList l items) (hv : PyProof.Rows.StrsAre items.toList ys) (hB : ∀ x ∈ ys, x ∈ B) (hz : B.length + 1 < scanBound)
    (hq : ∀ h' tk, SetS w h' s.heap.objs.size ys → (∀ b o, s.heap.get? b = some o → h'.get? b = some o) → Q (.ref s.heap.objs.size) { s with heap := h', toks := tk }) :
    wpAny (model P w) A (call (.type "set") [.ref l]) Q E s := by
  obtain ⟨c, tl, hmro⟩ := F.called_set.mro
  have hmade := F.called_set.made
  have hsub := F.called_set.sub
  refine wpAny_call (codeAny_of_tree ?_)
  show wpAny _ _ (pure _) _ _ _
  refine wpAny_pure ⟨Code.quiet_builtin _ ?_, codeAny_builtin F.entry_type_call ?_⟩
  · decide +kernel
  rw [Around.under_plain (weight_type_call_type "set" [.ref l] []) rfl]
  have hcan := F.called_set.canCreate
  unfold Builtin.«type.__call__»
  refine wpAny_ite_false (by rfl) ?_
  refine wpAny_ite_false (decide_eq_false (by rw [hcan]; exact Bool.false_ne_true)) ?_
  refine wpAny_bind (wpAny_of_eq (F.typeCall_set_1 (.ref l)) ?_)
  refine wpAny_bind (wpAny_of_eq hmro ?_)
  refine wpAny_ite_false (by rfl) ?_
  refine wpAny_bind (wpAny_of_eq hmade ?_)
  refine wpAny_bind (wpAny_pure ?_)
  refine wpAny_bind (wpAny_holding (wpAny_call ?_))
  refine codeAny_mono (code_set_led1 (E := E) (Q₁ := fun v s₁ => v = .ref s.heap.objs.size ∧ s₁ = { s with heap := s.heap.push { cls := .type "set", data := .set #[] 0 (SetTable.fresh 0 0 !w.params.followText "set-order") } }) (.ref l) ⟨rfl, rfl⟩) (fun r s₁ hr => ?_)
  match r, hr with
  | .error e, hr => exact hr
  | .ok .next, hr => exact hr
  | .ok .brk, hr => exact hr
  | .ok .cont, hr => exact hr
  | .ok (.ret v), hr =>
    obtain ⟨rfl, rfl⟩ := hr
    obtain ⟨hp, g, dr, tk, os⟩ := s
    have hget : (hp.push { cls := .type "set", data := .set #[] 0 (SetTable.fresh 0 0 !w.params.followText "set-order") }).get? hp.objs.size = some { cls := .type "set", data := .set #[] 0 (SetTable.fresh 0 0 !w.params.followText "set-order") } := Heap.get?_push_size _ rfl
    generalize hh1 : hp.push { cls := .type "set", data := .set #[] 0 (SetTable.fresh 0 0 !w.params.followText "set-order") } = h1 at hget
    have k1 : ∀ b o, hp.get? b = some o → h1.get? b = some o := fun b o e => by rw [← hh1]; exact Heap.get?_push_of_some _ e
    have ty : Shared.TypeIs ⟨h1, g, dr, tk, os⟩ (.ref hp.objs.size) "set" := ⟨_, hget, rfl⟩
    refine wpAny_bind (wpAny_isInstance ty hsub ?_)
    refine wpAny_ite_false (by rfl) ?_
    refine wpAny_bind (wpAny_holding ?_)
    unfold callSpecial?
    refine wpAny_bind (wpAny_specialOf ty F.called_set.init.lookup ?_)
    refine wpAny_holding ?_
    refine wpAny_bind (wpAny_of_eq (F.called_set.init.bind _) ?_)
    refine wpAny_bind (wpAny_call ?_)
    refine codeAny_call_builtin F.called_set.init.plain F.entry_set_init (check_set_init_1 ty ?_)
    unfold Builtin.«set.__init__»
    refine wpAny_bind (wpAny_of_eq (a := ()) (by rfl) ?_)
    show wpAny _ _ (typeNameOfCut 200 (.ref hp.objs.size) >>= _) _ _ _
    unfold typeNameOfCut shownTypeOf
    refine wpAny_bind (wpAny_bind (wpAny_bind (wpAny_typeOf ty ?_)))
    refine wpAny_ite_false (by rfl) (wpAny_pure ?_)
    refine wpAny_of_eq (a := "set") (by rfl) ?_
    refine wpAny_bind (wpAny_of_eq (a := ()) (by rfl) ?_)
    refine wpAny_bind (wpAny_pure ?_)
    unfold setUsed
    refine wpAny_bind (wpAny_bind (wpAny_setState_of hget rfl rfl (wpAny_pure ?_)))
    refine wpAny_ite_false (by rfl) ?_
    refine wpAny_bind ?_
    unfold Builtin.Frozenset.updateFrom Builtin.Frozenset.isAnySet
    obtain ⟨ol, hol, hcl, nl, hdl⟩ := hl
    have hol1 := k1 _ _ hol
    have tyl : Shared.TypeIs ⟨h1, g, dr, tk, os⟩ (.ref l) "list" := ⟨_, hol1, hcl⟩
    refine wpAny_bind (wpAny_bind (wpAny_isInstance tyl F.sub_list_set ?_))
    refine wpAny_isInstance tyl F.sub_list_frozenset ?_
    refine wpAny_ite_false (by rfl) ?_
    refine wpAny_bind (wpAny_typeOf tyl ?_)
    refine wpAny_ite_false (by rfl) ?_
    refine wpAny_bind (wpAny_pyIter_list (items := items) ⟨ol, hol1, hcl, nl, hdl⟩ ?_)
    refine wpAny_bind (wpAny_runValue ?_)
    have hsz : hp.objs.size < h1.objs.size := Heap.lt_size hget
    have hlsz : l < hp.objs.size := Heap.lt_size hol
    have hI : (h1.push { cls := .type "list_iterator", data := .fields #[.ref l, .int 0 0] }).get? h1.objs.size = some { cls := .type "list_iterator", data := .fields #[.ref l, .int 0 0] } := Heap.get?_push_size _ rfl
    have k2 : ∀ b o, h1.get? b = some o → (h1.push { cls := .type "list_iterator", data := .fields #[.ref l, .int 0 0] }).get? b = some o := fun b o e => Heap.get?_push_of_some _ e
    have hni : l ≠ h1.objs.size := Nat.ne_of_lt (Nat.lt_trans hlsz hsz)
    have hW := (Walks.list (prog := P) (w := w) (A := A.in1.in1.in1) hh h1.objs.size l hni items).toS
    have hS : hp.objs.size ∉ [h1.objs.size, l] := by
      intro h
      rcases List.mem_cons.mp h with h | h
      · exact Nat.ne_of_lt hsz h
      · exact Nat.ne_of_lt hlsz (List.mem_singleton.mp h).symm
    have hlen : items.size = ys.length := by
      have := strs_len hv
      simpa using this
    refine update_loop (B := B) hW hp.objs.size hS ys hlen hB hz (fun i v h => strs_at hv i v (by simpa using h)) items.size 0 _ (by omega) (Nat.zero_le _) ⟨?_, ?_⟩ ?_ ?_
    · exact ⟨_, hI, rfl, rfl⟩
    · exact ⟨ol, k2 _ _ hol1, hcl, nl, hdl⟩
    · exact fresh (k2 _ _ hget)
    · intro s' m S'
      have old : ∀ b o, hp.get? b = some o → s'.heap.get? b = some o := fun b o e => by
        refine m.heap b o (fun hb => ?_) (k2 _ _ (k1 _ _ e))
        have hlt : b < hp.objs.size := Heap.lt_size e
        rcases List.mem_cons.mp hb with h | h
        · exact Nat.ne_of_lt hlt h
        · exact Nat.ne_of_lt (Nat.lt_trans hlt hsz) (List.mem_singleton.mp h)
      obtain ⟨h9, g9, d9, t9, o9⟩ := s'
      obtain rfl : g9 = g := m.gens
      obtain rfl : d9 = dr := m.drawn
      obtain rfl : o9 = os := m.os
      refine wpAny_pure (wpAny_pure (wpAny_pure ?_))
      refine wpAny_ite_false (by rfl) (wpAny_pure ?_)
      exact hq _ _ S' old
def strOf (v : Value) : Str := match v with | .str x _ => x | _ => Str.empty
theorem strs_of : ∀ {vs : List Value}, (∀ v ∈ vs, ∃ x t, v = .str x t) → PyProof.Rows.StrsAre vs (vs.map strOf)
  | [], _ => .nil
  | v :: r, h => by
    obtain ⟨x, t, rfl⟩ := h v List.mem_cons_self
    exact .cons x t (strs_of fun v hv => h v (List.mem_cons_of_mem _ hv))
theorem call_sorted (S : SetS w s.heap a xs) (hh : A.handled = none) (hB : ∀ x ∈ xs, x ∈ B) (hz : B.length < 64) {Q : Value → Shared → Prop}
    (hq : ∀ (s' : Shared) (p : Addr) (out : Array Value) (c : Nat) (zs : List Str), (∀ b o, s.heap.get? b = some o → s'.heap.get? b = some o) → s'.gens = s.gens → s'.os = s.os → s.heap.objs.size ≤ p →
      s'.heap.get? p = some (PyProof.Rows.seqObj "list" out c) → PyProof.Rows.StrsAre out.toList zs → PyProof.Rows.sortedS zs = true → zs.Nodup → (∀ k, k ∈ zs ↔ k ∈ xs) → Q (.ref p) s') :
    wpAny (model P w) A (call (.builtin "sorted") [.ref a]) Q E s := by
  obtain ⟨o, es, ep, t, ho, hx, hd, R, hf, hr, hl⟩ := S
  have hlen := R.len hB
  refine Calls.call_function_entry PyProof.Rows.kind_sorted PyProof.Rows.plain_sorted PyProof.Rows.entry_sorted (PyProof.Rows.args_sorted1 _) ?_
  unfold Builtin.sorted
  refine wpAny_bind (wpAny_of_eq (a := ()) (by rfl) ?_)
  have hb4 : es.size < scanBound := by
    simp only [Array.length_toList] at hlen
    show es.size < 4096
    omega
  refine wpAny_bind (collect_set hh ⟨o, ho, hx.1, hd⟩ hf hb4 hr hl fun s1 out k1 z1 g1 o1 p1 => ?_)
  have p2 : (out.map strOf).Perm (es.toList.map keyS) := by
    have := p1.map strOf
    rw [List.map_map] at this
    exact this
  have hst : PyProof.Rows.StrsAre out (out.map strOf) := strs_of fun v hv => by
    obtain ⟨e, he, h1⟩ := List.mem_map.mp (p1.mem_iff.mp hv)
    obtain ⟨x, t', h2, _⟩ := R.good e he
    exact ⟨x, t', by rw [← h1]; exact h2⟩
  have ho64 : out.length < 64 := by
    have := p1.length_eq
    rw [List.length_map] at this
    omega
  have hol : out.length ≤ sizeLine := Nat.le_trans (Nat.le_of_lt ho64) (by rw [sizeLine_eq]; decide)
  refine wpAny_bind (wpAny_newList ?_ hol)
  obtain ⟨hp, g, dr, tk, os⟩ := s1
  have hget : (hp.push { cls := .type "list", data := .seq out.toArray }).get? hp.objs.size = some (PyProof.Rows.seqObj "list" out.toArray 0) := Heap.get?_push_size _ rfl
  refine wpAny_bind (wpAny_holding (wpAny_call_entry PyProof.Rows.slot_list_sort ⟨_, hget, rfl⟩ PyProof.Rows.entry_list_sort ?_ (PyProof.Rows.args_list_sort _)))
  refine PyProof.Rows.list_sort_treeK PyProof.Rows.strKind_oneLt hget hst.keysOf (fun v₁ v₂ rest e => by
    rw [e] at hst
    exact PyProof.Rows.keyKind_strs (by rw [← e] at hst ⊢; exact hst)) ho64 fun st' p3 s3 => ?_
  obtain ⟨zs, q1, q2, q3⟩ := PyProof.Rows.sorted_out_str hst p3 s3
  refine ⟨_, rfl, ?_⟩
  refine wpAny_pure ⟨_, rfl, ?_⟩
  obtain ⟨ep2, at2⟩ := PyProof.Rows.sortedHeap_at (out := Array.map (fun x => x.snd) (PyProof.Rows.arrOf st')) hget
  have p4 := q2.trans p2
  refine hq _ hp.objs.size _ ep2 zs (fun b ob hb => ?_) g1 o1 z1 at2 q1 q3 (p4.nodup_iff.mpr R.nd) fun k => p4.mem_iff.trans (R.mem k).symm
  have hb1 := k1 b ob hb
  have hlt := Heap.lt_size hb1
  have sz : b < (hp.push { cls := .type "list", data := .seq out.toArray }).objs.size := by
    rw [PyProof.Rows.size_push']
    exact Nat.lt_succ_of_lt hlt
  exact (PyProof.Rows.sortedHeap_old (Nat.ne_of_lt hlt) sz).trans (Heap.get?_push_of_some _ hb1)
end
end SX
namespace L2
open PySem
def SetTx (w : World) (a : Addr) (xs : List Str) : HO := .ext fun h => SX.SetS w h a xs
theorem setTx_new {w : World} {P : Program} {H : Hp} {h : Heap} {a : Addr} {xs : List Str} (S : SX.SetS w h a xs) : ObjOk P w H h a (SetTx w a xs) := by
  have S2 := S
  obtain ⟨o, es, ep, t, ho, r⟩ := S2
  exact ⟨S, ⟨o, ho⟩, fun h1 h2 p k => p.at k⟩
section
variable {X : Cx}
/-- set(xs), xs a list of texts out of the few B -/
def rSetTx (K : PySem.W.Frag) (w : World) : List V → Hp → VK → Prop := fun vs H Q => ∃ (a : Addr) (xs B : List Str), vs = [.ref a] ∧ SqL K H a (xs.map V.str) ∧ (∀ x ∈ xs, x ∈ B) ∧ B.length < 64 ∧
  ∀ p : Addr, H p = none → Q (.ref p) (upd H p (SetTx w p xs))
theorem cr_setTx (hc : X.calm = true) : CallR X (.type "set") (rSetTx X.K X.w) := by
  intro pins s σ H vs us Q I r h
  obtain ⟨a, xs, B, rfl, hl, hB, hz, q⟩ := h
  obtain ⟨u, rfl⟩ : ∃ u, us = [u] := by
    cases r with
    | cons h1 h2 => cases h2; exact ⟨_, rfl⟩
  have e : u = .ref a := by
    cases r with
    | cons h1 h2 => exact h1
  subst e
  obtain ⟨its, rv, pl, hs⟩ := Inv.list I hl
  refine SX.call_set (B := B) xs (I.ok.hd hc) pl.isList (rv.strs) hB (Nat.lt_of_le_of_lt (Nat.succ_le_of_lt hz) (by show 64 < 4096; decide)) fun h' tk S k => ?_
  exact ⟨.ref s.heap.objs.size, _, I.laid k (Nat.le_refl _) (setTx_new S), rfl, q _ (I.hok.fresh (Nat.le_refl _))⟩
/-- sorted(s), s a set of texts out of the few B -/
def rSortedTx (w : World) : List V → Hp → VK → Prop := fun vs H Q => ∃ (a : Addr) (xs B : List Str), vs = [.ref a] ∧ H a = some (SetTx w a xs) ∧ (∀ x ∈ xs, x ∈ B) ∧ B.length < 64 ∧
  ∀ (zs : List Str) (p : Addr), PyProof.Rows.sortedS zs = true → zs.Nodup → (∀ k, k ∈ zs ↔ k ∈ xs) → H p = none → Q (.ref p) (upd H p (.lst (zs.map V.str)))
theorem cr_sortedTx (hc : X.calm = true) : CallR X (.builtin "sorted") (rSortedTx X.w) := by
  intro pins s σ H vs us Q I r h
  obtain ⟨a, xs, B, rfl, hl, hB, hz, q⟩ := h
  obtain ⟨u, rfl⟩ : ∃ u, us = [u] := by
    cases r with
    | cons h1 h2 => cases h2; exact ⟨_, rfl⟩
  have e : u = .ref a := by
    cases r with
    | cons h1 h2 => exact h1
  subst e
  have S : SX.SetS X.w s.heap a xs := (I.hok a _ hl).left
  refine SX.call_sorted (B := B) S (I.ok.hd hc) hB hz fun s' p out c zs k1 g1 o1 z1 at1 st1 so nd me => ?_
  have hlen : zs.length ≤ sizeLine := by
    have h1 := SX.nd_len nd (B := B) fun x hx => hB x ((me x).mp hx)
    refine Nat.le_trans h1 (Nat.le_trans (Nat.le_of_lt hz) (by rw [sizeLine_eq]; decide))
  have hn := HOk.fresh I.hok z1
  have J := Inv.call I (Un.laid k1 z1 hn) (HOk.laid (o := .lst (zs.map V.str)) I.hok k1 z1 ⟨by rw [List.length_map]; exact hlen, _, _, vals_of_strs st1, at1⟩) (g' := s'.gens) (t' := s'.toks) (d' := s'.drawn) (by rw [g1]; exact I.bare) (fun x z => absurd z List.not_mem_nil)
  have e : s' = { heap := s'.heap, gens := s'.gens, drawn := s'.drawn, toks := s'.toks, os := s.os } := by
    obtain ⟨h9, g9, d9, t9, o9⟩ := s'
    obtain rfl : o9 = s.os := o1
    rfl
  rw [e]
  exact ⟨.ref p, _, J, rfl, q zs p so nd me hn⟩
end
end L2
/-! d.get(k, x), d a dict of the written part whose keys are texts. -/
namespace L2
open PySem
def tKGet2 (K : PySem.W.Frag) (d : Addr) (td ty tx : TE) : TE := fun σ H Q => td σ H fun x H1 => x = .ref d ∧ ty σ H1 fun y H2 => tx σ H2 fun z H3 =>
  ∃ (k : Str) (r : Option Value), y = .str k ∧ PySem.W.nsIn K d k = some r ∧ (r = none → Q z H3) ∧ (∀ u, r = some u → ∃ v, RelV v u ∧ Q v H3)
theorem pe_kget2 {X : Cx} {o e f : Expr} {apos cpos : Pos} {td ty tx : TE} {d : Addr} {es : Array DictEntry} {n : Nat} (D : KDict X.K X.w d es n) (ho : PE X o td) (he : PE X e ty) (hf : PE X f tx) (m : M2 X o "get" apos e f cpos) :
    PE X (.Call (.Attribute o "get" apos) [e, f] [] cpos) (tKGet2 X.K d td ty tx) := by
  refine ⟨fun pins s σ H Q I h => ?_⟩
  refine wpAny_Call_method m.base m.few m.line F.plainAttrs_dict F.slot_dict_get F.type_dict_get (thn (ho.run pins s σ H _ I h) fun u s1 x => ?_)
  obtain ⟨xv, H1, I1, rx, rfl, q1⟩ := x
  obtain rfl : u = .ref d := rx
  have at1 := I1.kIn _ _ D.at_
  refine ⟨⟨_, at1, rfl⟩, fun a ha => ?_, ?_⟩
  · cases ha
    exact ⟨_, at1, rfl⟩
  rw [m.trees]
  refine wpAny_dict_get2 (knd := strKind X.prog X.w) D.low (thn (he.run pins s1 σ H1 _ I1 q1) fun iv s2 x => ?_)
  obtain ⟨y, H2, I2, ry, q2⟩ := x
  refine thn (hf.run pins s2 σ H2 _ I2 q2) fun fv s3 x => ?_
  obtain ⟨z, H3, I3, rz, k, r, rfl, hr, n0, n1⟩ := x
  obtain ⟨t, rfl⟩ := ry
  refine ⟨k, fun k => findBy Value.isStrOf es k, strKind_is X.prog X.w k t, PySem.W.mapOf_K I3.kIn D.at_ D.lit, ?_⟩
  show EP X pins σ Q ((findBy Value.isStrOf es k).getD fv) _
  rw [PySem.W.find_K D.at_ hr]
  cases r with
  | none => exact ⟨z, H3, I3.tok _, rz, n0 rfl⟩
  | some u =>
    obtain ⟨v, rv, q⟩ := n1 u rfl
    exact ⟨v, H3, I3.tok _, rv, q⟩
end L2
/-! The reader: its object, the promises of its methods and of the defs that read with it. -/
namespace LB
open PySem PySem.Spec PyProof.Rows L2
structure RTxt (P : Program) (w : World) (K : PySem.W.Frag) (mg : Str → Option Value) (a_WORDS a_FORMS C CE fE : Addr) (es : Array DictEntry) (n : Nat) : Prop extends TTxt K mg a_WORDS where
  cl : Cls K C
  n_text : NoAttr K C "_text"
  n_tokens : NoAttr K C "_tokens"
  n_end : NoAttr K C "_end"
  n_at : NoAttr K C "_at"
  g_Reader : mg "Reader" = some (.ref C)
  sup : PySem.SupX.SupTxt P K mg "SyntaxProblem" "SyntaxProblem.__init__" CE fE
  g_FORMS : ∃ u, mg "FORMS" = some u ∧ RelV (.ref a_FORMS) u
  kd_FORMS : KDict K w a_FORMS es n
  f_name : ∃ t, PySem.W.nsIn K a_FORMS "name" = some (some (.str "NAME" t))
  f_number : ∃ t, PySem.W.nsIn K a_FORMS "number" = some (some (.str "NUMBER" t))
  f_word : PySem.W.nsIn K a_FORMS "word" = some none
  f_sign : PySem.W.nsIn K a_FORMS "sign" = some none
  f_wrong : PySem.W.nsIn K a_FORMS "wrong" = some none
  g_NUMBERS : ∃ u, mg "NUMBERS" = some u ∧ RelV (.int 4294967296) u
  b_set : mg "set" = none
  b_sorted : mg "sorted" = none
/-! ### tokens, as the parsers take them -/
def tokOf (l : List Nat) (t : Tk.Srt × Nat × Nat) : PM.Tok := ⟨t.1, Tk.piece l t.2.1 t.2.2, t.2.1, t.2.2⟩
abbrev toksL (l : List Nat) : List (Tk.Srt × Nat × Nat) := Tk.from_ isWord l 0
def ts (l : List Nat) (i : Nat) : List PM.Tok := ((toksL l).drop i).map (tokOf l)
def endOf (l : List Nat) : Nat := match (toksL l).getLast? with | some t => t.2.2 | none => 0
def place (l : List Nat) : List PM.Tok → Nat
  | [] => endOf l
  | t :: _ => t.start
theorem ts_nil {l : List Nat} {i : Nat} (h : i = (toksL l).length) : ts l i = [] := by
  unfold ts
  rw [h, List.drop_length]
  rfl
theorem drop_get {α : Type} {l : List α} {i : Nat} {t : α} (h : l[i]? = some t) : l.drop i = t :: l.drop (i + 1) := by
  obtain ⟨h1, h2⟩ := List.getElem?_eq_some_iff.mp h
  rw [List.drop_eq_getElem_cons h1, h2]
theorem ts_cons {l : List Nat} {i : Nat} {t : Tk.Srt × Nat × Nat} (h : (toksL l)[i]? = some t) : ts l i = tokOf l t :: ts l (i + 1) := by
  unfold ts
  rw [drop_get h]
  rfl
/-- places and pieces of the tokens of a text -/
structure TokIn (l : List Nat) (i : Nat) (t : Tk.Srt × Nat × Nat) : Prop where
  lo : i ≤ t.2.1
  lt : t.2.1 < t.2.2
  hi : t.2.2 ≤ l.length
  srt : t.1 = Tk.sortOf isWord (Tk.piece l t.2.1 t.2.2)
  dig : t.1 = .number → ∀ c ∈ Tk.piece l t.2.1 t.2.2, Tk.digit c = true
theorem run_all {p : Nat → Bool} : ∀ {l : List Nat} {n : Nat}, n ≤ Tk.run p l → ∀ c ∈ l.take n, p c = true
  | _, 0, _, c, h => by simp at h
  | [], n + 1, _, c, h => by simp at h
  | d :: r, n + 1, hn, c, h => by
    unfold Tk.run at hn
    by_cases hd : p d = true
    · rw [if_pos hd] at hn
      rw [List.take_succ_cons] at h
      rcases List.mem_cons.mp h with rfl | h
      · exact hd
      · exact run_all (Nat.le_of_succ_le_succ hn) c h
    · rw [if_neg hd] at hn
      omega
theorem tok_in {l : List Nat} : ∀ (n i : Nat), l.length - i ≤ n → ∀ t ∈ Tk.from_ isWord l i, TokIn l i t
  | n, i, hn, t, ht => by
    by_cases hi : i < l.length
    · obtain ⟨c, hc⟩ := getD_of hi
      have hn0 : 0 < n := by omega
      obtain ⟨m, rfl⟩ : ∃ m, n = m + 1 := ⟨n - 1, by omega⟩
      cases hb : Tk.blank c with
      | true =>
        rw [Tk.from_blank hc hb] at ht
        have := tok_in m (i + 1) (by omega) t ht
        exact ⟨by have := this.lo; omega, this.lt, this.hi, this.srt, this.dig⟩
      | false =>
        by_cases hx : c = 33
        · rw [Tk.from_note hc hx] at ht
          have h1 := Tk.noteEnd_le (l := l) (i := i + 1) hi
          have := tok_in m (Tk.noteEnd l (i + 1)) (by omega) t ht
          exact ⟨by have := this.lo; omega, this.lt, this.hi, this.srt, this.dig⟩
        · rw [Tk.from_tok hc hb hx] at ht
          have h1 := Tk.tokEnd_le hc
          rcases List.mem_cons.mp ht with rfl | ht
          · refine ⟨Nat.le_refl _, h1.2, h1.1, rfl, fun hs => ?_⟩
            obtain ⟨r, hp⟩ := Tk.piece_head hc
            have e : Tk.sortOf isWord (c :: r) = if Tk.letter c then (if isWord (c :: r) then .word else .name) else if Tk.digit c then .number else if Tk.signC c then .sign else .wrong := rfl
            have hs : Tk.sortOf isWord (Tk.piece l i (Tk.tokEnd l i)) = .number := hs
            rw [hp, e] at hs
            cases hL : Tk.letter c with
            | true =>
              rw [hL] at hs
              cases hw : isWord (c :: r) <;> simp [hw] at hs
            | false =>
              rw [hL] at hs
              cases hD : Tk.digit c with
              | false =>
                rw [hD] at hs
                cases hS : Tk.signC c <;> simp [hS] at hs
              | true =>
                have hg : Tk.going c = Tk.digit := by unfold Tk.going; simp [hL, hD]
                intro d hd
                have e2 : Tk.piece l i (Tk.tokEnd l i) = c :: (l.drop (i + 1)).take (Tk.run Tk.digit (l.drop (i + 1))) := by
                  unfold Tk.piece
                  rw [Tk.tokEnd_of hc, Tk.drop_at hc, hg]
                  have e1 : i + 1 + Tk.run Tk.digit (List.drop (i + 1) l) - i = Tk.run Tk.digit (List.drop (i + 1) l) + 1 := by omega
                  rw [e1, List.take_succ_cons]
                have hd : d ∈ Tk.piece l i (Tk.tokEnd l i) := hd
                rw [e2] at hd
                rcases List.mem_cons.mp hd with rfl | hd
                · exact hD
                · exact run_all (Nat.le_refl _) d hd
          · have := tok_in m (Tk.tokEnd l i) (by omega) t ht
            exact ⟨by have := this.lo; omega, this.lt, this.hi, this.srt, this.dig⟩
    · rw [Tk.from_end (by omega)] at ht
      cases ht
theorem sort_NUMBER : Tk.sortOf isWord (Str.ofString "NUMBER").cps.toList = .name := by decide +kernel
theorem form_number {l : List Nat} {i : Nat} {t : Tk.Srt × Nat × Nat} (h : TokIn l i t) (hf : (tokOf l t).form = ("NUMBER" : Str)) : t.1 = .number := by
  have h1 := h.srt
  have other : (tokOf l t).str = ("NUMBER" : Str) → t.1 = .name := fun e => by
    have e2 : Tk.piece l t.2.1 t.2.2 = (Str.ofString "NUMBER").cps.toList := by
      rw [← e]
      simp [tokOf, PM.Tok.str]
    rw [h1, e2, sort_NUMBER]
  obtain ⟨s, b, z⟩ := t
  cases s with
  | number => rfl
  | name =>
    have hf : ("NAME" : Str) = "NUMBER" := hf
    exact absurd hf (by decide +kernel)
  | word => exact absurd (other hf) (by simp)
  | sign => exact absurd (other hf) (by simp)
  | wrong => exact absurd (other hf) (by simp)
theorem tok_ok {l : List Nat} {i : Nat} {t : Tk.Srt × Nat × Nat} (h : (toksL l)[i]? = some t) : TokIn l 0 t := tok_in _ 0 (Nat.le_refl _) t (List.mem_of_getElem? h)
theorem toksL_len (l : List Nat) : (toksL l).length ≤ l.length := by
  have := toks_len (iw := isWord) _ 0 (l.drop 0) (Nat.le_refl _)
  exact this
/-! ### the object -/
def rdF (l : List Nat) (p : Addr) (e i : Nat) : List (Str × V) := [("_text", txt l), ("_tokens", .ref p), ("_end", .int (e : Int)), ("_at", .int (i : Int))]
section
variable {l : List Nat} {p : Addr} {e i : Nat}
theorem fn1 : (("_tokens" : Str) == "_text") = false := by decide +kernel
theorem fn2 : (("_end" : Str) == "_text") = false := by decide +kernel
theorem fn3 : (("_end" : Str) == "_tokens") = false := by decide +kernel
theorem fn4 : (("_at" : Str) == "_text") = false := by decide +kernel
theorem fn5 : (("_at" : Str) == "_tokens") = false := by decide +kernel
theorem fn6 : (("_at" : Str) == "_end") = false := by decide +kernel
theorem lk_text : List.lookup ("_text" : Str) (rdF l p e i) = some (txt l) := by simp [rdF, List.lookup]
theorem lk_tokens : List.lookup ("_tokens" : Str) (rdF l p e i) = some (.ref p) := by simp [rdF, List.lookup, fn1]
theorem lk_end : List.lookup ("_end" : Str) (rdF l p e i) = some (.int (e : Int)) := by simp [rdF, List.lookup, fn2, fn3]
theorem lk_at : List.lookup ("_at" : Str) (rdF l p e i) = some (.int (i : Int)) := by simp [rdF, List.lookup, fn4, fn5, fn6]
theorem lk_none {x : Str} (h : (x == "_text") = false ∧ (x == "_tokens") = false ∧ (x == "_end") = false ∧ (x == "_at") = false) : List.lookup x (rdF l p e i) = none := by
  simp [rdF, List.lookup, h.1, h.2.1, h.2.2.1, h.2.2.2]
theorem lk_ahead : List.lookup ("ahead" : Str) (rdF l p e i) = none := lk_none (by decide +kernel)
theorem lk_take : List.lookup ("take" : Str) (rdF l p e i) = none := lk_none (by decide +kernel)
theorem lk_take_number : List.lookup ("take_number" : Str) (rdF l p e i) = none := lk_none (by decide +kernel)
theorem lk_place : List.lookup ("_place" : Str) (rdF l p e i) = none := lk_none (by decide +kernel)
end
/-- the reader at r stands at the token i of the text l; S: what its data do not touch -/
structure RS (K : PySem.W.Frag) (C r : Addr) (l : List Nat) (S : List Addr) (i : Nat) (H : Hp) : Prop where
  at_ : ∃ dx p, H r = some (.ins C dx (rdF l p (endOf l) i)) ∧ DpS K S H (.ref p) (.list ((toksL l).map tokD))
  al : Alive S H
  rS : r ∈ S
  hi : i ≤ (toksL l).length
  hl : l.length ≤ 50000
section
variable {K : PySem.W.Frag} {C r : Addr} {l : List Nat} {S : List Addr} {i : Nat} {H H' : Hp}
theorem RS.out (R : RS K C r l S i H) {T : List Addr} (h : Out T H H') (sub : ∀ b ∈ T, b ∈ S) (hr : r ∉ T) (al : Alive S H') : RS K C r l S i H' := by
  obtain ⟨dx, p, e, d⟩ := R.at_
  exact ⟨⟨dx, p, h _ _ hr e, dpS_out (h.mono sub) d⟩, al, R.rS, R.hi, R.hl⟩
theorem RS.new (R : RS K C r l S i H) {p : Addr} {o : HO} (h : H p = none) : RS K C r l S i (upd H p o) := R.out (T := []) (.upd_new h) (fun _ q => absurd q List.not_mem_nil) List.not_mem_nil R.al.upd
theorem RS.less (R : RS K C r l S i H) {S' : List Addr} (h : ∀ b ∈ S', b ∈ S) (hr : r ∈ S') : RS K C r l S' i H := by
  obtain ⟨dx, p, e, d⟩ := R.at_
  exact ⟨⟨dx, p, e, dp_mono (wo_anti h) _ _ d⟩, fun b hb => R.al b (h b hb), hr, R.hi, R.hl⟩
theorem RS.open_ (R : RS K C r l S i H) {f : Addr} {o : HO} (h : H f = none) : RS K C r l (f :: S) i (upd H f o) := by
  obtain ⟨dx, p, e, d⟩ := R.at_
  exact ⟨⟨dx, p, by rw [upd_ne (ne_of_none e h)]; exact e, dp_mono (wo_open h) _ _ d⟩, (R.al.upd).cons upd_same, List.mem_cons_of_mem _ R.rS, R.hi, R.hl⟩
theorem RS.nr (R : RS K C r l S i H) {f : Addr} {xs : List V} (h : H f = some (.lst xs)) : f ≠ r := by
  obtain ⟨dx, p, e, d⟩ := R.at_
  exact ne_of h e (by intro z; cases z)
theorem RS.grow (R : RS K C r l S i H) {f : Addr} {xs ys : List V} (h : H f = some (.lst xs)) (hf : f ∈ S) : RS K C r l S i (upd H f (.lst ys)) :=
  R.out (T := [f]) (.upd_in (List.mem_singleton.mpr rfl)) (fun b hb => by rw [List.mem_singleton.mp hb]; exact hf) (fun q => R.nr h (List.mem_singleton.mp q).symm) R.al.upd
theorem RS.ne (R : RS K C r l S i H) {p : Addr} (h : H p = none) : p ≠ r := by
  obtain ⟨dx, q, e, d⟩ := R.at_
  exact (ne_of_none e h).symm
/-- what is raised goes on to the caller -/
theorem RS.bad (R : RS K C r l S i H') (o : Out [r] H H') {X : HO} {E : Addr → Hp → Prop} (hb : ∀ d H2, H d = none → Out [r] H H2 → H2 d = some X → E d H2) : ∀ d H2, H' d = none → Out [r] H' H2 → H2 d = some X → E d H2 :=
  fun d H2 n o' e => hb d H2 (o.free (fun q => R.ne n (List.mem_singleton.mp q)) n) (o.trans o') e
/-- step on -/
theorem RS.next (R : RS K C r l S i H) {dx p : Addr} (h : H r = some (.ins C dx (rdF l p (endOf l) i))) (d : DpS K S H (.ref p) (.list ((toksL l).map tokD))) (hi : i < (toksL l).length) : RS K C r l S (i + 1) (upd H r (.ins C dx (rdF l p (endOf l) (i + 1)))) :=
  ⟨⟨dx, p, upd_same, dpS_out (.upd_in R.rS) d⟩, R.al.upd, R.rS, hi, R.hl⟩
theorem put_at {p : Addr} {e : Nat} {z : Int} : putF "_at" (V.int z) (rdF l p e i) = [(("_text" : Str), txt l), ("_tokens", .ref p), ("_end", .int (e : Int)), ("_at", .int z)] := by
  simp [putF, rdF, fn4, fn5, fn6, show (Str.ofString "_text" = Str.ofString "_at") = False from eq_false (by decide +kernel), show (Str.ofString "_tokens" = Str.ofString "_at") = False from eq_false (by decide +kernel), show (Str.ofString "_end" = Str.ofString "_at") = False from eq_false (by decide +kernel)]
/-- the token that is next -/
theorem RS.item (R : RS K C r l S i H) (hi : i < (toksL l).length) {p : Addr} (d : DpS K S H (.ref p) (.list ((toksL l).map tokD))) :
    ∃ (xs : List V) (q : Addr) (t : Tk.Srt × Nat × Nat), SqL K H p xs ∧ xs.length = (toksL l).length ∧ xs[i]? = some (.ref q) ∧ (toksL l)[i]? = some t ∧ SqT K H q (tokV t) ∧ TokIn l 0 t := by
  have d := dpS_in d
  cases d with
  | @lst _ xs _ hs ha =>
    have hlen := dpAll_len ha
    rw [List.length_map] at hlen
    obtain ⟨v, d, hv, hd, hx⟩ := dpAll_get (i := i) ha (by omega)
    rw [List.getElem?_map] at hd
    cases e : (toksL l)[i]? with
    | none => rw [e] at hd; cases hd
    | some t =>
      rw [e] at hd
      have hd : tokD t = d := Option.some.inj hd
      subst hd
      cases hx with
      | @tup q ys _ h1 h2 =>
        refine ⟨xs, q, t, hs, hlen, hv, rfl, ?_, tok_ok e⟩
        cases h2 with
        | cons a b =>
          cases b with
          | cons b c =>
            cases c with
            | cons c z =>
              cases z
              cases a; cases b; cases c
              exact h1
theorem RS.list (R : RS K C r l S i H) {p : Addr} (d : DpS K S H (.ref p) (.list ((toksL l).map tokD))) : ∃ xs, SqL K H p xs ∧ xs.length = (toksL l).length := by
  have d := dpS_in d
  cases d with
  | @lst _ xs _ hs ha =>
    have hlen := dpAll_len ha
    rw [List.length_map] at hlen
    exact ⟨xs, hs, hlen⟩
end
/-! ### promises -/
def spAhead (K : PySem.W.Frag) (C : Addr) : Sp := fun vs H Q _ => ∃ (r : Addr) (l : List Nat) (S : List Addr) (i : Nat), vs = [.ref r] ∧ RS K C r l S i H ∧ Q (.str (PM.aheadS (ts l i))) H
def spPlace (K : PySem.W.Frag) (C : Addr) : Sp := fun vs H Q _ => ∃ (r : Addr) (l : List Nat) (S : List Addr) (i : Nat), vs = [.ref r] ∧ RS K C r l S i H ∧ Q (.int (place l (ts l i) : Int)) H
/-- how a reading def raises -/
abbrev Raises (CE r : Addr) (l : List Nat) (H : Hp) (E : XK) (R : List PM.Tok) : Prop := ∀ (d : Addr) (H' : Hp), H d = none → Out [r] H H' → H' d = some (.xd [("start", .int (place l R : Int))]) → E (.ref CE) (some d) H'
/-- how it goes on -/
abbrev Goes (K : PySem.W.Frag) (C r : Addr) (l : List Nat) (S : List Addr) (H : Hp) (Q : VK) (D : PyData) (R : List PM.Tok) : Prop := ∀ (v : V) (H' : Hp) (i : Nat), R = ts l i → RS K C r l S i H' → Out [r] H H' → DpS K S H' v D → Q v H'
def spTk (K : PySem.W.Frag) (C CE : Addr) : Sp := fun vs H Q E => ∃ (r : Addr) (l : List Nat) (S : List Addr) (i : Nat) (fs : List Str), vs = .ref r :: fs.map V.str ∧ RS K C r l S i H ∧ ("" : Str) ∉ fs ∧ fs.length ≤ 10 ∧
  PM.Wp (PM.tok fs) (ts l i) (fun t R => ∀ (H' : Hp) (i' : Nat), R = ts l i' → RS K C r l S i' H' → Out [r] H H' → t.form ∈ fs → (t.form = ("NUMBER" : Str) → ∀ c ∈ t.text, Tk.digit c = true) → t.text.length ≤ 50000 → Q (.str t.str) H') (Raises CE r l H E)
def spTkB (K : PySem.W.Frag) (C CE : Addr) : Sp := fun vs H Q E => ∃ (r t : Addr) (l : List Nat) (S : List Addr) (i : Nat) (fs : List Str), vs = [.ref r, .ref t] ∧ RS K C r l S i H ∧ H t = some (.tup (fs.map V.str)) ∧ ("" : Str) ∉ fs ∧ fs.length ≤ 10 ∧
  PM.Wp (PM.tok fs) (ts l i) (fun t R => ∀ (H' : Hp) (i' : Nat), R = ts l i' → RS K C r l S i' H' → Out [r] H H' → t.form ∈ fs → (t.form = ("NUMBER" : Str) → ∀ c ∈ t.text, Tk.digit c = true) → t.text.length ≤ 50000 → Q (.str t.str) H') (Raises CE r l H E)
/-- a def that reads with p and hands out D of what it read -/
def spRd {α : Type} (K : PySem.W.Frag) (C CE : Addr) (p : Nat → PM.Pr α) (D : α → PyData) : Sp := fun vs H Q E => ∃ (r : Addr) (l : List Nat) (S : List Addr) (i n : Nat), vs = [.ref r] ∧ RS K C r l S i H ∧ (toksL l).length - i < n ∧
  PM.Wp (p n) (ts l i) (fun a R => Goes K C r l S H Q (D a) R) (Raises CE r l H E)
def spVal : Sp := fun vs H Q _ => ∃ z : List Nat, vs = [txt z] ∧ (∀ c ∈ z, Tk.digit c = true) ∧ z.length ≤ 50000 ∧ Q (.int (PM.numV z)) H
def spInitR (K : PySem.W.Frag) (C : Addr) : Sp := fun vs H Q _ => ∃ (x dx : Addr) (l : List Nat), vs = [.ref x, txt l] ∧ H x = some (.ins C dx []) ∧ l.length ≤ 50000 ∧ ∀ H', RS K C x l [x] 0 H' → Out [x] H H' → Q .non H'
/-! ### calls that may raise -/
structure CalX (P : Program) (w : World) (K : PySem.W.Frag) (mg : Str → Option Value) (base : Heap) (k : Nat) (x : Str) (sp : Sp) : Prop where
  ex : ∃ f fd ps, FnOk P w K mg base (L2.CX P w) k f fd ps sp ∧ mg x = some (.ref f) ∧ PySem.W.keepIn K (.ref f) = true ∧ Binds K fd ps []
theorem pe_cx {X : Cx} {k j : Nat} {x : Str} {sp : Sp} {E : XK} {p pos : Pos} {e : Expr} {es : List Expr} {t : TA} (c : CalX X.prog X.w X.K X.mg X.base k x sp) (hr : Room j X.A) (hk : k ≤ j) (hg : Gl X x) (hx : Passes (L2.CX X.prog X.w) X E) (ha : PA X (e :: es) t)
    (hd : (x == ("__debug__" : Str)) = false := by rfl) (he : starEach (e :: es) X.env = (false, eval e X.env) :: starEach es X.env := by rfl) (hp : ((backTo pos (starEach es X.env)).any (·.1)) = false := by rfl) :
    PE X (.Call (.Name x p) (e :: es) [] pos) (tCall sp [] E t) := by
  obtain ⟨f, fd, ps, F, hm, kp, hb⟩ := c.ex
  exact pe_call F (hr.mono hk) hg hm kp hb .nil hx ha hd he hp
theorem pe_cxS {X : Cx} {k j : Nat} {x : Str} {sp : Sp} {E : L2.St → XK} {p pos : Pos} {e : Expr} {es : List Expr} {t : TA} (c : CalX X.prog X.w X.K X.mg X.base k x sp) (hr : Room j X.A) (hk : k ≤ j) (hg : Gl X x) (hx : ∀ σ, PassesAt (L2.CX X.prog X.w) X σ (E σ)) (ha : PA X (e :: es) t)
    (hd : (x == ("__debug__" : Str)) = false := by rfl) (he : starEach (e :: es) X.env = (false, eval e X.env) :: starEach es X.env := by rfl) (hp : ((backTo pos (starEach es X.env)).any (·.1)) = false := by rfl) :
    PE X (.Call (.Name x p) (e :: es) [] pos) (tCallS sp E t) := by
  obtain ⟨f, fd, ps, F, hm, kp, hb⟩ := c.ex
  exact pe_callS F (hr.mono hk) hg hm kp hb hx ha hd he hp
theorem calX {P : Program} {w : World} {K : PySem.W.Frag} {mg : Str → Option Value} {base : Heap} {x : Str} {st : Stmt} {f : Addr} {fd : FuncData} {ps : List Str} {k : Nat} {sp : Sp} (F : Fun K x x st f fd) (gf : mg x = some (.ref f)) (b : Binds K fd ps []) (G : FnOk P w K mg base (L2.CX P w) k f fd ps sp) : CalX P w K mg base k x sp :=
  ⟨f, fd, ps, G, gf, F.kp, b⟩
/-! ### steps of a reading def -/
theorem ts_len {l : List Nat} {i : Nat} : (ts l i).length = (toksL l).length - i := by
  unfold ts
  rw [List.length_map, List.length_drop]
section
variable {K : PySem.W.Frag} {C CE r : Addr} {l : List Nat} {S : List Addr} {i : Nat} {H H0 : Hp} {σ : L2.St} {E : XK} {Q : VK} {j : Nat}
theorem st_take {Ok : PM.Tok → List PM.Tok → Prop} {ta : TA} (fs : List Str) (h0 : σ[j]? = some (some (.ref r))) (R : RS K C r l S i H) (o : Out [r] H0 H) (k : PM.Wp (PM.tok fs) (ts l i) Ok (Raises CE r l H0 E))
    (go : ∀ t H' i', RS K C r l S i' H' → Out [r] H0 H' → Out [r] H H' → t.form ∈ fs → (t.form = ("NUMBER" : Str) → ∀ c ∈ t.text, Tk.digit c = true) → (toksL l).length - i' ≤ (toksL l).length - i → Ok t (ts l i') → Q (.str t.str) H')
    (hne : ("" : Str) ∉ fs := by decide +kernel) (hl : fs.length ≤ 10 := by decide) (hta : ∀ Q' : List V → Hp → Prop, Q' (fs.map V.str) H → ta σ H Q' := by exact fun _ h => h) : tMethR C "take" (spTk K C CE) E (tVar j) ta σ H Q := by
  obtain ⟨dx, p, e, d⟩ := R.at_
  exact ⟨_, h0, r, dx, _, rfl, e, lk_take, hta _ ⟨r, l, S, i, fs, rfl, R, hne, hl, (k.suf (PM.good_tok fs)).imp (fun t Rr h H1 i1 e1 R1 o1 hf hd hl => by subst e1; exact go t H1 i1 R1 (o.trans o1) o1 hf hd (by have := h.2; rw [ts_len, ts_len] at this; exact this) h.1) (fun Rr hb => R.bad o hb)⟩⟩
theorem st_num {Ok : Int → List PM.Tok → Prop} (h0 : σ[j]? = some (some (.ref r))) (R : RS K C r l S i H) (o : Out [r] H0 H) (k : PM.Wp PM.number (ts l i) Ok (Raises CE r l H0 E))
    (go : ∀ a H' i', RS K C r l S i' H' → Out [r] H0 H' → Out [r] H H' → (toksL l).length - i' ≤ (toksL l).length - i → Ok a (ts l i') → Q (.int a) H') : tMeth C "take_number" (spRd K C CE (fun _ => PM.number) PyData.int) [] E (tVar j) tNil σ H Q := by
  obtain ⟨dx, p, e, d⟩ := R.at_
  exact ⟨_, h0, r, dx, _, rfl, e, lk_take_number, r, l, S, i, (toksL l).length + 1, rfl, R, by omega, (k.suf PM.good_number).imp (fun a Rr h v H2 i2 e2 R2 o2 d2 => by
    subst e2
    cases d2
    exact go a H2 i2 R2 (o.trans o2) o2 (by have := h.2; rw [ts_len, ts_len] at this; exact this) h.1) (fun Rr hb => R.bad o hb)⟩
theorem st_ahead (h0 : σ[j]? = some (some (.ref r))) (R : RS K C r l S i H) (go : Q (.str (PM.aheadS (ts l i))) H) : tMeth C "ahead" (spAhead K C) [] E (tVar j) tNil σ H Q := by
  obtain ⟨dx, p, e, d⟩ := R.at_
  exact ⟨_, h0, r, dx, _, rfl, e, lk_ahead, r, l, S, i, rfl, R, go⟩
theorem st_rd {α : Type} {p : Nat → PM.Pr α} {D : α → PyData} {n : Nat} {Ok : α → List PM.Tok → Prop} (h0 : σ[j]? = some (some (.ref r))) (R : RS K C r l S i H) (o : Out [r] H0 H) (hn : (toksL l).length - i < n) (k : PM.Wp (p n) (ts l i) Ok (Raises CE r l H0 E))
    (go : ∀ a v H' i', RS K C r l S i' H' → Out [r] H0 H' → Out [r] H H' → DpS K S H' v (D a) → (toksL l).length - i' ≤ (toksL l).length - i → Ok a (ts l i') → Q v H') (gp : PM.Good (p n)) : tCall (spRd K C CE p D) [] E (tCons (tVar j) tNil) σ H Q :=
  ⟨_, h0, r, l, S, i, n, rfl, R, hn, (k.suf gp).imp (fun a Rr h v H2 i2 e2 R2 o2 d2 => by
    subst e2
    exact go a v H2 i2 R2 (o.trans o2) o2 d2 (by have := h.2; rw [ts_len, ts_len] at this; exact this) h.1) (fun Rr hb => R.bad o hb)⟩
/-- a loop that reads into the list at f while c holds of the next form -/
theorem rd_loop {α : Type} {c : Str → Bool} {p : PM.Pr α} {D : α → PyData} {N n : Nat} {f : Addr} {Ok : List α → List PM.Tok → Prop} {tc : L2.St → Hp → (Bool → Hp → Prop) → Prop} {tb : TS} {Dd : Ends}
    (R : RS K C r l (f :: S) i H) (O : OpenL K (f :: S) H f []) (o : Out [r] H0 H) (hn : (toksL l).length - i < n) (hN : (toksL l).length - i < N) (pg : PM.Prog p) (k : PM.Wp (PM.lp c p n) (ts l i) Ok (Raises CE r l H0 E))
    (test : ∀ i H, RS K C r l (f :: S) i H → ∀ Q' : Bool → Hp → Prop, Q' (c (PM.aheadS (ts l i))) H → tc σ H Q')
    (body : ∀ (ds : List PyData) (i : Nat) (H : Hp) (nx : L2.St → Hp → Prop), RS K C r l (f :: S) i H → OpenL K (f :: S) H f ds → Out [r] H0 H → (toksL l).length - i < N → ds.length ≤ 50000 →
      PM.Wp p (ts l i) (fun a R' => ∀ i' H', R' = ts l i' → RS K C r l (f :: S) i' H' → OpenL K (f :: S) H' f (ds ++ [D a]) → Out [r] H0 H' → nx σ H') (Raises CE r l H0 E) → tb { Dd with nx := nx, ct := nx, bk := Dd.nx } σ H)
    (fin : ∀ (xs : List α) (i : Nat) (H : Hp), RS K C r l (f :: S) i H → OpenL K (f :: S) H f (xs.map D) → Out [r] H0 H → xs.length ≤ 50000 → Ok xs (ts l i) → Dd.nx σ H) : tWhile tc tb Dd σ H := by
  refine ⟨fun m σ' H' => σ' = σ ∧ ∃ (i' : Nat) (done : List α), RS K C r l (f :: S) i' H' ∧ OpenL K (f :: S) H' f (done.map D) ∧ Out [r] H0 H' ∧ (toksL l).length - i' < m ∧ (toksL l).length - i' < N ∧ done.length ≤ i' ∧ PM.Wp (PM.lp c p m) (ts l i') (fun xs => Ok (done ++ xs)) (Raises CE r l H0 E),
    ⟨n, rfl, i, [], R, O, o, hn, hN, Nat.zero_le _, k⟩, fun m σ' H' hW => ?_⟩
  obtain ⟨rfl, i', done, R', O', o', hm, hN', hd, k'⟩ := hW
  refine test i' H' R' _ ?_
  obtain ⟨m, rfl⟩ : ∃ m', m = m' + 1 := ⟨m - 1, by omega⟩
  have h50 : done.length ≤ 50000 := by
    have := R'.hi
    have := R'.hl
    have := toksL_len l
    omega
  simp only [PM.lp, PM.wp_bnd, PM.wp_ahead] at k'
  cases hc : c (PM.aheadS (ts l i')) with
  | true =>
    rw [hc, if_pos rfl] at k'
    simp only [PM.wp_bnd, PM.wp_ret] at k'
    refine iteT ⟨fun σ2 H2 => σ2 = σ' ∧ ∃ (i2 : Nat) (a : α), RS K C r l (f :: S) i2 H2 ∧ OpenL K (f :: S) H2 f ((done ++ [a]).map D) ∧ Out [r] H0 H2 ∧ (toksL l).length - i2 < (toksL l).length - i' ∧ PM.Wp (PM.lp c p m) (ts l i2) (fun xs => Ok (done ++ a :: xs)) (Raises CE r l H0 E), fun σ2 H2 hN2 => ?_, ?_⟩
    · obtain ⟨rfl, i2, a, R2, O2, o2, hlt, k2⟩ := hN2
      refine ⟨m, Nat.lt_succ_self _, rfl, i2, done ++ [a], R2, O2, o2, by omega, by omega, ?_, ?_⟩
      · rw [List.length_append]
        show done.length + 1 ≤ i2
        omega
      · refine k2.imp (fun xs Rr h => ?_) (fun _ h => h)
        rw [List.append_assoc]
        exact h
    · refine body _ i' H' _ R' O' o' hN' (by rw [List.length_map]; exact h50) ((k'.prog pg).imp (fun a Rr h i2 H2 e2 R2 O2 o2 => ?_) (fun _ h => h))
      subst e2
      refine ⟨rfl, i2, a, R2, ?_, o2, ?_, h.1⟩
      · rw [List.map_append]
        exact O2
      · have := h.2
        rw [ts_len, ts_len] at this
        exact this
  | false =>
    rw [hc, if_neg (by decide)] at k'
    simp only [PM.wp_ret] at k'
    refine iteF (fin done i' H' R' O' o' h50 ?_)
    rw [List.append_nil] at k'
    exact k'
end
/-- one digit, as a number -/
theorem digit_int {c : Nat} (h : Tk.digit c = true) : PySem.intText? (⟨#[c]⟩ : Str) = some ((c - 48 : Nat) : Int) := by
  unfold Tk.digit at h
  have h2 : c = 48 ∨ c = 49 ∨ c = 50 ∨ c = 51 ∨ c = 52 ∨ c = 53 ∨ c = 54 ∨ c = 55 ∨ c = 56 ∨ c = 57 := by
    simp only [Bool.and_eq_true, decide_eq_true_eq] at h
    omega
  rcases h2 with rfl | rfl | rfl | rfl | rfl | rfl | rfl | rfl | rfl | rfl <;> decide +kernel
end LB
/-! Words and marks: what take hands out; marks without doubles, in order. -/
namespace PM
open PySem LB
def OutP {α : Type} (p : Pr α) (P : α → Prop) : Prop := ∀ ts a r, p ts = .ok a r → P a
theorem Wp.out {α : Type} {p : Pr α} {ts : List Tok} {Ok : α → List Tok → Prop} {Bad : List Tok → Prop} {P : α → Prop} (h : Wp p ts Ok Bad) (hp : OutP p P) : Wp p ts (fun a r => Ok a r ∧ P a) Bad := by
  unfold Wp at *
  cases e : p ts with
  | ok a r => rw [e] at h; exact ⟨h, hp ts a r e⟩
  | bad r => rw [e] at h; exact h
theorem tok_form {fs : List Str} {ts r : List Tok} {t : Tok} (h : tok fs ts = .ok t r) : t.form ∈ fs := by
  cases ts with
  | nil => cases h
  | cons u v =>
    by_cases hf : u.form ∈ fs
    · have e1 : tok fs (u :: v) = .ok u v := by simp [tok, hf]
      rw [e1] at h
      injection h with h1 h2
      rw [← h1]
      exact hf
    · have e1 : tok fs (u :: v) = .bad (u :: v) := by simp [tok, hf]
      rw [e1] at h
      cases h
theorem form_str {fs : List Str} {t : Tok} (h : t.form ∈ fs) (h1 : ("NAME" : Str) ∉ fs) (h2 : ("NUMBER" : Str) ∉ fs) : t.str ∈ fs := by
  obtain ⟨k, x, a, b⟩ := t
  cases k with
  | name => exact absurd h h1
  | number => exact absurd h h2
  | word => exact h
  | sign => exact h
  | wrong => exact h
theorem out_take {fs : List Str} (h1 : ("NAME" : Str) ∉ fs) (h2 : ("NUMBER" : Str) ∉ fs) : OutP (take fs) (· ∈ fs) := fun ts a r h => by
  unfold take bnd at h
  cases e : tok fs ts with
  | ok t u =>
    rw [e] at h
    have h : Res.ok t.str u = .ok a r := h
    injection h with h3 h4
    rw [← h3]
    exact form_str (tok_form e) h1 h2
  | bad u => rw [e] at h; cases h
theorem out_lp {α : Type} {c : Str → Bool} {p : Pr α} {P : α → Prop} (hp : OutP p P) : ∀ n, OutP (lp c p n) (fun xs => ∀ x ∈ xs, P x)
  | 0, ts, a, r, h => by cases h
  | n + 1, ts, a, r, h => by
    simp only [lp, bnd, ahead] at h
    cases hc : c (aheadS ts) with
    | true =>
      rw [hc, if_pos rfl] at h
      simp only [bnd] at h
      cases e : p ts with
      | ok x u =>
        rw [e] at h
        simp only at h
        cases e2 : lp c p n u with
        | ok xs v =>
          rw [e2] at h
          simp only [ret] at h
          injection h with h3 h4
          subst h3
          intro y hy
          rcases List.mem_cons.mp hy with rfl | hy
          · exact hp _ _ _ e
          · exact out_lp hp n _ _ _ e2 y hy
        | bad v => rw [e2] at h; cases h
      | bad u => rw [e] at h; cases h
    | false =>
      rw [hc, if_neg (by decide)] at h
      simp only [ret] at h
      injection h with h3 h4
      subst h3
      intro y hy
      cases hy
end PM
namespace LB
open PySem PySem.Spec PyProof.Rows L2
def arr3 : List (List Str) := [[]] ++ markL.map (fun a => [a]) ++ (markL.flatMap fun a => markL.map fun b => [a, b]) ++ (markL.flatMap fun a => markL.flatMap fun b => markL.map fun c => [a, b, c])
theorem mem_arr3 : ∀ {zs : List Str}, (∀ x ∈ zs, x ∈ markL) → zs.length ≤ 3 → zs ∈ arr3
  | [], _, _ => by unfold arr3; simp
  | [a], h, _ => by
    have := h a (by simp)
    unfold arr3; simp [this]
  | [a, b], h, _ => by
    have h1 := h a (by simp)
    have h2 := h b (by simp)
    unfold arr3; simp [h1, h2]
  | [a, b, c], h, _ => by
    have h1 := h a (by simp)
    have h2 := h b (by simp)
    have h3 := h c (by simp)
    unfold arr3; simp
    exact ⟨a, h1, b, h2, c, h3, rfl, rfl, rfl⟩
  | a :: b :: c :: d :: r, _, h => by simp at h
theorem arr3_ok : (arr3.all fun zs => !(PyProof.Rows.sortedS zs && decide zs.Nodup) || decide (markL.filter (fun m => decide (m ∈ zs)) = zs)) = true := by decide +kernel
theorem sorted_marks {zs ms : List Str} (h1 : PyProof.Rows.sortedS zs = true) (h2 : zs.Nodup) (h3 : ∀ k, k ∈ zs ↔ k ∈ ms) (h4 : ∀ x ∈ ms, x ∈ markL) : zs = PM.marksOf ms := by
  have sub : ∀ x ∈ zs, x ∈ markL := fun x hx => h4 x ((h3 x).mp hx)
  have hl : zs.length ≤ 3 := SX.nd_len h2 sub
  have := List.all_eq_true.mp arr3_ok zs (mem_arr3 sub hl)
  rw [h1, decide_eq_true h2] at this
  have e : markL.filter (fun m => decide (m ∈ zs)) = zs := by simpa using this
  have e2 : (fun m => decide (m ∈ zs)) = fun m : Str => decide (m ∈ ms) := funext fun m => decide_eq_decide.mpr (h3 m)
  rw [e2] at e
  exact e.symm
theorem ds_strs {K : PySem.W.Frag} {H : Hp} : ∀ {vs : List V} {ms : List Str}, DpAll K H vs (ms.map PyData.str) → vs = ms.map V.str
  | _, [], h => by cases h; rfl
  | _, m :: r, h => by
    cases h with
    | cons a b =>
      cases a
      rw [ds_strs b]
      rfl
end LB
/-! The first tokens of a text are the tokens of its beginning. -/
namespace LB
open PySem
theorem get_take {l : List Nat} {e i : Nat} (h : i < e) : (l.take e)[i]? = l[i]? := by
  rw [List.getElem?_take]
  simp [h]
theorem run_take {p : Nat → Bool} {l : List Nat} {j e : Nat} (h : j + Tk.run p (l.drop j) ≤ e) (he : e ≤ l.length) : Tk.run p ((l.take e).drop j) = Tk.run p (l.drop j) := by
  refine Tk.run_eq (by rw [List.length_drop, List.length_take]; omega) (fun i c hi hc => ?_) (fun c hc => ?_)
  · rw [List.getElem?_drop, get_take (by omega)] at hc
    exact Tk.run_at hi (by rw [List.getElem?_drop]; exact hc)
  · rw [List.getElem?_drop] at hc
    have hlt := (List.getElem?_eq_some_iff.mp hc).1
    rw [List.length_take] at hlt
    rw [get_take (by omega)] at hc
    exact Tk.run_end (by rw [List.getElem?_drop]; exact hc)
theorem piece_take {l : List Nat} {b e' e : Nat} (h : e' ≤ e) : Tk.piece (l.take e) b e' = Tk.piece l b e' := by
  unfold Tk.piece
  rw [List.drop_take, List.take_take, Nat.min_eq_left (by omega)]
theorem from_cut {l : List Nat} : ∀ (n i : Nat), l.length - i ≤ n → ∀ (pre : List (Tk.Srt × Nat × Nat)) (t : Tk.Srt × Nat × Nat) (post : List (Tk.Srt × Nat × Nat)), Tk.from_ isWord l i = pre ++ t :: post → Tk.from_ isWord (l.take t.2.2) i = pre ++ [t] := by
  intro n
  induction n with
  | zero =>
    intro i hn pre t post h
    rw [Tk.from_end (by omega)] at h
    simp at h
  | succ n ih =>
    intro i hn pre t post h
    by_cases hi : i < l.length
    · obtain ⟨c, hc⟩ := getD_of hi
      have hin : ∀ j, Tk.from_ isWord l j = pre ++ t :: post → TokIn l j t := fun j e => tok_in _ j (Nat.le_refl _) t (by rw [e]; simp)
      have he : t.2.2 ≤ l.length := (hin i h).hi
      have hie : i < t.2.2 := by
        have a := (hin i h).lo
        have b := (hin i h).lt
        omega
      have hc' : (l.take t.2.2)[i]? = some c := by rw [get_take hie]; exact hc
      cases hb : Tk.blank c with
      | true =>
        rw [Tk.from_blank hc hb] at h
        rw [Tk.from_blank hc' hb]
        exact ih (i + 1) (by omega) pre t post h
      | false =>
        by_cases hx : c = 33
        · rw [Tk.from_note hc hx] at h
          rw [Tk.from_note hc' hx]
          have h1 := Tk.noteEnd_le (l := l) (i := i + 1) hi
          have a := (hin _ h).lo
          have b := (hin _ h).lt
          have e1 : Tk.noteEnd (l.take t.2.2) (i + 1) = Tk.noteEnd l (i + 1) := by
            have hr : i + 1 + Tk.run Tk.notNl (l.drop (i + 1)) ≤ t.2.2 := by
              unfold Tk.noteEnd at a
              omega
            unfold Tk.noteEnd
            rw [run_take hr he]
          rw [e1]
          exact ih _ (by omega) pre t post h
        · have hte : ∀ e, Tk.tokEnd l i ≤ e → e ≤ l.length → (l.take e)[i]? = some c → Tk.tokEnd (l.take e) i = Tk.tokEnd l i := fun e h1 h2 h3 => by
            rw [Tk.tokEnd_of hc] at h1 ⊢
            rw [Tk.tokEnd_of h3, run_take h1 h2]
          have ht := Tk.tokEnd_le hc
          rw [Tk.from_tok hc hb hx] at h
          rw [Tk.from_tok hc' hb hx]
          cases pre with
          | nil =>
            have h : _ = t :: post := h
            injection h with h1 h2
            have e1 : t.2.2 = Tk.tokEnd l i := by rw [← h1]
            rw [hte t.2.2 (by omega) he hc', piece_take (by omega), h1, ← e1, Tk.from_end (by rw [List.length_take]; omega)]
            rfl
          | cons u pre =>
            have h : _ = u :: (pre ++ t :: post) := h
            injection h with h1 h2
            have b := tok_in _ _ (Nat.le_refl _) t (show t ∈ Tk.from_ isWord l (Tk.tokEnd l i) by rw [h2]; simp)
            have b1 := b.lo
            have b2 := b.lt
            rw [hte t.2.2 (by omega) he hc', piece_take (by omega), h1, ih _ (by omega) pre t post h2]
            rfl
    · rw [Tk.from_end (by omega)] at h
      simp at h
/-- the text up to the end of its token k -/
theorem toks_cut {l : List Nat} {k : Nat} {t : Tk.Srt × Nat × Nat} (h : (toksL l)[k]? = some t) : toksL (l.take t.2.2) = (toksL l).take (k + 1) := by
  have hk := (List.getElem?_eq_some_iff.mp h).1
  have e : toksL l = (toksL l).take k ++ t :: (toksL l).drop (k + 1) := by
    rw [← drop_get h, List.take_append_drop]
  have := from_cut _ 0 (Nat.le_refl _) _ t _ e
  rw [List.take_add_one, h]
  exact this
theorem ts_cut {l : List Nat} {k : Nat} {t : Tk.Srt × Nat × Nat} (h : (toksL l)[k]? = some t) : ts (l.take t.2.2) 0 = (ts l 0).take (k + 1) := by
  have e := toks_cut h
  unfold ts
  rw [List.drop_zero, List.drop_zero, ← List.map_take, e]
  refine List.map_congr_left fun u hu => ?_
  rw [← e] at hu
  have hin := tok_in _ 0 (Nat.le_refl _) u hu
  have h1 := hin.hi
  rw [List.length_take] at h1
  unfold tokOf
  rw [piece_take (by omega)]
theorem endOf_cut {l : List Nat} {k : Nat} {t : Tk.Srt × Nat × Nat} (h : (toksL l)[k]? = some t) : endOf (l.take t.2.2) = t.2.2 := by
  have hk := (List.getElem?_eq_some_iff.mp h).1
  unfold endOf
  rw [toks_cut h, List.take_add_one, h]
  simp
/-- starts rise -/
theorem starts_rise {l : List Nat} : ∀ (n i : Nat), l.length - i ≤ n → ((Tk.from_ isWord l i).map (·.2.1)).Pairwise (· < ·) := by
  intro n
  induction n with
  | zero =>
    intro i hn
    rw [Tk.from_end (by omega)]
    exact List.Pairwise.nil
  | succ n ih =>
    intro i hn
    by_cases hi : i < l.length
    · obtain ⟨c, hc⟩ := getD_of hi
      cases hb : Tk.blank c with
      | true =>
        rw [Tk.from_blank hc hb]
        exact ih (i + 1) (by omega)
      | false =>
        by_cases hx : c = 33
        · rw [Tk.from_note hc hx]
          have h1 := Tk.noteEnd_le (l := l) (i := i + 1) hi
          exact ih _ (by omega)
        · rw [Tk.from_tok hc hb hx]
          have ht := Tk.tokEnd_le hc
          refine List.pairwise_cons.mpr ⟨fun b hb => ?_, ih _ (by omega)⟩
          obtain ⟨u, hu, rfl⟩ := List.mem_map.mp hb
          have := (tok_in _ _ (Nat.le_refl _) u hu).lo
          show i < u.2.1
          omega
    · rw [Tk.from_end (by omega)]
      exact List.Pairwise.nil
end LB
/-! t[::-1], t a short tuple. -/
namespace L2
open PySem
section
variable {prog : Program} {w : World} {A : Around} {E : Value → Shared → Prop} {s : Shared}
theorem sliceApplied_rev {sl : Addr} {vl vu vs : Value} {n : Nat} {Q : Int × Int × Nat → Shared → Prop} (hs : s.heap.IsSliceOf sl vl vu vs) (pl : IsPart vl none) (pu : IsPart vu none) (pm : IsPart vs (some (-1))) (hn : n ≤ 3) (h : Q ((n : Int) - 1, -1, n) s) :
    wpAny (model prog w) A (Builtin.Slice.sliceApplied (.ref sl) (pure (n : Int))) Q E s := by
  obtain ⟨os, hos, hcs, hds⟩ := id hs
  unfold Builtin.Slice.sliceApplied
  refine wpAny_bind (wpAny_bind (wpAny_field hos hds rfl (wpAny_bind (wpAny_field hos hds rfl (wpAny_bind (wpAny_field hos hds rfl (wpAny_pure ?_)))))))
  refine wpAny_bind (HT.slicePart_ pm ?_)
  refine wpAny_ite_false (by rfl) ?_
  refine wpAny_bind (HT.slicePart_ pl ?_)
  refine wpAny_bind (HT.slicePart_ pu ?_)
  refine wpAny_bind (wpAny_pure ?_)
  have c : n = 0 ∨ n = 1 ∨ n = 2 ∨ n = 3 := by omega
  rcases c with rfl | rfl | rfl | rfl <;> exact wpAny_pure h
theorem getItem_tuple_rev {t sl : Addr} {items : Array Value} {vl vu vs : Value} {Q : Value → Shared → Prop} (ht : PyProof.Rows.IsTup s.heap t items) (hs : s.heap.IsSliceOf sl vl vu vs) (pl : IsPart vl none) (pu : IsPart vu none) (pm : IsPart vs (some (-1))) (hl : items.size ≤ 3)
    (h : Q (.ref s.heap.objs.size) { s with heap := s.heap.push { cls := .type "tuple", data := .seq items.toList.reverse.toArray } }) : wpAny (model prog w) A (getItem (.ref t) (.ref sl)) Q E s := by
  obtain ⟨os, hos, hcs, hds⟩ := id hs
  have hTs : s.TypeIs (.ref sl) "slice" := ⟨os, hos, hcs⟩
  unfold getItem
  refine wpAny_holding (wpAny_bind (wpAny_sequenceKey ht.typeIs (by decide +kernel) (wpAny_bind (wpAny_callSpecial?_slot ht.typeIs PyProof.Rows.slot_tuple_getitem (wpAny_call_entry PyProof.Rows.slot_tuple_getitem ht.typeIs PyProof.Rows.entry_tuple_getitem ?_ (PyProof.Rows.args_tuple_getitem _ _))))))
  unfold Builtin.«tuple.__getitem__»
  refine wpAny_bind (wpAny_of_eq (a := (Value.ref t, [Value.ref sl])) (by rfl) ?_)
  refine wpAny_bind (PyProof.Rows.tupleItemsOf_ ht (wpAny_bind (wpAny_typeOf hTs ?_)))
  refine wpAny_ite_true (by rfl) ?_
  refine wpAny_bind (sliceApplied_rev (n := items.size) hs pl pu pm hl ?_)
  refine wpAny_ite_false ?_ ?_
  · have : ((-1 : Int) == 1) = false := by decide
    rw [this, Bool.and_false, Bool.false_and]
    rfl
  have e : (List.filterMap (fun k : Nat => items[(((items.size : Int) - 1) + (k : Int) * -1).toNat]?) (List.range items.size)).toArray = items.toList.reverse.toArray := by
    obtain ⟨l⟩ := items
    match l, hl with
    | [], _ => rfl
    | [a], _ => rfl
    | [a, b], _ => rfl
    | [a, b, c], _ => rfl
    | a :: b :: c :: d :: r, hl => simp at hl
  refine wpAny_bind ?_
  unfold Builtin.Tuple.tupleExact
  rw [e]
  refine wpAny_newObj_type ?_ ?_
  · exact wpAny_pure ⟨_, rfl, wpAny_pure h⟩
  · show items.toList.reverse.toArray.size ≤ sizeLine
    have : items.toList.reverse.toArray.size = items.size := by simp
    rw [this]
    exact Nat.le_trans hl (by rw [sizeLine_eq]; decide)
end
def tRevT (K : PySem.W.Frag) (te : TE) : TE := fun σ H Q => te σ H fun x H1 => ∃ (a : Addr) (xs : List V), x = .ref a ∧ SqT K H1 a xs ∧ xs.length ≤ 3 ∧ ∀ p, H1 p = none → Q (.ref p) (upd H1 p (.tup xs.reverse))
theorem pe_revT {X : Cx} {e : Expr} {te : TE} {k : Nat} {p1 p2 p3 pos : Pos} (he : PE X e te) : PE X (.Subscript e (.Slice none none (some (.UnaryOp .USub (.Constant (.int 1) k p1) p2)) p3) pos) (tRevT X.K te) := by
  refine ⟨fun pins s σ H Q I h => ?_⟩
  refine PyProof.Rows.Subscript_ (thn (he.run pins s σ H _ I h) fun v s1 x => ?_)
  obtain ⟨x, H1, I1, r1, a, xs, rfl, hx, hl, q⟩ := x
  obtain rfl : v = .ref a := r1
  have hst := po_some (pe_un (pos := p2) un_neg (pe_int (X := X) (j := k) (pos := p1) (i := 1)))
  refine wpAny_Slice (thn (po_none.run pins s1 σ H1 (fun o H2 => o = none ∧ H2 = H1) I1 ⟨rfl, rfl⟩) fun vl s2 x => ?_)
  obtain ⟨l, H2, I2, pl, rfl, rfl⟩ := x
  refine thn (po_none.run pins s2 σ H2 (fun o H3 => o = none ∧ H3 = H2) I2 ⟨rfl, rfl⟩) fun vu s3 x => ?_
  obtain ⟨u, H3, I3, pu, rfl, rfl⟩ := x
  refine thn (hst.run pins s3 σ H3 (fun o H4 => o = some (-1) ∧ H4 = H3) I3 ⟨1, rfl, -1, rfl, rfl, rfl⟩) fun vs s4 x => ?_
  obtain ⟨o, H4, I4, ps, rfl, rfl⟩ := x
  have I5 := I4.kept (h' := s4.heap.push { cls := .type "slice", data := .fields #[vl, vu, vs] }) (t' := s4.toks) fun b ob q => Heap.get?_push_of_some _ q
  obtain ⟨its, r, ht, hz⟩ := I5.tuple hx
  have hlen : its.toArray.size ≤ 3 := by
    have := r.length
    simp only [List.size_toArray]
    omega
  refine PyProof.Rows.tail_any (ops := [.ref a, .ref s4.heap.objs.size]) ht.typeIs PyProof.Rows.slot_tuple_getitem.lookup ?_ rfl
  refine getItem_tuple_rev ht (Heap.IsSliceOf.new _ vl vu vs) pl pu ps hlen ?_
  have e : its.toArray.toList.reverse.toArray = its.reverse.toArray := by simp
  rw [e]
  have hn := I5.hok.fresh (Nat.le_refl _)
  refine ⟨.ref _, _, I5.laid (o := .tup xs.reverse) (fun b u q => Heap.get?_push_of_some _ q) (Nat.le_refl _) ⟨by rw [List.length_reverse]; exact hz, its.reverse, r.reverse, ⟨_, Heap.get?_push_size _ rfl, rfl, 0, rfl⟩⟩, rfl, q _ hn⟩
end L2
/-! Texts that are put together. -/
namespace LB
open PySem PySem.Spec PyProof.Rows L2
abbrev kText : Key := Sum.inr "text"
def outK (z : List Nat) : List (Key × V) := [(kText, txt z)]
theorem put_out {z y : List Nat} : putK (outK z) kText (txt y) = outK y := by
  simp [putK, outK]
theorem dg_text {z : List Nat} {H : Hp} {o : Addr} (h : H o = some (.dK (outK z))) : DGet H o (V.str "text") (some (txt z)) := by
  have h := DGet.k (k := kText) h
  have e : valV (outK z) kText = some (txt z) := valV_pos rfl
  rwa [e] at h
theorem dp_text {z y : List Nat} {H : Hp} {o : Addr} (h : H o = some (.dK (outK z))) : DPut H o (V.str "text") (txt y) (upd H o (.dK (outK y))) := by
  have h := DPut.k (k := kText) (v := txt y) h (by show 1 < sizeLine; decide)
  rwa [put_out] at h
structure PS (t c : Addr) (cs : List Int) (S : List Addr) (o : Addr) (z : List Nat) (H : Hp) : Prop where
  live : Live t c cs S H
  oS : o ∈ S
  ot : o ≠ t
  at_ : H o = some (.dK (outK z))
section
variable {K : PySem.W.Frag} {t c o : Addr} {cs : List Int} {S : List Addr} {z y : List Nat} {H H' : Hp}
theorem PS.take (W : PS t c cs S o z H) {kvs : List (Key × V)} (h : TapeK c cs kvs) : PS t c cs S o z (upd H t (.dK kvs)) := ⟨W.live.take h, W.oS, W.ot, by rw [upd_ne W.ot]; exact W.at_⟩
theorem PS.new (W : PS t c cs S o z H) {p : Addr} {u : HO} (h : H p = none) : PS t c cs S o z (upd H p u) := ⟨W.live.new h, W.oS, W.ot, by rw [upd_ne (ne_of_none W.at_ h)]; exact W.at_⟩
theorem PS.put (W : PS t c cs S o z H) : PS t c cs S o y (upd H o (.dK (outK y))) :=
  ⟨⟨W.live.tape.out (T := [o]) (.upd_in (List.mem_singleton.mpr rfl)) (fun q => W.ot (List.mem_singleton.mp q).symm) (fun q => by
    have := List.mem_singleton.mp q
    exact W.live.cS (by rw [this]; exact W.oS)), W.live.al.upd, W.live.tS, W.live.cS⟩, W.oS, W.ot, upd_same⟩
theorem PS.o_in (W : PS t c cs S o z H) {u : HO} : Out [t, o] H (upd H o u) := .upd_in (List.mem_cons_of_mem _ (List.mem_singleton.mpr rfl))
theorem PS.t_in {u : HO} : Out [t, o] H (upd H t u) := .upd_in List.mem_cons_self
theorem PS.sub (W : PS t c cs S o z H) : ∀ b ∈ [t, o], b ∈ S := fun b hb => by
  rcases List.mem_cons.mp hb with rfl | hb
  · exact W.live.tS
  · rw [List.mem_singleton.mp hb]; exact W.oS
theorem PS.dp (W : PS t c cs S o z H) (h : Out [t, o] H H') {v : V} {d : PyData} (a : DpS K S H v d) : DpS K S H' v d := dpS_out (h.mono W.sub) a
theorem PS.ds (W : PS t c cs S o z H) (h : Out [t, o] H H') {v : List V} {d : List PyData} (a : DsS K S H v d) : DsS K S H' v d := dsS_out (h.mono W.sub) a
theorem PS.seqT (W : PS t c cs S o z H) (h : Out [t, o] H H') {a : Addr} {xs : List V} (e : SqT K (wo S H) a xs) : SqT K (wo S H') a xs := same_seqT (h.mono W.sub).same e
end
def spPut : Sp := fun vs H Q _ => ∃ (t c : Addr) (cs : List Int) (S : List Addr) (o : Addr) (z : List Nat) (s : Str), vs = [.ref t, .ref o, .str s] ∧ PS t c cs S o z H ∧ s.length ≤ 20 ∧ z.length ≤ 40000 ∧
  ∀ (z' : List Nat) (H' : Hp), z'.length ≤ z.length + 30 → PS t c cs S o z' H' → Out [t, o] H H' → Q .non H'
def spPutAll : Sp := fun vs H Q _ => ∃ (t c : Addr) (cs : List Int) (S : List Addr) (o l : Addr) (z : List Nat) (ss : List Str), vs = [.ref t, .ref o, .ref l] ∧ PS t c cs S o z H ∧ H l = some (.lst (ss.map V.str)) ∧ (∀ s ∈ ss, s.length ≤ 20) ∧ z.length + 30 * ss.length ≤ 40000 ∧
  ∀ (z' : List Nat) (H' : Hp), z'.length ≤ z.length + 30 * ss.length → PS t c cs S o z' H' → Out [t, o] H H' → Q .non H'
def spWords (K : PySem.W.Frag) : Sp := fun vs H Q _ => ∃ (v : V) (x : Vl) (nm : List Str), vs = [v] ∧ x.ok nm ∧ (∀ s ∈ nm, s.length ≤ 20) ∧ Dp K H v x.d ∧
  ∀ (l : Addr) (ss : List Str) (H' : Hp), ss.length ≤ 4 → (∀ s ∈ ss, s.length ≤ 20) → Same H H' → H l = none → H' l = some (.lst (ss.map V.str)) → Q (.ref l) H'
def spPutTree (K : PySem.W.Frag) : Sp := fun vs H Q _ => ∃ (t c : Addr) (cs : List Int) (S : List Addr) (o : Addr) (v : V) (T : LB.Tree), vs = [.ref t, .ref o, v] ∧ PS t c cs S o [] H ∧ T.ok ∧ DpS K S H v T.d ∧
  ∀ (z' : List Nat) (H' : Hp), z'.length ≤ 30000 → PS t c cs S o z' H' → Out [t, o] H H' → Q .non H'
theorem last_slice (z : List Nat) : Txt.slice ⟨z.toArray⟩ (some (-1)) none = (⟨#[]⟩ : Str) ∨ ∃ c, Txt.slice ⟨z.toArray⟩ (some (-1)) none = (⟨#[c]⟩ : Str) := by
  rw [← C8.cutS_slice]
  unfold cutS
  rw [slen, stl]
  have e1 : HT.sIx z.length 0 (some (-1)) = z.length - 1 := by
    unfold HT.sIx
    simp
    omega
  have e2 : HT.sIx z.length z.length none = z.length := rfl
  rw [e1, e2]
  cases hz : z.getLast? with
  | none =>
    have : z = [] := List.getLast?_eq_none_iff.mp hz
    subst this
    exact .inl rfl
  | some c =>
    refine .inr ⟨c, ?_⟩
    have hl : 0 < z.length := List.length_pos_of_mem (List.mem_of_getLast? hz)
    have : z.drop (z.length - 1) = [c] := by
      rw [List.getLast?_eq_getElem?] at hz
      rw [drop_get hz, List.drop_of_length_le (by omega)]
    rw [this]
    have e3 : z.length - (z.length - 1) = 1 := by omega
    rw [e3]
    rfl
def gapL : List Str := [" ", "", "\n", " ! note }\n"]
theorem gap_len : ∀ y ∈ gapL, y.length ≤ 10 := by decide +kernel
/-- str(x), x an int or a text -/
def rStrAny : List V → Hp → VK → Prop := fun vs H Q => (∃ n : Int, vs = [.int n] ∧ n.natAbs.log2 < 1920 ∧ Q (.str (Str.ofString (toString n))) H) ∨ (∃ z : Str, vs = [.str z] ∧ Q (.str z) H)
end LB
namespace LB
open PySem PySem.Spec PyProof.Rows L2
theorem call_str_any {X : Cx} : CallR X (.type "str") rStrAny := fun pins s σ H xs us Q I r h =>
  h.elim (fun ⟨n, e, hl, q⟩ => call_str_int pins s σ H xs us Q I r ⟨n, e, hl, q⟩) (fun ⟨z, e, q⟩ => SkE.call_str_str pins s σ H xs us Q I r ⟨z, e, q⟩)
end LB
/-! A tree's words, read: the tree. -/
namespace PM
open PySem LB
abbrev W := Tok → Prop
def wName (s : Str) : W := fun t => t.form = ("NAME" : Str) ∧ t.str = s
def wLit (s : Str) : W := fun t => t.form = s ∧ t.str = s
def wNum (n : Int) : W := fun t => t.form = ("NUMBER" : Str) ∧ numV t.text = n
/-- tokens that are these words -/
inductive Are : List W → List Tok → Prop where
  | nil : Are [] []
  | cons {w : W} {t : Tok} {ws : List W} {ts : List Tok} : w t → Are ws ts → Are (w :: ws) (t :: ts)
theorem Are.split : ∀ {a b : List W} {ts : List Tok}, Are (a ++ b) ts → ∃ x y, ts = x ++ y ∧ Are a x ∧ Are b y
  | [], b, ts, h => ⟨[], ts, rfl, .nil, h⟩
  | w :: a, b, _, h => by
    cases h with
    | cons h1 h2 =>
      obtain ⟨x, y, rfl, hx, hy⟩ := Are.split h2
      exact ⟨_ :: x, y, rfl, .cons h1 hx, hy⟩
theorem Are.app : ∀ {a b : List W} {x y : List Tok}, Are a x → Are b y → Are (a ++ b) (x ++ y)
  | _, _, _, _, .nil, h => h
  | _, _, _, _, .cons h1 h2, h => .cons h1 (Are.app h2 h)
section
variable {α β : Type}
theorem bnd_ok {p : Pr α} {q : α → Pr β} {ts r : List Tok} {a : α} (h : p ts = .ok a r) : bnd p q ts = q a r := by
  unfold bnd
  rw [h]
theorem tok_ok' {fs : List Str} {t : Tok} {r : List Tok} (h : t.form ∈ fs) : tok fs (t :: r) = .ok t r := by simp [tok, h]
theorem name_ok {s : Str} {t : Tok} {r : List Tok} (h : wName s t) : name (t :: r) = .ok s r := by
  show bnd (tok ["NAME"]) _ _ = _
  rw [bnd_ok (tok_ok' (by rw [h.1]; exact List.mem_singleton.mpr rfl)), h.2]
  rfl
theorem lit_ok {fs : List Str} {s : Str} {t : Tok} {r : List Tok} (h : wLit s t) (hf : s ∈ fs) : take fs (t :: r) = .ok s r := by
  show bnd (tok fs) _ _ = _
  rw [bnd_ok (tok_ok' (by rw [h.1]; exact hf)), h.2]
  rfl
theorem num_ok {n : Int} {t : Tok} {r : List Tok} (h : wNum n t) : number (t :: r) = .ok n r := by
  show bnd (tok ["NUMBER"]) _ _ = _
  rw [bnd_ok (tok_ok' (by rw [h.1]; exact List.mem_singleton.mpr rfl))]
  show Res.ok (numV t.text) r = _
  rw [h.2]
theorem ahead_ok {q : Str → Pr β} {ts : List Tok} : bnd ahead q ts = q (aheadS ts) ts := rfl
/-- texts of several things, one behind the other -/
inductive Cat (T : α → List Tok → Prop) : List α → List Tok → Prop where
  | nil : Cat T [] []
  | cons {a : α} {as : List α} {x y : List Tok} : T a x → Cat T as y → Cat T (a :: as) (x ++ y)
theorem Cat.snoc {T : α → List Tok → Prop} : ∀ {as : List α} {ts : List Tok} {a : α} {x : List Tok}, Cat T as ts → T a x → Cat T (as ++ [a]) (ts ++ x)
  | _, _, a, x, .nil, h => by
    have := Cat.cons h (Cat.nil (T := T))
    simpa using this
  | _, _, a, x, .cons h1 h2, h => by
    have := Cat.cons h1 (Cat.snoc h2 h)
    simpa [List.append_assoc] using this
/-- a list that is read while c holds -/
theorem lp_ok {c : Str → Bool} {p : Pr α} {T : α → List Tok → Prop} {R : List Tok} (hR : c (aheadS R) = false) :
    ∀ (as : List α) (n : Nat) (ts : List Tok), as.length < n → (∀ a ∈ as, ∀ x r, T a x → c (aheadS (x ++ r)) = true ∧ p (x ++ r) = .ok a r) → Cat T as ts → lp c p n (ts ++ R) = .ok as R
  | [], n, ts, hn, _, h => by
    obtain ⟨m, rfl⟩ : ∃ m, n = m + 1 := ⟨n - 1, by simp at hn; omega⟩
    cases h
    show bnd ahead _ _ = _
    rw [ahead_ok]
    have : ([] ++ R : List Tok) = R := rfl
    rw [this, hR, if_neg Bool.false_ne_true]
    rfl
  | a :: as, n, ts, hn, hp, h => by
    obtain ⟨m, rfl⟩ : ∃ m, n = m + 1 := ⟨n - 1, by simp at hn; omega⟩
    cases h with
    | @cons _ _ x y hx hy =>
    have h1 := hp a List.mem_cons_self x (y ++ R) hx
    show bnd ahead _ _ = _
    rw [ahead_ok, List.append_assoc, h1.1, if_pos rfl, bnd_ok h1.2,
      bnd_ok (lp_ok hR as m y (by simp at hn; omega) (fun b hb => hp b (List.mem_cons_of_mem _ hb)) hy)]
    rfl
end
/-! ### words -/
def addW (n : Int) : List W := if n > 0 then [wLit "+", wNum n] else []
def valW : Vl → List W
  | .number n => [wNum n]
  | .none => [wLit "none"]
  | .index n => wLit "index" :: addW n
  | .name s => [wName s]
  | .told s n => wLit "told" :: wName s :: addW n
def pairW (p : Str × Vl) : List W := [wName p.1, wLit "="] ++ (valW p.2 ++ [wLit ";"])
def cntW : Option Int → List W
  | none => []
  | some k => [wLit "*", wNum k]
theorem addition_eq (ts : List Tok) : addition ts = (if aheadS ts = ("+" : Str) then bnd (take ["+"]) fun _ => number else ret 0) ts := rfl
theorem value_eq (ts : List Tok) : value ts = (if aheadS ts = ("NUMBER" : Str) then bnd number fun n => ret (.number n) else if aheadS ts = ("NAME" : Str) then bnd name fun n => ret (.name n) else bnd (take ["none", "index", "told"]) fun w =>
    if w = ("none" : Str) then ret .none else if w = ("index" : Str) then bnd addition fun n => ret (.index n) else bnd name fun x => bnd addition fun n => ret (.told x n)) ts := rfl
theorem addition_ok {n : Int} {ts R : List Tok} (h0 : 0 ≤ n) (h : Are (addW n) ts) (hR : aheadS R ≠ ("+" : Str)) : addition (ts ++ R) = .ok n R := by
  unfold addW at h
  by_cases hn : n > 0
  · rw [if_pos hn] at h
    cases h with
    | @cons _ t _ _ a b =>
    cases b with
    | @cons _ u _ _ b c =>
    cases c
    have e : [t, u] ++ R = t :: u :: R := rfl
    have ha : aheadS (t :: u :: R) = ("+" : Str) := a.1
    rw [e, addition_eq, if_pos ha, bnd_ok (lit_ok a (List.mem_singleton.mpr rfl))]
    exact num_ok b
  · rw [if_neg hn] at h
    cases h
    have e : n = 0 := by omega
    subst e
    have e : [] ++ R = R := rfl
    rw [e, addition_eq, if_neg hR]
    rfl
def Vl.pos : Vl → Prop
  | .index n => 0 ≤ n
  | .told _ n => 0 ≤ n
  | _ => True
theorem value_ok {v : Vl} {ts R : List Tok} (hv : Vl.pos v) (h : Are (valW v) ts) (hR : aheadS R ≠ ("+" : Str)) : value (ts ++ R) = .ok v R := by
  have e1 : ¬ ("none" : Str) = ("NUMBER" : Str) := by decide +kernel
  have e2 : ¬ ("none" : Str) = ("NAME" : Str) := by decide +kernel
  have e3 : ¬ ("index" : Str) = ("NUMBER" : Str) := by decide +kernel
  have e4 : ¬ ("index" : Str) = ("NAME" : Str) := by decide +kernel
  have e5 : ¬ ("told" : Str) = ("NUMBER" : Str) := by decide +kernel
  have e6 : ¬ ("told" : Str) = ("NAME" : Str) := by decide +kernel
  have e7 : ¬ ("NAME" : Str) = ("NUMBER" : Str) := by decide +kernel
  have e8 : ¬ ("index" : Str) = ("none" : Str) := by decide +kernel
  have e9 : ¬ ("told" : Str) = ("none" : Str) := by decide +kernel
  have e10 : ¬ ("told" : Str) = ("index" : Str) := by decide +kernel
  have m1 : ("none" : Str) ∈ (["none", "index", "told"] : List Str) := by decide +kernel
  have m2 : ("index" : Str) ∈ (["none", "index", "told"] : List Str) := by decide +kernel
  have m3 : ("told" : Str) ∈ (["none", "index", "told"] : List Str) := by decide +kernel
  cases v with
  | number n =>
    cases h with
    | @cons _ t _ _ a b =>
    cases b
    have e : [t] ++ R = t :: R := rfl
    have ha : aheadS (t :: R) = ("NUMBER" : Str) := a.1
    rw [e, value_eq, if_pos ha]
    exact bnd_ok (num_ok a)
  | none =>
    cases h with
    | @cons _ t _ _ a b =>
    cases b
    have e : [t] ++ R = t :: R := rfl
    have ha : aheadS (t :: R) = ("none" : Str) := a.1
    rw [e, value_eq, ha, if_neg e1, if_neg e2, bnd_ok (lit_ok a m1), if_pos rfl]
    rfl
  | index n =>
    cases h with
    | @cons _ t _ ts a b =>
    have ha : aheadS (t :: (ts ++ R)) = ("index" : Str) := a.1
    have e : (t :: ts) ++ R = t :: (ts ++ R) := rfl
    rw [e, value_eq, ha, if_neg e3, if_neg e4, bnd_ok (lit_ok a m2), if_neg e8, if_pos rfl]
    exact bnd_ok (addition_ok hv b hR)
  | name s =>
    cases h with
    | @cons _ t _ _ a b =>
    cases b
    have e : [t] ++ R = t :: R := rfl
    have ha : aheadS (t :: R) = ("NAME" : Str) := a.1
    rw [e, value_eq, ha, if_neg e7, if_pos rfl]
    exact bnd_ok (name_ok a)
  | told s n =>
    cases h with
    | @cons _ t _ _ a b =>
    cases b with
    | @cons _ u _ ts b c =>
    have ha : aheadS (t :: u :: (ts ++ R)) = ("told" : Str) := a.1
    have e : (t :: u :: ts) ++ R = t :: u :: (ts ++ R) := rfl
    rw [e, value_eq, ha, if_neg e5, if_neg e6, bnd_ok (lit_ok a m3), if_neg e9, if_neg e10, bnd_ok (name_ok b)]
    exact bnd_ok (addition_ok hv c hR)
theorem pair_ok {p : Str × Vl} {ts R : List Tok} (hv : Vl.pos p.2) (h : Are (pairW p) ts) : pair (ts ++ R) = .ok p R := by
  obtain ⟨x, y, rfl, hx, hy⟩ := Are.split h
  obtain ⟨v, z, rfl, hvv, hz⟩ := Are.split hy
  cases hx with
  | @cons _ t _ _ a b =>
  cases b with
  | @cons _ u _ _ b c =>
  cases c
  cases hz with
  | @cons _ w _ _ d e =>
  cases e
  have e : [t, u] ++ (v ++ [w]) ++ R = t :: u :: (v ++ (w :: R)) := by simp
  have hne : aheadS (w :: R) ≠ ("+" : Str) := by
    show w.form ≠ _
    rw [d.1]
    decide +kernel
  rw [e]
  show bnd name _ _ = _
  rw [bnd_ok (name_ok a), bnd_ok (lit_ok b (List.mem_singleton.mpr rfl)), bnd_ok (value_ok hv hvv hne), bnd_ok (lit_ok d (List.mem_singleton.mpr rfl))]
  rfl
def fieldW (f : Fd) : List W := [wName f.name, wLit ":"] ++ (if f.target = ("" : Str) then [wLit "number"] else [wLit "ref", wName f.target])
/-- a field's tokens -/
def FieldT (f : Fd) (ts : List Tok) : Prop := ∃ (ms : List Str) (x y : List Tok) (z : Tok), ts = x ++ y ++ [z] ∧ Are (fieldW f) x ∧ Cat (fun s t => Are [wLit s] t) ms y ∧ wLit ";" z ∧ (∀ s ∈ ms, s ∈ (["fixed", "empty", "single"] : List Str)) ∧ ms.length ≤ 10 ∧ marksOf ms = f.marks
theorem field_ok {f : Fd} {n : Nat} {ts R : List Tok} (hn : 10 < n) (h : FieldT f ts) : field n (ts ++ R) = .ok f R := by
  obtain ⟨ms, x, y, z, rfl, hx, hy, hz, hms, hml, hmk⟩ := h
  have mr1 : ("ref" : Str) ∈ (["number", "ref"] : List Str) := by decide +kernel
  have mr2 : ("number" : Str) ∈ (["number", "ref"] : List Str) := by decide +kernel
  have nr : ¬ ("number" : Str) = ("ref" : Str) := by decide +kernel
  have c3 : ∀ s ∈ (["fixed", "empty", "single"] : List Str), ¬ s = (";" : Str) := by decide +kernel
  have tail : bnd (until_ ";" (take ["fixed", "empty", "single"]) n) (fun ms => bnd (take [";"]) fun _ => ret (Fd.mk f.name f.target (marksOf ms))) (y ++ (z :: R)) = .ok f R := by
    have hR : (!decide (aheadS (z :: R) = (";" : Str))) = false := by
      rw [decide_eq_true (show aheadS (z :: R) = (";" : Str) from hz.1)]
      rfl
    rw [bnd_ok (lp_ok (T := fun s t => Are [wLit s] t) hR ms n y (by omega) (fun s hs x r hx => ?_) hy), bnd_ok (lit_ok hz (List.mem_singleton.mpr rfl)), hmk]
    · rfl
    · cases hx with
      | @cons _ t _ _ a b =>
      cases b
      refine ⟨?_, lit_ok a (hms s hs)⟩
      have : ¬ aheadS ([t] ++ r) = (";" : Str) := by
        show ¬ t.form = _
        rw [a.1]
        exact c3 s (hms s hs)
      rw [decide_eq_false this]
      rfl
  unfold fieldW at hx
  obtain ⟨u, v, rfl, hu, hv⟩ := Are.split hx
  cases hu with
  | @cons _ t1 _ _ a1 b1 =>
  cases b1 with
  | @cons _ t2 _ _ a2 b2 =>
  cases b2
  by_cases hg : f.target = ("" : Str)
  · rw [if_pos hg] at hv
    cases hv with
    | @cons _ t3 _ _ a3 b3 =>
    cases b3
    have e : [t1, t2] ++ [t3] ++ y ++ [z] ++ R = t1 :: t2 :: t3 :: (y ++ (z :: R)) := by simp
    rw [e]
    show bnd name _ _ = _
    rw [bnd_ok (name_ok a1), bnd_ok (lit_ok a2 (List.mem_singleton.mpr rfl)), bnd_ok (lit_ok a3 mr2), if_neg nr]
    show bnd (until_ ";" (take ["fixed", "empty", "single"]) n) (fun ms => bnd (take [";"]) fun _ => ret (Fd.mk f.name "" (marksOf ms))) _ = _
    rw [hg] at tail
    exact tail
  · rw [if_neg hg] at hv
    cases hv with
    | @cons _ t3 _ _ a3 b3 =>
    cases b3 with
    | @cons _ t4 _ _ a4 b4 =>
    cases b4
    have e : [t1, t2] ++ [t3, t4] ++ y ++ [z] ++ R = t1 :: t2 :: t3 :: t4 :: (y ++ (z :: R)) := by simp
    rw [e]
    show bnd name _ _ = _
    rw [bnd_ok (name_ok a1), bnd_ok (lit_ok a2 (List.mem_singleton.mpr rfl)), bnd_ok (lit_ok a3 mr1), if_pos rfl, bnd_ok (name_ok a4)]
    exact tail
theorem field_ahead {f : Fd} {ts r : List Tok} (h : FieldT f ts) : aheadS (ts ++ r) = ("NAME" : Str) := by
  obtain ⟨ms, x, y, z, rfl, hx, _⟩ := h
  obtain ⟨u, v, rfl, hu, hv⟩ := Are.split hx
  cases hu with
  | cons a b => exact a.1
def KindT (k : Kd) (ts : List Tok) : Prop := ∃ (x y : List Tok) (z : Tok), ts = x ++ y ++ [z] ∧ Are [wLit "kind", wName k.name, wLit "{"] x ∧ Cat FieldT k.fields y ∧ wLit "}" z
theorem kind_ok {k : Kd} {n : Nat} {ts R : List Tok} (hn : 10 < n) (hf : k.fields.length < n) (h : KindT k ts) : kind n (ts ++ R) = .ok k R := by
  obtain ⟨x, y, z, rfl, hx, hy, hz⟩ := h
  cases hx with
  | @cons _ t1 _ _ a1 b1 =>
  cases b1 with
  | @cons _ t2 _ _ a2 b2 =>
  cases b2 with
  | @cons _ t3 _ _ a3 b3 =>
  cases b3
  have nn : ¬ ("NAME" : Str) = ("}" : Str) := by decide +kernel
  have hR : (!decide (aheadS (z :: R) = ("}" : Str))) = false := by
    rw [decide_eq_true (show aheadS (z :: R) = ("}" : Str) from hz.1)]
    rfl
  have e : [t1, t2, t3] ++ y ++ [z] ++ R = t1 :: t2 :: t3 :: (y ++ (z :: R)) := by simp
  rw [e]
  show bnd (take _) _ _ = _
  rw [bnd_ok (lit_ok a1 (List.mem_singleton.mpr rfl)), bnd_ok (name_ok a2), bnd_ok (lit_ok a3 (List.mem_singleton.mpr rfl)),
    bnd_ok (lp_ok (T := FieldT) hR k.fields n y hf (fun f _ x r hx => ⟨by rw [field_ahead hx, decide_eq_false nn]; rfl, field_ok hn hx⟩) hy), bnd_ok (lit_ok hz (List.mem_singleton.mpr rfl))]
  rfl
theorem kind_ahead {k : Kd} {ts r : List Tok} (h : KindT k ts) : aheadS (ts ++ r) = ("kind" : Str) := by
  obtain ⟨x, y, z, rfl, hx, _⟩ := h
  cases hx with
  | cons a b => exact a.1
def ItemT : Im → List Tok → Prop
  | .thing nm c kn vs, ts => ∃ (t0 t1 : Tok) (x : List Tok) (t2 t3 t4 : Tok) (y : List Tok) (z : Tok), ts = t0 :: t1 :: (x ++ t2 :: t3 :: t4 :: (y ++ [z])) ∧ wLit "thing" t0 ∧ wName nm t1 ∧ Are (cntW c) x ∧ wLit ":" t2 ∧ wName kn t3 ∧ wLit "{" t4 ∧ Cat (fun p t => Are (pairW p) t) vs y ∧ wLit "}" z ∧ (∀ p ∈ vs, Vl.pos p.2) ∧ vs.length ≤ 10
  | .keep x, ts => Are [wLit "keep", wName x, wLit ";"] ts
  | .most k, ts => Are [wLit "most", wNum k, wLit ";"] ts
  | .adopt k x, ts => Are [wLit "adopt", wNum k, wLit "as", wName x, wLit ";"] ts
  | .move o x, ts => Are [wLit "move", wName o, wLit "to", wName x, wLit ";"] ts
theorem endIt_ok {i : Im} {t : Tok} {R : List Tok} (h : wLit ";" t) : endIt i (t :: R) = .ok i R := bnd_ok (lit_ok h (List.mem_singleton.mpr rfl))
theorem item_ok {i : Im} {n : Nat} {ts R : List Tok} (hn : 10 < n) (h : ItemT i ts) : item n (ts ++ R) = .ok i R := by
  have m1 : ("thing" : Str) ∈ (["thing", "keep", "most", "adopt", "move"] : List Str) := by decide +kernel
  have m2 : ("keep" : Str) ∈ (["thing", "keep", "most", "adopt", "move"] : List Str) := by decide +kernel
  have m3 : ("most" : Str) ∈ (["thing", "keep", "most", "adopt", "move"] : List Str) := by decide +kernel
  have m4 : ("adopt" : Str) ∈ (["thing", "keep", "most", "adopt", "move"] : List Str) := by decide +kernel
  have m5 : ("move" : Str) ∈ (["thing", "keep", "most", "adopt", "move"] : List Str) := by decide +kernel
  have k1 : ¬ ("keep" : Str) = ("thing" : Str) := by decide +kernel
  have o1 : ¬ ("most" : Str) = ("thing" : Str) := by decide +kernel
  have o2 : ¬ ("most" : Str) = ("keep" : Str) := by decide +kernel
  have a1 : ¬ ("adopt" : Str) = ("thing" : Str) := by decide +kernel
  have a2 : ¬ ("adopt" : Str) = ("keep" : Str) := by decide +kernel
  have a3 : ¬ ("adopt" : Str) = ("most" : Str) := by decide +kernel
  have v1 : ¬ ("move" : Str) = ("thing" : Str) := by decide +kernel
  have v2 : ¬ ("move" : Str) = ("keep" : Str) := by decide +kernel
  have v3 : ¬ ("move" : Str) = ("most" : Str) := by decide +kernel
  have v4 : ¬ ("move" : Str) = ("adopt" : Str) := by decide +kernel
  cases i with
  | thing nm c kn vs =>
    obtain ⟨t0, t1, x, t2, t3, t4, y, z, rfl, h0, h1, hx, h2, h3, h4, hy, hz, hp, hl⟩ := h
    have nn : ¬ ("NAME" : Str) = ("}" : Str) := by decide +kernel
    have cs : ¬ (":" : Str) = ("*" : Str) := by decide +kernel
    have hR : (!decide (aheadS (z :: R) = ("}" : Str))) = false := by
      rw [decide_eq_true (show aheadS (z :: R) = ("}" : Str) from hz.1)]
      rfl
    have tail : bnd (take [":"]) (fun _ => bnd name fun k => bnd (take ["{"]) fun _ => bnd (until_ "}" pair n) fun vs => bnd (take ["}"]) fun _ => ret (Im.thing nm c k vs)) (t2 :: t3 :: t4 :: (y ++ (z :: R))) = .ok (Im.thing nm c kn vs) R := by
      rw [bnd_ok (lit_ok h2 (List.mem_singleton.mpr rfl)), bnd_ok (name_ok h3), bnd_ok (lit_ok h4 (List.mem_singleton.mpr rfl)),
        bnd_ok (lp_ok (T := fun p t => Are (pairW p) t) hR vs n y (by omega) (fun p hpm x r hx => ⟨?_, pair_ok (hp p hpm) hx⟩) hy), bnd_ok (lit_ok hz (List.mem_singleton.mpr rfl))]
      · rfl
      · obtain ⟨u, v, rfl, hu, hv⟩ := Are.split hx
        cases hu with
        | @cons _ t _ w a b =>
        have : aheadS (t :: w ++ v ++ r) = ("NAME" : Str) := a.1
        rw [this, decide_eq_false nn]
        rfl
    have e : t0 :: t1 :: (x ++ t2 :: t3 :: t4 :: (y ++ [z])) ++ R = t0 :: t1 :: (x ++ (t2 :: t3 :: t4 :: (y ++ (z :: R)))) := by simp
    rw [e]
    show bnd (take _) _ _ = _
    rw [bnd_ok (lit_ok h0 m1), if_pos rfl]
    show bnd name _ _ = _
    rw [bnd_ok (name_ok h1), ahead_ok]
    cases c with
    | none =>
      cases hx
      have e2 : ([] ++ (t2 :: t3 :: t4 :: (y ++ (z :: R))) : List Tok) = t2 :: t3 :: t4 :: (y ++ (z :: R)) := rfl
      have ha : ¬ aheadS (t2 :: t3 :: t4 :: (y ++ (z :: R))) = ("*" : Str) := by
        show ¬ t2.form = _
        rw [h2.1]
        exact cs
      rw [e2, if_neg ha]
      exact tail
    | some k =>
      cases hx with
      | @cons _ u1 _ _ a b =>
      cases b with
      | @cons _ u2 _ _ b c =>
      cases c
      have e2 : ([u1, u2] ++ (t2 :: t3 :: t4 :: (y ++ (z :: R))) : List Tok) = u1 :: u2 :: t2 :: t3 :: t4 :: (y ++ (z :: R)) := rfl
      have ha : aheadS (u1 :: u2 :: t2 :: t3 :: t4 :: (y ++ (z :: R))) = ("*" : Str) := a.1
      rw [e2, if_pos ha]
      have e3 : (bnd (take ["*"]) fun _ => bnd number fun k => ret (some k)) (u1 :: u2 :: t2 :: t3 :: t4 :: (y ++ (z :: R))) = .ok (some k) (t2 :: t3 :: t4 :: (y ++ (z :: R))) := by
        rw [bnd_ok (lit_ok a (List.mem_singleton.mpr rfl)), bnd_ok (num_ok b)]
        rfl
      rw [bnd_ok e3]
      exact tail
  | keep x =>
    cases h with
    | @cons _ t1 _ _ h1 h =>
    cases h with
    | @cons _ t2 _ _ h2 h =>
    cases h with
    | @cons _ t3 _ _ h3 h =>
    cases h
    show bnd (take _) _ (t1 :: t2 :: t3 :: R) = _
    rw [bnd_ok (lit_ok h1 m2), if_neg k1, if_pos rfl, bnd_ok (name_ok h2)]
    exact endIt_ok h3
  | most k =>
    cases h with
    | @cons _ t1 _ _ h1 h =>
    cases h with
    | @cons _ t2 _ _ h2 h =>
    cases h with
    | @cons _ t3 _ _ h3 h =>
    cases h
    show bnd (take _) _ (t1 :: t2 :: t3 :: R) = _
    rw [bnd_ok (lit_ok h1 m3), if_neg o1, if_neg o2, if_pos rfl, bnd_ok (num_ok h2)]
    exact endIt_ok h3
  | adopt k x =>
    cases h with
    | @cons _ t1 _ _ h1 h =>
    cases h with
    | @cons _ t2 _ _ h2 h =>
    cases h with
    | @cons _ t3 _ _ h3 h =>
    cases h with
    | @cons _ t4 _ _ h4 h =>
    cases h with
    | @cons _ t5 _ _ h5 h =>
    cases h
    show bnd (take _) _ (t1 :: t2 :: t3 :: t4 :: t5 :: R) = _
    rw [bnd_ok (lit_ok h1 m4), if_neg a1, if_neg a2, if_neg a3, if_pos rfl, bnd_ok (num_ok h2), bnd_ok (lit_ok h3 (List.mem_singleton.mpr rfl)), bnd_ok (name_ok h4)]
    exact endIt_ok h5
  | move o x =>
    cases h with
    | @cons _ t1 _ _ h1 h =>
    cases h with
    | @cons _ t2 _ _ h2 h =>
    cases h with
    | @cons _ t3 _ _ h3 h =>
    cases h with
    | @cons _ t4 _ _ h4 h =>
    cases h with
    | @cons _ t5 _ _ h5 h =>
    cases h
    show bnd (take _) _ (t1 :: t2 :: t3 :: t4 :: t5 :: R) = _
    rw [bnd_ok (lit_ok h1 m5), if_neg v1, if_neg v2, if_neg v3, if_neg v4, bnd_ok (name_ok h2), bnd_ok (lit_ok h3 (List.mem_singleton.mpr rfl)), bnd_ok (name_ok h4)]
    exact endIt_ok h5
/-- an item's first token -/
theorem item_ahead {i : Im} {ts r : List Tok} (h : ItemT i ts) : aheadS (ts ++ r) ∈ (["thing", "keep", "most", "adopt", "move"] : List Str) := by
  cases i with
  | thing nm c kn vs =>
    obtain ⟨t0, t1, x, t2, t3, t4, y, z, rfl, h0, _⟩ := h
    show t0.form ∈ _
    rw [h0.1]; decide +kernel
  | keep x => cases h with | @cons _ t1 _ _ h1 h => show t1.form ∈ _; rw [h1.1]; decide +kernel
  | most k => cases h with | @cons _ t1 _ _ h1 h => show t1.form ∈ _; rw [h1.1]; decide +kernel
  | adopt k x => cases h with | @cons _ t1 _ _ h1 h => show t1.form ∈ _; rw [h1.1]; decide +kernel
  | move o x => cases h with | @cons _ t1 _ _ h1 h => show t1.form ∈ _; rw [h1.1]; decide +kernel
def TreeT (T : LB.Tree) (ts : List Tok) : Prop := ∃ x y, ts = x ++ y ∧ Cat KindT T.kinds x ∧ Cat ItemT T.items y
/-- the tokens of a tree are read as the tree -/
theorem tree_ok {T : LB.Tree} {n : Nat} {ts : List Tok} (hn : 10 < n) (hk : T.kinds.length < n) (hi : T.items.length < n) (hf : ∀ k ∈ T.kinds, k.fields.length < n) (h : TreeT T ts) : tree n ts = .ok T [] := by
  obtain ⟨x, y, rfl, hx, hy⟩ := h
  have i0 : ∀ s ∈ (["thing", "keep", "most", "adopt", "move"] : List Str), ¬ s = ("kind" : Str) := by decide +kernel
  have i1 : ∀ s ∈ (["thing", "keep", "most", "adopt", "move"] : List Str), ¬ s = ("" : Str) := by decide +kernel
  have hR : decide (aheadS y = ("kind" : Str)) = false := by
    obtain ⟨kinds, items⟩ := T
    cases hy with
    | nil => decide +kernel
    | @cons a as u v hu hv => exact decide_eq_false (i0 _ (item_ahead hu))
  have hE : (!decide (aheadS [] = ("" : Str))) = false := by decide +kernel
  show bnd (while_ "kind" (kind n) n) _ _ = _
  rw [bnd_ok (lp_ok (T := KindT) hR T.kinds n x hk (fun k hkm u r hu => ⟨decide_eq_true (kind_ahead hu), kind_ok hn (hf k hkm) hu⟩) hx)]
  have e := lp_ok (c := fun a => !decide (a = "")) (T := ItemT) hE T.items n y hi (fun i _ u r hu => ⟨by rw [decide_eq_false (i1 _ (item_ahead hu))]; rfl, item_ok hn hu⟩) hy
  rw [List.append_nil] at e
  rw [bnd_ok e]
  rfl
end PM
/-! The tokens of a text that is built of gaps and words (for laws that write their trees themselves). -/
namespace LB
open PySem
def gaps : List (List Nat) := [[32], [], [10], [32, 33, 32, 110, 111, 116, 101, 32, 125, 10]]
theorem gaps_eq : gaps = [(Str.ofString " ").cps.toList, (Str.ofString "").cps.toList, (Str.ofString "\n").cps.toList, (Str.ofString " ! note }\n").cps.toList] := by decide +kernel
def build : List (List Nat × List Nat) → List Nat
  | [] => []
  | p :: r => p.1 ++ p.2 ++ build r
theorem build_snoc : ∀ (ps : List (List Nat × List Nat)) (g x : List Nat), build (ps ++ [(g, x)]) = build ps ++ g ++ x
  | [], g, x => by simp [build]
  | p :: r, g, x => by
    show p.1 ++ p.2 ++ build (r ++ [(g, x)]) = p.1 ++ p.2 ++ build r ++ g ++ x
    rw [build_snoc r g x]
    simp [List.append_assoc]
theorem toks_gap {iw : List Nat → Bool} {g : List Nat} (hg : g ∈ gaps) (i : Nat) (x : List Nat) : Tk.toks iw i (g ++ x) = Tk.toks iw (i + g.length) x := by
  have h32 : Tk.blank 32 = true := rfl
  have h10 : Tk.blank 10 = true := rfl
  simp only [gaps, List.mem_cons, List.not_mem_nil, or_false] at hg
  rcases hg with rfl | rfl | rfl | rfl
  · exact Tk.toks_blank h32
  · rfl
  · exact Tk.toks_blank h10
  · show Tk.toks iw i (32 :: 33 :: ([32, 110, 111, 116, 101, 32, 125, 10] ++ x)) = _
    rw [Tk.toks_blank h32, Tk.toks_note rfl]
    have hr : Tk.run Tk.notNl ([32, 110, 111, 116, 101, 32, 125, 10] ++ x) = 7 := by
      simp [Tk.run, Tk.notNl]
    rw [hr]
    show Tk.toks iw (i + 1 + 1 + 7) (10 :: x) = _
    rw [Tk.toks_blank h10]
    rfl
/-- a word that is one token: its first sign goes on to its end -/
structure Word (x : List Nat) : Prop where
  hd : ∃ c r, x = c :: r ∧ Tk.blank c = false ∧ c ≠ 33 ∧ ∀ d ∈ r, Tk.going c d = true
/-- what may follow a word at once -/
def Stops (x y : List Nat) : Prop := ∀ c r d z, x = c :: r → y = d :: z → Tk.going c d = false
theorem run_word {p : Nat → Bool} : ∀ {r y : List Nat}, (∀ d ∈ r, p d = true) → (∀ d z, y = d :: z → p d = false) → Tk.run p (r ++ y) = r.length
  | [], [], _, _ => rfl
  | [], d :: z, _, h => by
    show Tk.run p (d :: z) = 0
    simp [Tk.run, h d z rfl]
  | d :: r, y, h1, h2 => by
    show Tk.run p (d :: (r ++ y)) = r.length + 1
    have hd := h1 d List.mem_cons_self
    have ih := run_word (r := r) (y := y) (fun e he => h1 e (List.mem_cons_of_mem _ he)) h2
    simp [Tk.run, hd, ih]
theorem toks_word {iw : List Nat → Bool} {x y : List Nat} (hw : Word x) (hs : Stops x y) (i : Nat) : Tk.toks iw i (x ++ y) = (Tk.sortOf iw x, i, i + x.length) :: Tk.toks iw (i + x.length) y := by
  obtain ⟨c, r, rfl, hb, h33, hr⟩ := hw.hd
  have hrun : Tk.run (Tk.going c) (r ++ y) = r.length := run_word hr fun d z e => hs c r d z rfl e
  show Tk.toks iw i (c :: (r ++ y)) = _
  rw [Tk.toks_tok hb h33]
  unfold Tk.tokLen
  rw [hrun]
  have e1 : (c :: (r ++ y)).take (r.length + 1) = c :: r := by simp
  have e2 : (r ++ y).drop r.length = y := by simp
  rw [e1, e2]
  rfl
/-- gaps and words one behind the other -/
inductive Chain : List (List Nat × List Nat) → Prop where
  | nil : Chain []
  | cons {g x : List Nat} {r : List (List Nat × List Nat)} : g ∈ gaps → Word x → Stops x (build r) → Chain r → Chain ((g, x) :: r)
/-- the tokens: sort, place, end -/
def chainT (iw : List Nat → Bool) : Nat → List (List Nat × List Nat) → List (Tk.Srt × Nat × Nat)
  | _, [] => []
  | i, p :: r => (Tk.sortOf iw p.2, i + p.1.length, i + p.1.length + p.2.length) :: chainT iw (i + p.1.length + p.2.length) r
theorem toks_chain {iw : List Nat → Bool} : ∀ {ps : List (List Nat × List Nat)} (i : Nat), Chain ps → Tk.toks iw i (build ps) = chainT iw i ps
  | [], i, _ => Tk.toks_nil
  | (g, x) :: r, i, h => by
    cases h with
    | cons hg hw hs hr =>
      show Tk.toks iw i (g ++ x ++ build r) = _
      rw [List.append_assoc, toks_gap hg, toks_word hw hs, toks_chain _ hr]
      rfl
theorem toksL_chain {ps : List (List Nat × List Nat)} (h : Chain ps) : toksL (build ps) = chainT isWord 0 ps := toks_chain 0 h
end LB
/-! Texts that are built of a tree's words: their tokens are the tree's. -/
namespace LB
open PySem PM
abbrev cds (s : Str) : List Nat := s.cps.toList
abbrev decS (n : Int) : Str := Str.ofString (toString n)
/-- a token is this word -/
def TF (s : Str) (t : PM.Tok) : Prop := t.text = cds s ∧ t.kd = Tk.sortOf isWord (cds s)
inductive TFs : List Str → List PM.Tok → Prop where
  | nil : TFs [] []
  | cons {s : Str} {t : PM.Tok} {ss : List Str} {ts : List PM.Tok} : TF s t → TFs ss ts → TFs (s :: ss) (t :: ts)
theorem TFs.split : ∀ {a b : List Str} {ts : List PM.Tok}, TFs (a ++ b) ts → ∃ x y, ts = x ++ y ∧ TFs a x ∧ TFs b y
  | [], b, ts, h => ⟨[], ts, rfl, .nil, h⟩
  | w :: a, b, _, h => by
    cases h with
    | cons h1 h2 =>
      obtain ⟨x, y, rfl, hx, hy⟩ := TFs.split h2
      exact ⟨_ :: x, y, rfl, .cons h1 hx, hy⟩
theorem TF.str {s : Str} {t : PM.Tok} (h : TF s t) : t.str = s := by
  unfold PM.Tok.str
  rw [h.1]
def isName (s : Str) : Bool := decide (Tk.sortOf isWord (cds s) = .name)
def isLit (s : Str) : Bool := !decide (Tk.sortOf isWord (cds s) = .name) && !decide (Tk.sortOf isWord (cds s) = .number)
def numOk (n : Int) : Bool := decide (Tk.sortOf isWord (cds (decS n)) = .number) && decide (numV (cds (decS n)) = n)
theorem TF.name {s : Str} {t : PM.Tok} (h : TF s t) (k : isName s = true) : wName s t := by
  refine ⟨?_, h.str⟩
  have k := of_decide_eq_true k
  unfold PM.Tok.form
  rw [h.2, k]
theorem TF.lit {s : Str} {t : PM.Tok} (h : TF s t) (k : isLit s = true) : wLit s t := by
  refine ⟨?_, h.str⟩
  unfold isLit at k
  unfold PM.Tok.form
  rw [h.2]
  generalize Tk.sortOf isWord (cds s) = x at k
  cases x with
  | name => exact absurd k (by decide)
  | number => exact absurd k (by decide)
  | word => exact h.str
  | sign => exact h.str
  | wrong => exact h.str
theorem TF.num {n : Int} {t : PM.Tok} (h : TF (decS n) t) (k : numOk n = true) : wNum n t := by
  unfold numOk at k
  rw [Bool.and_eq_true] at k
  refine ⟨?_, ?_⟩
  · unfold PM.Tok.form
    rw [h.2, of_decide_eq_true k.1]
  · rw [h.1]
    exact of_decide_eq_true k.2
/-- a word's token has this sort -/
def Sy (s : Str) (w : PM.W) : Prop := ∀ t, TF s t → w t
inductive Sys : List Str → List PM.W → Prop where
  | nil : Sys [] []
  | cons {s : Str} {w : PM.W} {ss : List Str} {ws : List PM.W} : Sy s w → Sys ss ws → Sys (s :: ss) (w :: ws)
theorem Sys.app : ∀ {a : List Str} {b : List PM.W} {c : List Str} {d : List PM.W}, Sys a b → Sys c d → Sys (a ++ c) (b ++ d)
  | _, _, _, _, .nil, h => h
  | _, _, _, _, .cons h1 h2, h => .cons h1 (Sys.app h2 h)
theorem Sys.are : ∀ {ss : List Str} {ws : List PM.W} {ts : List PM.Tok}, Sys ss ws → TFs ss ts → Are ws ts
  | _, _, _, .nil, h => by cases h; exact .nil
  | _, _, _, .cons h1 h2, h => by
    cases h with
    | cons a b => exact .cons (h1 _ a) (Sys.are h2 b)
/-! ### the words in use -/
def numS : List Int := [0, 1, 2, 3, 4, 5, 6, 7, 8, 4294967295]
def litW : List Str := wordL ++ (["{", "}", ":", ";", "=", "*", "+"] : List Str)
def nameW : List Str := namesL ++ kindL ++ fieldL ++ (["x"] : List Str)
def vocL : List Str := litW ++ nameW ++ numS.map decS ++ (["?"] : List Str)
def wordB : List Nat → Bool
  | [] => false
  | c :: r => !Tk.blank c && !decide (c = 33) && r.all fun d => Tk.going c d
theorem word_of {x : List Nat} (h : wordB x = true) : Word x := by
  cases x with
  | nil => cases h
  | cons c r =>
    unfold wordB at h
    simp only [Bool.and_eq_true, Bool.not_eq_true', decide_eq_false_iff_not, List.all_eq_true] at h
    exact ⟨c, r, rfl, h.1.1, h.1.2, h.2⟩
theorem voc_all : (vocL.all fun s => wordB (cds s) && decide (s.length ≤ 20)) = true := by decide +kernel
theorem voc_word {s : Str} (h : s ∈ vocL) : Word (cds s) := by
  have := List.all_eq_true.mp voc_all s h
  rw [Bool.and_eq_true] at this
  exact word_of this.1
theorem voc_len {s : Str} (h : s ∈ vocL) : s.length ≤ 20 := by
  have := List.all_eq_true.mp voc_all s h
  rw [Bool.and_eq_true] at this
  exact of_decide_eq_true this.2
theorem lit_all : (litW.all isLit) = true := by decide +kernel
theorem name_all : (nameW.all isName) = true := by decide +kernel
theorem num_all : (numS.all numOk) = true := by decide +kernel
theorem sy_lit {s : Str} (h : s ∈ litW) : Sy s (wLit s) := fun t ht => ht.lit (List.all_eq_true.mp lit_all s h)
theorem sy_name {s : Str} (h : s ∈ nameW) : Sy s (wName s) := fun t ht => ht.name (List.all_eq_true.mp name_all s h)
theorem sy_num {n : Int} (h : n ∈ numS) : Sy (decS n) (wNum n) := fun t ht => ht.num (List.all_eq_true.mp num_all n h)
theorem v_lit {s : Str} (h : s ∈ litW) : s ∈ vocL := List.mem_append_left _ (List.mem_append_left _ (List.mem_append_left _ h))
theorem v_name {s : Str} (h : s ∈ nameW) : s ∈ vocL := List.mem_append_left _ (List.mem_append_left _ (List.mem_append_right _ h))
theorem v_num {n : Int} (h : n ∈ numS) : decS n ∈ vocL := List.mem_append_left _ (List.mem_append_right _ (List.mem_map_of_mem h))
theorem nm_names {s : Str} (h : s ∈ namesL) : s ∈ nameW := List.mem_append_left _ (List.mem_append_left _ (List.mem_append_left _ h))
theorem nm_kind {s : Str} (h : s ∈ kindL) : s ∈ nameW := List.mem_append_left _ (List.mem_append_left _ (List.mem_append_right _ h))
theorem nm_field {s : Str} (h : s ∈ fieldL) : s ∈ nameW := List.mem_append_left _ (List.mem_append_right _ h)
theorem nm_target {s : Str} (h : s ∈ targetL) (hn : ¬ s = ("" : Str)) : s ∈ nameW := by
  have : ∀ s ∈ targetL, s = ("" : Str) ∨ s ∈ kindL := by decide +kernel
  exact nm_kind ((this s h).resolve_left hn)
theorem lw (s : Str) (h : s ∈ litW := by decide +kernel) : s ∈ litW := h
theorem num_numL {n : Int} (h : n ∈ numL) : n ∈ numS := by
  have : ∀ n ∈ numL, n ∈ numS := by decide +kernel
  exact this n h
theorem num_cnt {n : Int} {c : Option Int} (h : c ∈ cntL) (e : c = some n) : n ∈ numS := by
  have : ∀ c ∈ cntL, ∀ n, c = some n → n ∈ numS := by decide +kernel
  exact this c h n e
theorem num_small {n : Int} (h0 : 0 ≤ n) (h1 : n < 9) : n ∈ numS := by
  have : n = 0 ∨ n = 1 ∨ n = 2 ∨ n = 3 ∨ n = 4 ∨ n = 5 ∨ n = 6 ∨ n = 7 ∨ n = 8 := by omega
  rcases this with rfl | rfl | rfl | rfl | rfl | rfl | rfl | rfl | rfl <;> decide +kernel
/-! ### texts of words -/
def Bt (z : List Nat) (ws : List Str) : Prop := ∃ ps : List (List Nat × List Nat), z = build ps ∧ Chain ps ∧ ps.map (·.2) = ws.map cds
theorem Bt.nil : Bt [] [] := ⟨[], rfl, .nil, rfl⟩
theorem stops_nil {x : List Nat} : Stops x [] := fun c r d z _ h => by cases h
theorem word_ne {x : List Nat} (h : Word x) : ∃ c r, x = c :: r := by
  obtain ⟨c, r, e, _⟩ := h.hd
  exact ⟨c, r, e⟩
theorem chain_snoc : ∀ {ps : List (List Nat × List Nat)} {g x : List Nat}, Chain ps → g ∈ gaps → Word x → (∀ q p, ps = q ++ [p] → Stops p.2 (g ++ x)) → Chain (ps ++ [(g, x)])
  | [], g, x, _, hg, hw, _ => .cons hg hw stops_nil .nil
  | (g0, x0) :: r, g, x, h, hg, hw, hl => by
    cases h with
    | cons a b c d =>
      refine .cons a b ?_ (chain_snoc d hg hw fun q p e => hl ((g0, x0) :: q) p (by rw [e]; rfl))
      cases r with
      | nil =>
        have := hl [] (g0, x0) rfl
        show Stops x0 (g ++ x ++ [])
        rw [List.append_nil]
        exact this
      | cons p r =>
        obtain ⟨pg, px⟩ := p
        cases d with
        | cons _ hpx _ _ =>
          obtain ⟨c1, r1, e1⟩ := word_ne hpx
          intro u v w y hu hy
          have hy : pg ++ px ++ build (r ++ [(g, x)]) = w :: y := hy
          have : ∃ y', pg ++ px ++ build r = w :: y' := by
            subst e1
            cases pg with
            | nil =>
              have h1 : c1 :: (r1 ++ build (r ++ [(g, x)])) = w :: y := hy
              injection h1 with h1 _
              exact ⟨r1 ++ build r, by rw [← h1]; rfl⟩
            | cons b pg =>
              have h1 : b :: (pg ++ (c1 :: r1) ++ build (r ++ [(g, x)])) = w :: y := hy
              injection h1 with h1 _
              exact ⟨pg ++ (c1 :: r1) ++ build r, by rw [← h1]; rfl⟩
          obtain ⟨y', hy'⟩ := this
          exact c u v w y' hu hy'
theorem map_snoc {α β : Type} {f : α → β} {l : List α} {q : List β} {p : β} (h : l.map f = q ++ [p]) : ∃ u s, l = u ++ [s] ∧ f s = p := by
  rw [List.map_eq_append_iff] at h
  obtain ⟨u, v, rfl, _, hv⟩ := h
  cases v with
  | nil => cases hv
  | cons s v =>
    have hv : f s :: v.map f = [p] := hv
    injection hv with h1 h2
    cases v with
    | nil => exact ⟨u, s, rfl, h1⟩
    | cons _ _ => cases h2
theorem Bt.snoc {z g : List Nat} {ws : List Str} {s : Str} (h : Bt z ws) (hs : Word (cds s)) (hg : g ∈ gaps) (hl : ∀ u s', ws = u ++ [s'] → Stops (cds s') (g ++ cds s)) : Bt (z ++ g ++ cds s) (ws ++ [s]) := by
  obtain ⟨ps, rfl, hc, hm⟩ := h
  refine ⟨ps ++ [(g, cds s)], (build_snoc ps g (cds s)).symm, chain_snoc hc hg hs (fun q p e => ?_), by rw [List.map_append, List.map_append, hm]; rfl⟩
  rw [e, List.map_append] at hm
  obtain ⟨u, s', e', h'⟩ := map_snoc hm.symm
  have := hl u s' e'
  rw [h'] at this
  exact this
/-- the text ends with its last word -/
theorem Bt.last {z : List Nat} {ws : List Str} {s : Str} (h : Bt z (ws ++ [s])) : ∃ z0, z = z0 ++ cds s := by
  obtain ⟨ps, rfl, hc, hm⟩ := h
  rw [List.map_append] at hm
  obtain ⟨q, p, rfl, hp⟩ := map_snoc hm
  obtain ⟨g, x⟩ := p
  have hp : x = cds s := hp
  exact ⟨build q ++ g, by rw [build_snoc, hp]⟩
theorem going_blank (c : Nat) {d : Nat} (h : Tk.blank d = true) : Tk.going c d = false := by
  have hd : d = 32 ∨ d = 10 := by
    unfold Tk.blank at h
    simpa using h
  unfold Tk.going
  rcases hd with rfl | rfl
  · split
    · rfl
    · split <;> rfl
  · split
    · rfl
    · split <;> rfl
theorem stops_gap {x y g : List Nat} (hg : g ∈ gaps) (hn : g ≠ []) : Stops x (g ++ y) := by
  intro c r d z _ h
  refine going_blank c ?_
  simp only [gaps, List.mem_cons, List.not_mem_nil, or_false] at hg
  rcases hg with rfl | rfl | rfl | rfl
  · injection h with h _
    rw [← h]; rfl
  · exact absurd rfl hn
  · injection h with h _
    rw [← h]; rfl
  · injection h with h _
    rw [← h]; rfl
def plainC (d : Nat) : Bool := !Tk.inner d
theorem going_plain {c : Nat} (h1 : Tk.letter c = false) (h2 : Tk.digit c = false) (d : Nat) : Tk.going c d = false := by
  unfold Tk.going
  rw [h1, h2]
  rfl
/-- a word that ends with another sign than those of names and numbers goes on with nothing -/
theorem stops_end {x y z0 : List Nat} {d : Nat} (hw : Word x) (h : (z0 ++ x).getLast? = some d) (hd : Tk.inner d = false) : Stops x y := by
  obtain ⟨c, r, rfl, _, _, hr⟩ := hw.hd
  have hi : Tk.letter d = false ∧ Tk.digit d = false := by
    unfold Tk.inner at hd
    simp only [Bool.or_eq_false_iff] at hd
    exact hd.1
  have hm : d ∈ c :: r := by
    have : (z0 ++ c :: r).getLast? = (c :: r).getLast? := by
      rw [List.getLast?_append]
      cases e : (c :: r).getLast? with
      | none => exact absurd (List.getLast?_eq_none_iff.mp e) (by simp)
      | some v => rfl
    rw [this] at h
    exact List.mem_of_getLast? h
  have hc : Tk.letter c = false ∧ Tk.digit c = false := by
    rcases List.mem_cons.mp hm with rfl | hm
    · exact hi
    · have hg := hr d hm
      refine ⟨?_, ?_⟩
      · cases hL : Tk.letter c with
        | false => rfl
        | true =>
          have : Tk.going c d = Tk.inner d := by unfold Tk.going; rw [hL]; rfl
          rw [this, hd] at hg
          cases hg
      · cases hL : Tk.letter c with
        | true =>
          have : Tk.going c d = Tk.inner d := by unfold Tk.going; rw [hL]; rfl
          rw [this, hd] at hg
          cases hg
        | false =>
          cases hD : Tk.digit c with
          | false => rfl
          | true =>
            have : Tk.going c d = Tk.digit d := by unfold Tk.going; rw [hL, hD]; rfl
            rw [this, hi.2] at hg
            cases hg
  intro c' r' d' z' e _
  injection e with e _
  rw [← e]
  exact going_plain hc.1 hc.2 d'
/-- the law's own putting of a word -/
theorem Bt.put {z g : List Nat} {ws : List Str} {s : Str} (h : Bt z ws) (hv : ∀ w ∈ ws, w ∈ vocL) (hs : s ∈ vocL) (hg : g ∈ gaps) (hn : g = [] → z = [] ∨ ∃ d, z.getLast? = some d ∧ Tk.inner d = false) : Bt (z ++ g ++ cds s) (ws ++ [s]) := by
  refine h.snoc (voc_word hs) hg fun u s' e => ?_
  by_cases hge : g = []
  · subst e
    obtain ⟨z0, hz⟩ := h.last
    have hw := voc_word (hv s' (by simp))
    rcases hn hge with hz' | ⟨d, hd, hi⟩
    · rw [hz] at hz'
      obtain ⟨c, r, e⟩ := word_ne hw
      rw [e] at hz'
      simp at hz'
    · rw [hz] at hd
      exact stops_end hw hd hi
  · exact stops_gap hg hge
/-! ### their tokens -/
theorem chainT_app {iw : List Nat → Bool} : ∀ (a b : List (List Nat × List Nat)) (i : Nat), chainT iw i (a ++ b) = chainT iw i a ++ chainT iw (i + (build a).length) b
  | [], b, i => by simp [chainT, build]
  | p :: a, b, i => by
    show _ :: chainT iw _ (a ++ b) = _ :: chainT iw _ a ++ _
    rw [chainT_app a b]
    have : i + p.1.length + p.2.length + (build a).length = i + (build (p :: a)).length := by
      show _ = i + (p.1 ++ p.2 ++ build a).length
      rw [List.length_append, List.length_append]
      omega
    rw [this]
    rfl
theorem chain_tf : ∀ (ps : List (List Nat × List Nat)) (ws : List Str) (pre post : List Nat), ps.map (·.2) = ws.map cds → TFs ws ((chainT isWord pre.length ps).map (tokOf (pre ++ build ps ++ post)))
  | [], ws, pre, post, h => by
    cases ws with
    | nil => exact .nil
    | cons _ _ => cases h
  | (g, x) :: r, ws, pre, post, h => by
    cases ws with
    | nil => cases h
    | cons s ws =>
      have h : x :: r.map (·.2) = cds s :: ws.map cds := h
      injection h with h1 h2
      have e : pre ++ build ((g, x) :: r) ++ post = (pre ++ g ++ x) ++ build r ++ post := by
        show pre ++ (g ++ x ++ build r) ++ post = _
        simp [List.append_assoc]
      rw [e]
      have hp : Tk.piece ((pre ++ g ++ x) ++ build r ++ post) (pre.length + g.length) (pre.length + g.length + x.length) = x := by
        unfold Tk.piece
        have e2 : (pre ++ g ++ x) ++ build r ++ post = (pre ++ g) ++ (x ++ (build r ++ post)) := by simp [List.append_assoc]
        rw [e2, List.drop_left' (by rw [List.length_append])]
        have e3 : pre.length + g.length + x.length - (pre.length + g.length) = x.length := by omega
        rw [e3, List.take_left' rfl]
      refine .cons ⟨?_, ?_⟩ ?_
      · show Tk.piece _ _ _ = _
        rw [hp, h1]
      · show Tk.sortOf isWord x = _
        rw [h1]
      · have ih := chain_tf r ws (pre ++ g ++ x) post h2
        have el : (pre ++ g ++ x).length = pre.length + g.length + x.length := by rw [List.length_append, List.length_append]
        rw [el] at ih
        exact ih
theorem ts_zero {l : List Nat} : ts l 0 = (toksL l).map (tokOf l) := rfl
theorem ts_bt {z : List Nat} {ws : List Str} (h : Bt z ws) : TFs ws (ts z 0) := by
  obtain ⟨ps, rfl, hc, hm⟩ := h
  rw [ts_zero, toksL_chain hc]
  have := chain_tf ps ws [] [] hm
  simpa using this
/-- one word more, behind a blank -/
theorem ts_more {z : List Nat} {ws : List Str} {s : Str} (h : Bt z ws) (hs : Word (cds s)) : ∃ A t, ts (z ++ [32] ++ cds s) 0 = A ++ [t] ∧ TFs ws A ∧ TF s t ∧ t.start = z.length + 1 := by
  obtain ⟨ps, rfl, hc, hm⟩ := h
  have hg : ([32] : List Nat) ∈ gaps := by decide
  have hc2 : Chain (ps ++ [([32], cds s)]) := chain_snoc hc hg hs fun q p _ => stops_gap hg (by decide)
  have e : build ps ++ [32] ++ cds s = build (ps ++ [([32], cds s)]) := (build_snoc _ _ _).symm
  rw [ts_zero, e, toksL_chain hc2, chainT_app, List.map_append]
  have a := chain_tf ps ws [] ([32] ++ cds s) hm
  have e2 : [] ++ build ps ++ ([32] ++ cds s) = build (ps ++ [([32], cds s)]) := by rw [← e]; simp
  rw [e2] at a
  have b := chain_tf [([32], cds s)] [s] (build ps) [] rfl
  have e3 : build ps ++ build [([32], cds s)] ++ [] = build (ps ++ [([32], cds s)]) := by rw [← e]; simp [build]
  rw [e3] at b
  rw [Nat.zero_add]
  cases b with
  | cons b1 b2 => exact ⟨_, _, rfl, a, b1, rfl⟩
theorem end_more {z : List Nat} {ws : List Str} {s r : Str} (h : Bt z ws) (hs : Word (cds s)) (hr : Word (cds r)) : Bt (z ++ [32] ++ cds s ++ [32] ++ cds r) (ws ++ [s] ++ [r]) ∧ endOf (z ++ [32] ++ cds s ++ [32] ++ cds r) = z.length + 1 + (cds s).length + 1 + (cds r).length := by
  have hg : ([32] : List Nat) ∈ gaps := by decide
  have h1 : Bt (z ++ [32] ++ cds s) (ws ++ [s]) := h.snoc hs hg fun _ _ _ => stops_gap hg (by decide)
  refine ⟨h1.snoc hr hg fun _ _ _ => stops_gap hg (by decide), ?_⟩
  obtain ⟨ps, e0, hc, hm⟩ := h1
  have hc2 : Chain (ps ++ [([32], cds r)]) := chain_snoc hc hg hr fun q p _ => stops_gap hg (by decide)
  have e : z ++ [32] ++ cds s ++ [32] ++ cds r = build (ps ++ [([32], cds r)]) := by rw [build_snoc, ← e0]
  unfold endOf
  rw [e, toksL_chain hc2, chainT_app]
  have el : (build ps).length = z.length + 1 + (cds s).length := by rw [← e0, List.length_append, List.length_append]; rfl
  rw [el]
  have e5 : ∀ x : List Nat, ((chainT isWord 0 ps ++ chainT isWord (0 + (z.length + 1 + (cds s).length)) [([32], x)]).getLast?) = some (Tk.sortOf isWord x, 0 + (z.length + 1 + (cds s).length) + 1, 0 + (z.length + 1 + (cds s).length) + 1 + x.length) := fun x => by
    rw [List.getLast?_append]
    rfl
  rw [e5]
  show 0 + (z.length + 1 + (cds s).length) + 1 + (cds r).length = _
  omega
/-! ### what the words tell -/
def Tells (P : List PM.Tok → Prop) (ws : List Str) : Prop := ∀ ts, TFs ws ts → P ts
theorem Tells.cat_nil {α : Type} {T : α → List PM.Tok → Prop} : Tells (Cat T []) [] := fun ts h => by
  cases h
  exact .nil
theorem Tells.cat_snoc {α : Type} {T : α → List PM.Tok → Prop} {as : List α} {x : α} {a b : List Str} (h1 : Tells (Cat T as) a) (h2 : Tells (T x) b) : Tells (Cat T (as ++ [x])) (a ++ b) := fun ts h => by
  obtain ⟨u, v, rfl, hu, hv⟩ := TFs.split h
  exact (h1 u hu).snoc (h2 v hv)
theorem Tells.sys {ss : List Str} {ws : List PM.W} (h : Sys ss ws) : Tells (Are ws) ss := fun ts ht => h.are ht
theorem marks_self {m : List Str} (h : m.Sublist markL) : marksOf m = m := by
  unfold markL at h
  have key : ∀ m ∈ ([[], ["single"], ["fixed"], ["fixed", "single"], ["empty"], ["empty", "single"], ["empty", "fixed"], ["empty", "fixed", "single"]] : List (List Str)), marksOf m = m := by decide +kernel
  refine key m ?_
  cases h with
  | cons _ h =>
    cases h with
    | cons _ h =>
      cases h with
      | cons _ h => cases h; simp
      | cons_cons _ h => cases h; simp
    | cons_cons _ h =>
      cases h with
      | cons _ h => cases h; simp
      | cons_cons _ h => cases h; simp
  | cons_cons _ h =>
    cases h with
    | cons _ h =>
      cases h with
      | cons _ h => cases h; simp
      | cons_cons _ h => cases h; simp
    | cons_cons _ h =>
      cases h with
      | cons _ h => cases h; simp
      | cons_cons _ h => cases h; simp
theorem marks_of {ms m : List Str} (h : m.Sublist markL) (e : ∀ x, x ∈ ms ↔ x ∈ m) : marksOf ms = m := by
  have h2 := marks_self h
  unfold marksOf at h2 ⊢
  have : (fun x : Str => decide (x ∈ ms)) = fun x => decide (x ∈ m) := funext fun x => decide_eq_decide.mpr (e x)
  rw [this]
  exact h2
theorem mark_lit {s : Str} (h : s ∈ markL) : s ∈ litW := by
  have : ∀ s ∈ markL, s ∈ litW := by decide +kernel
  exact this s h
theorem mark_three {s : Str} (h : s ∈ markL) : s ∈ (["fixed", "empty", "single"] : List Str) := by
  have : ∀ s ∈ markL, s ∈ (["fixed", "empty", "single"] : List Str) := by decide +kernel
  exact this s h
def sortWs (g : Str) : List Str := if g = ("" : Str) then ["number"] else ["ref", g]
theorem cat_marks : ∀ {ms : List Str} {ts : List PM.Tok}, (∀ s ∈ ms, s ∈ markL) → TFs ms ts → Cat (fun s t => Are [wLit s] t) ms ts
  | [], _, _, h => by cases h; exact .nil
  | m :: ms, _, hm, h => by
    cases h with
    | @cons _ t _ ts a b =>
      have c := cat_marks (fun s hs => hm s (List.mem_cons_of_mem _ hs)) b
      have d : Are [wLit m] [t] := .cons (sy_lit (mark_lit (hm m List.mem_cons_self)) t a) .nil
      exact Cat.cons (T := fun s t => Are [wLit s] t) d c
theorem Tells.field {f : Fd} {ms : List Str} (hf : f.ok) (hl : ms.length ≤ 10) (e : ∀ x, x ∈ ms ↔ x ∈ f.marks) : Tells (FieldT f) (([f.name, ":"] : List Str) ++ sortWs f.target ++ ms ++ ([";"] : List Str)) := fun ts h => by
  obtain ⟨u, w, rfl, hu, hw⟩ := TFs.split h
  obtain ⟨v, y, rfl, hv, hy⟩ := TFs.split hu
  have hsub : ∀ s ∈ ms, s ∈ markL := fun s hs => hf.marks.subset ((e s).mp hs)
  cases hw with
  | @cons _ z _ _ h1 h2 =>
  cases h2
  refine ⟨ms, v, y, z, rfl, ?_, cat_marks hsub hy, sy_lit (lw ";") z h1, fun s hs => mark_three (hsub s hs), hl, marks_of hf.marks e⟩
  refine Sys.are ?_ hv
  unfold fieldW sortWs
  refine Sys.app (.cons (sy_name (nm_field hf.name)) (.cons (sy_lit (lw ":")) .nil)) ?_
  by_cases hg : f.target = ("" : Str)
  · rw [if_pos hg, if_pos hg]
    exact .cons (sy_lit (lw "number")) .nil
  · rw [if_neg hg, if_neg hg]
    exact .cons (sy_lit (lw "ref")) (.cons (sy_name (nm_target hf.target hg)) .nil)
theorem Tells.kind {k : Kd} {fs : List Str} (hk : k.name ∈ kindL) (h : Tells (Cat FieldT k.fields) fs) : Tells (KindT k) ((["kind", k.name, "{"] : List Str) ++ fs ++ (["}"] : List Str)) := fun ts ht => by
  obtain ⟨u, w, rfl, hu, hw⟩ := TFs.split ht
  obtain ⟨v, y, rfl, hv, hy⟩ := TFs.split hu
  cases hw with
  | @cons _ z _ _ h1 h2 =>
  cases h2
  exact ⟨v, y, z, rfl, Sys.are (.cons (sy_lit (lw "kind")) (.cons (sy_name (nm_kind hk)) (.cons (sy_lit (lw "{")) .nil))) hv, h y hy, sy_lit (lw "}") z h1⟩
theorem Tells.pair {p : Str × Vl} {ss : List Str} (hf : p.1 ∈ fieldL) (h : Sys ss (valW p.2)) : Tells (Are (pairW p)) (([p.1, "="] : List Str) ++ ss ++ ([";"] : List Str)) :=
  Tells.sys (by
    unfold pairW
    rw [List.append_assoc]
    exact Sys.app (.cons (sy_name (nm_field hf)) (.cons (sy_lit (lw "=")) .nil)) (Sys.app h (.cons (sy_lit (lw ";")) .nil)))
theorem Tells.thing {nm kn : Str} {c : Option Int} {vs : List (Str × Vl)} {cws vws : List Str} (h : (Im.thing nm c kn vs).ok) (hc : Sys cws (cntW c)) (hv : Tells (Cat (fun p t => Are (pairW p) t) vs) vws) : Tells (ItemT (.thing nm c kn vs)) ((["thing", nm] : List Str) ++ cws ++ ([":", kn, "{"] : List Str) ++ vws ++ (["}"] : List Str)) := fun ts ht => by
  obtain ⟨h1, _, h3, h4, h5⟩ := h
  obtain ⟨a, t5, rfl, ha, ht5⟩ := TFs.split ht
  obtain ⟨b, y, rfl, hb, hy⟩ := TFs.split ha
  obtain ⟨d, t3, rfl, hd, ht3⟩ := TFs.split hb
  obtain ⟨t1, x, rfl, ht1, hx⟩ := TFs.split hd
  cases ht1 with
  | @cons _ p0 _ _ a0 ht1 =>
  cases ht1 with
  | @cons _ p1 _ _ a1 ht1 =>
  cases ht1
  cases ht3 with
  | @cons _ p2 _ _ a2 ht3 =>
  cases ht3 with
  | @cons _ p3 _ _ a3 ht3 =>
  cases ht3 with
  | @cons _ p4 _ _ a4 ht3 =>
  cases ht3
  cases ht5 with
  | @cons _ z _ _ a5 ht5 =>
  cases ht5
  refine ⟨p0, p1, x, p2, p3, p4, y, z, by simp, sy_lit (lw "thing") _ a0, sy_name (nm_names h1) _ a1, hc.are hx, sy_lit (lw ":") _ a2, sy_name (nm_kind h3) _ a3, sy_lit (lw "{") _ a4, hv y hy, sy_lit (lw "}") _ a5, fun p hp => ?_, by omega⟩
  have := (h4 p hp).2
  cases e : p.2 with
  | number n => exact True.intro
  | none => exact True.intro
  | name s => exact True.intro
  | index n => rw [e] at this; exact this.1
  | told s n => rw [e] at this; exact this.2.1
theorem Tells.keep {x : Str} (h : x ∈ namesL) : Tells (ItemT (.keep x)) ["keep", x, ";"] := Tells.sys (.cons (sy_lit (lw "keep")) (.cons (sy_name (nm_names h)) (.cons (sy_lit (lw ";")) .nil)))
theorem Tells.most {n : Int} (h : n ∈ numS) : Tells (ItemT (.most n)) ["most", decS n, ";"] := Tells.sys (.cons (sy_lit (lw "most")) (.cons (sy_num h) (.cons (sy_lit (lw ";")) .nil)))
theorem Tells.adopt {n : Int} {x : Str} (h : n ∈ numS) (hx : x ∈ namesL) : Tells (ItemT (.adopt n x)) ["adopt", decS n, "as", x, ";"] := Tells.sys (.cons (sy_lit (lw "adopt")) (.cons (sy_num h) (.cons (sy_lit (lw "as")) (.cons (sy_name (nm_names hx)) (.cons (sy_lit (lw ";")) .nil)))))
theorem Tells.move {x y : Str} (h : x ∈ namesL) (hy : y ∈ namesL) : Tells (ItemT (.move x y)) ["move", x, "to", y, ";"] := Tells.sys (.cons (sy_lit (lw "move")) (.cons (sy_name (nm_names h)) (.cons (sy_lit (lw "to")) (.cons (sy_name (nm_names hy)) (.cons (sy_lit (lw ";")) .nil)))))
theorem Tells.tree {T : LB.Tree} {a b : List Str} (h1 : Tells (Cat KindT T.kinds) a) (h2 : Tells (Cat ItemT T.items) b) : Tells (TreeT T) (a ++ b) := fun ts h => by
  obtain ⟨u, v, rfl, hu, hv⟩ := TFs.split h
  exact ⟨u, v, rfl, h1 u hu, h2 v hv⟩
end LB
namespace PM
open PySem LB
theorem lp_bad {α : Type} {c : Str → Bool} {p : Pr α} {T : α → List Tok → Prop} {R R' : List Tok} (hc : c (aheadS R) = true) (hR : p R = .bad R') :
    ∀ (as : List α) (n : Nat) (ts : List Tok), as.length < n → (∀ a ∈ as, ∀ x r, T a x → c (aheadS (x ++ r)) = true ∧ p (x ++ r) = .ok a r) → Cat T as ts → lp c p n (ts ++ R) = .bad R'
  | [], n, ts, hn, _, h => by
    obtain ⟨m, rfl⟩ : ∃ m, n = m + 1 := ⟨n - 1, by simp at hn; omega⟩
    cases h
    show bnd ahead _ _ = _
    rw [ahead_ok]
    have : ([] ++ R : List Tok) = R := rfl
    rw [this, hc, if_pos rfl]
    unfold bnd
    rw [hR]
  | a :: as, n, ts, hn, hp, h => by
    obtain ⟨m, rfl⟩ : ∃ m, n = m + 1 := ⟨n - 1, by simp at hn; omega⟩
    cases h with
    | @cons _ _ x y hx hy =>
    have h1 := hp a List.mem_cons_self x (y ++ R) hx
    show bnd ahead _ _ = _
    rw [ahead_ok, List.append_assoc, h1.1, if_pos rfl, bnd_ok h1.2]
    have ih := lp_bad hc hR as m y (by simp at hn; omega) (fun b hb => hp b (List.mem_cons_of_mem _ hb)) hy
    unfold bnd
    rw [ih]
/-- more tokens that fit nowhere -/
theorem tree_bad {T : LB.Tree} {n : Nat} {ts R R' : List Tok} (hn : 10 < n) (hk : T.kinds.length < n) (hi : T.items.length < n) (hf : ∀ k ∈ T.kinds, k.fields.length < n) (h : TreeT T ts) (r1 : ¬ aheadS R = ("kind" : Str)) (r2 : ¬ aheadS R = ("" : Str)) (hR : item n R = .bad R') : tree n (ts ++ R) = .bad R' := by
  obtain ⟨x, y, rfl, hx, hy⟩ := h
  have i0 : ∀ s ∈ (["thing", "keep", "most", "adopt", "move"] : List Str), ¬ s = ("kind" : Str) := by decide +kernel
  have i1 : ∀ s ∈ (["thing", "keep", "most", "adopt", "move"] : List Str), ¬ s = ("" : Str) := by decide +kernel
  have hRk : decide (aheadS (y ++ R) = ("kind" : Str)) = false := by
    obtain ⟨kinds, items⟩ := T
    cases hy with
    | nil => exact decide_eq_false r1
    | @cons a as u v hu hv =>
      rw [List.append_assoc]
      exact decide_eq_false (i0 _ (item_ahead hu))
  show bnd (while_ "kind" (kind n) n) _ _ = _
  rw [List.append_assoc, bnd_ok (lp_ok (T := KindT) hRk T.kinds n x hk (fun k hkm u r hu => ⟨decide_eq_true (kind_ahead hu), kind_ok hn (hf k hkm) hu⟩) hx)]
  have e := lp_bad (c := fun a => !decide (a = "")) (T := ItemT) (by rw [decide_eq_false r2]; rfl) hR T.items n y hi (fun i _ u r hu => ⟨by rw [decide_eq_false (i1 _ (item_ahead hu))]; rfl, item_ok hn hu⟩) hy
  have e2 : until_ "" (item n) n (y ++ R) = .bad R' := e
  unfold bnd
  rw [e2]
theorem item_bad {n : Nat} {t : Tok} (h : t.form ∉ (["thing", "keep", "most", "adopt", "move"] : List Str)) : item n [t] = .bad [t] := by
  show bnd (bnd (tok _) _) _ _ = _
  have e : tok ["thing", "keep", "most", "adopt", "move"] [t] = .bad [t] := by simp [tok] ; simpa using h
  unfold bnd
  rw [e]
theorem item_cut {n : Nat} {t u : Tok} {s : Str} (h : wLit "keep" t) (hu : wName s u) : item n [t, u] = .bad [] := by
  have m2 : ("keep" : Str) ∈ (["thing", "keep", "most", "adopt", "move"] : List Str) := by decide +kernel
  have k1 : ¬ ("keep" : Str) = ("thing" : Str) := by decide +kernel
  show bnd (take _) _ _ = _
  rw [bnd_ok (lit_ok h m2), if_neg k1, if_pos rfl, bnd_ok (name_ok hu)]
  rfl
end PM
/-! Texts that are put together: their words. -/
namespace LB
open PySem PySem.Spec PyProof.Rows L2
def BtV (z : List Nat) (ws : List Str) : Prop := Bt z ws ∧ ∀ w ∈ ws, w ∈ vocL
theorem BtV.nil : BtV [] [] := ⟨.nil, fun _ h => absurd h List.not_mem_nil⟩
theorem BtV.put {z g : List Nat} {ws : List Str} {s : Str} (h : BtV z ws) (hs : s ∈ vocL) (hg : g ∈ gaps) (hn : g = [] → z = [] ∨ ∃ d, z.getLast? = some d ∧ Tk.inner d = false) : BtV (z ++ g ++ cds s) (ws ++ [s]) :=
  ⟨h.1.put h.2 hs hg hn, fun w hw => (List.mem_append.mp hw).elim (h.2 w) fun hw => by rw [List.mem_singleton.mp hw]; exact hs⟩
def spPut2 : Sp := fun vs H Q _ => ∃ (t c : Addr) (cs : List Int) (S : List Addr) (o : Addr) (z : List Nat) (ws : List Str) (s : Str), vs = [.ref t, .ref o, .str s] ∧ PS t c cs S o z H ∧ BtV z ws ∧ s ∈ vocL ∧ z.length ≤ 40000 ∧
  ∀ (z' : List Nat) (H' : Hp), z'.length ≤ z.length + 30 → BtV z' (ws ++ [s]) → PS t c cs S o z' H' → Out [t, o] H H' → Q .non H'
def spPutAll2 : Sp := fun vs H Q _ => ∃ (t c : Addr) (cs : List Int) (S : List Addr) (o l : Addr) (z : List Nat) (ws ss : List Str), vs = [.ref t, .ref o, .ref l] ∧ PS t c cs S o z H ∧ BtV z ws ∧ H l = some (.lst (ss.map V.str)) ∧ (∀ s ∈ ss, s ∈ vocL) ∧ z.length + 30 * ss.length ≤ 40000 ∧
  ∀ (z' : List Nat) (H' : Hp), z'.length ≤ z.length + 30 * ss.length → BtV z' (ws ++ ss) → PS t c cs S o z' H' → Out [t, o] H H' → Q .non H'
def spWords2 (K : PySem.W.Frag) : Sp := fun vs H Q _ => ∃ (v : V) (x : Vl), vs = [v] ∧ x.ok namesL ∧ Dp K H v x.d ∧
  ∀ (l : Addr) (ss : List Str) (H' : Hp), ss.length ≤ 4 → (∀ s ∈ ss, s ∈ vocL) → Sys ss (PM.valW x) → Same H H' → H l = none → H' l = some (.lst (ss.map V.str)) → Q (.ref l) H'
def spPutTree2 (K : PySem.W.Frag) : Sp := fun vs H Q _ => ∃ (t c : Addr) (cs : List Int) (S : List Addr) (o : Addr) (v : V) (T : LB.Tree), vs = [.ref t, .ref o, v] ∧ PS t c cs S o [] H ∧ T.ok ∧ DpS K S H v T.d ∧
  ∀ (z' : List Nat) (ws : List Str) (H' : Hp), z'.length ≤ 30000 → Bt z' ws → Tells (PM.TreeT T) ws → PS t c cs S o z' H' → Out [t, o] H H' → Q .non H'
theorem last_slice2 (z : List Nat) : (Txt.slice ⟨z.toArray⟩ (some (-1)) none = (⟨#[]⟩ : Str) ∧ z = []) ∨ ∃ c, Txt.slice ⟨z.toArray⟩ (some (-1)) none = (⟨#[c]⟩ : Str) ∧ z.getLast? = some c := by
  rw [← C8.cutS_slice]
  unfold cutS
  rw [slen, stl]
  have e1 : HT.sIx z.length 0 (some (-1)) = z.length - 1 := by
    unfold HT.sIx
    simp
    omega
  have e2 : HT.sIx z.length z.length none = z.length := rfl
  rw [e1, e2]
  cases hz : z.getLast? with
  | none =>
    have : z = [] := List.getLast?_eq_none_iff.mp hz
    subst this
    exact .inl ⟨rfl, rfl⟩
  | some c =>
    refine .inr ⟨c, ?_, rfl⟩
    have hl : 0 < z.length := List.length_pos_of_mem (List.mem_of_getLast? hz)
    have : z.drop (z.length - 1) = [c] := by
      rw [List.getLast?_eq_getElem?] at hz
      rw [drop_get hz, List.drop_of_length_le (by omega)]
    rw [this]
    have e3 : z.length - (z.length - 1) = 1 := by omega
    rw [e3]
    rfl
theorem nt {b : Bool} (h : ¬ b = true) : b = false := by
  cases b with
  | false => rfl
  | true => exact absurd rfl h
theorem gap_mem : ∀ y ∈ gapL, cds y ∈ gaps := by decide +kernel
theorem cds_nil {s : Str} (h : cds s = []) : s = ("" : Str) := by
  have : s = ⟨(cds s).toArray⟩ := rfl
  rw [this, h]
  exact empty_eq.symm
theorem cds_app (a b : Str) : cds (a ++ b) = cds a ++ cds b := TL.tl_append a b
theorem inner_no {d : Nat} (h1 : Tk.letter d = false) (h2 : Tk.digit d = false) (h3 : (d == 95 || d == 46 || d == 35) = false) : Tk.inner d = false := by
  unfold Tk.inner
  rw [h1, h2, h3]
  rfl
theorem voc_cons {a : Str} {r : List Str} (ha : a ∈ vocL) (hr : ∀ s ∈ r, s ∈ vocL) : ∀ s ∈ a :: r, s ∈ vocL := fun s hs => by
  rcases List.mem_cons.mp hs with rfl | hs
  · exact ha
  · exact hr s hs
theorem voc_nil : ∀ s ∈ ([] : List Str), s ∈ vocL := fun s hs => by cases hs
theorem voc_app {a b : List Str} (ha : ∀ s ∈ a, s ∈ vocL) (hb : ∀ s ∈ b, s ∈ vocL) : ∀ s ∈ a ++ b, s ∈ vocL := fun s hs => (List.mem_append.mp hs).elim (ha s) (hb s)
theorem vl (s : Str) (h : s ∈ litW := by decide +kernel) : s ∈ vocL := v_lit h
theorem numS_rg : ∀ n ∈ numS, 0 ≤ n ∧ n < 10000000000 := by decide +kernel
theorem sys_add {n : Int} (h0 : 0 ≤ n) (h1 : n < 9) (hp : n > 0) : Sys ["+", decS n] (PM.addW n) := by
  unfold PM.addW
  rw [if_pos hp]
  exact .cons (sy_lit (lw "+")) (.cons (sy_num (num_small h0 h1)) .nil)
theorem sys_add0 {n : Int} (hp : ¬ n > 0) : Sys [] (PM.addW n) := by
  unfold PM.addW
  rw [if_neg hp]
  exact .nil
theorem take_snoc {α : Type} {l : List α} {i : Nat} {x : α} (h : l[i]? = some x) : l.take (i + 1) = l.take i ++ [x] := by
  rw [List.take_add_one, h]
  rfl
end LB
/-! Printing: words joined. -/
namespace LB
open PySem PySem.Spec PyProof.Rows L2
def dg (s : Str) : Bool := match cds s with | c :: _ => Tk.digit c | [] => false
/-- no two numbers side by side -/
def NN : List Str → Bool
  | a :: b :: r => !(dg a && dg b) && NN (b :: r)
  | _ => true
theorem nn_cons {a : Str} {r : List Str} (h : dg a = false) (k : NN r = true) : NN (a :: r) = true := by
  cases r with
  | nil => rfl
  | cons b r =>
    show (!(dg a && dg b) && NN (b :: r)) = true
    rw [h, k]
    rfl
theorem nn_num {a b : Str} {r : List Str} (h : dg b = false) (k : NN (b :: r) = true) : NN (a :: b :: r) = true := by
  show (!(dg a && dg b) && NN (b :: r)) = true
  rw [h, k, Bool.and_false]
  rfl
theorem nn_tail {a : Str} {r : List Str} (h : NN (a :: r) = true) : NN r = true := by
  cases r with
  | nil => rfl
  | cons b r =>
    have h : (!(dg a && dg b) && NN (b :: r)) = true := h
    rw [Bool.and_eq_true] at h
    exact h.2
theorem nn_r : ∀ {a b : List Str}, NN a = true → NN b = true → (∀ s t, b = s :: t → dg s = false) → NN (a ++ b) = true
  | [], b, _, h, _ => h
  | [x], [], h, _, _ => h
  | [x], y :: b, _, h, k => nn_num (k y b rfl) h
  | x :: y :: a, b, h, hb, k => by
    have ih := nn_r (nn_tail h) hb k
    have h : (!(dg x && dg y) && NN (y :: a)) = true := h
    rw [Bool.and_eq_true] at h
    show (!(dg x && dg y) && NN (y :: a ++ b)) = true
    rw [h.1, ih]
    rfl
theorem nn_l : ∀ {a b : List Str}, NN a = true → NN b = true → (∀ t s, a = t ++ [s] → dg s = false) → NN (a ++ b) = true
  | [], b, _, h, _ => h
  | [x], b, _, h, k => nn_cons (k [] x rfl) h
  | x :: y :: a, b, h, hb, k => by
    have ih := nn_l (nn_tail h) hb fun t s e => k (x :: t) s (by rw [e]; rfl)
    have h : (!(dg x && dg y) && NN (y :: a)) = true := h
    rw [Bool.and_eq_true] at h
    show (!(dg x && dg y) && NN (y :: a ++ b)) = true
    rw [h.1, ih]
    rfl
theorem nn_adj : ∀ {u : List Str} {a b : Str} {r : List Str}, NN (u ++ a :: b :: r) = true → (dg a && dg b) = false
  | [], a, b, r, h => by
    have h : (!(dg a && dg b) && NN (b :: r)) = true := h
    rw [Bool.and_eq_true] at h
    have h1 := h.1
    rw [Bool.not_eq_true'] at h1
    exact h1
  | x :: u, a, b, r, h => nn_adj (u := u) (nn_tail h)
theorem nn_all : ∀ {ws : List Str}, (∀ s ∈ ws, dg s = false) → NN ws = true
  | [], _ => rfl
  | a :: r, h => nn_cons (h a List.mem_cons_self) (nn_all fun s hs => h s (List.mem_cons_of_mem _ hs))
theorem nd_every : ((litW ++ nameW).all fun s => !dg s) = true := by decide +kernel
theorem nd_lit {s : Str} (h : s ∈ litW) : dg s = false := by
  have := List.all_eq_true.mp nd_every s (List.mem_append_left _ h)
  simpa using this
theorem nd_name {s : Str} (h : s ∈ nameW) : dg s = false := by
  have := List.all_eq_true.mp nd_every s (List.mem_append_right _ h)
  simpa using this
theorem ndl (s : Str) (h : s ∈ litW := by decide +kernel) : dg s = false := nd_lit h
/-- a piece of the pieces -/
structure Blk (ws : List Str) (k : Nat) : Prop where
  voc : ∀ s ∈ ws, s ∈ vocL
  nn : NN ws = true
  hd : ∀ s t, ws = s :: t → dg s = false
  len : ws.length ≤ k
theorem Blk.nil : Blk [] 0 := ⟨voc_nil, rfl, fun _ _ h => (by cases h), Nat.le_refl _⟩
theorem Blk.app {a b : List Str} {k j : Nat} (h : Blk a k) (g : Blk b j) : Blk (a ++ b) (k + j) :=
  ⟨voc_app h.voc g.voc, nn_r h.nn g.nn g.hd, fun s t e => by
    cases a with
    | nil => exact g.hd s t e
    | cons x a =>
      have e : x :: (a ++ b) = s :: t := e
      injection e with e1 _
      exact h.hd s a (by rw [← e1]), by rw [List.length_append]; exact Nat.add_le_add h.len g.len⟩
theorem Blk.mono {a : List Str} {k j : Nat} (h : Blk a k) (e : k ≤ j) : Blk a j := ⟨h.voc, h.nn, h.hd, Nat.le_trans h.len e⟩
theorem blk1 {s : Str} (h : s ∈ litW) : Blk [s] 1 := ⟨voc_cons (v_lit h) voc_nil, rfl, fun x t e => by
  injection e with e1 _
  rw [← e1]
  exact nd_lit h, Nat.le_refl _⟩
theorem blkN {s : Str} (h : s ∈ nameW) : Blk [s] 1 := ⟨voc_cons (v_name h) voc_nil, rfl, fun x t e => by
  injection e with e1 _
  rw [← e1]
  exact nd_name h, Nat.le_refl _⟩
/-- a sign or word, then words that may begin with a number -/
theorem blk_num {s : Str} {ws : List Str} {k : Nat} (h : s ∈ litW) (hv : ∀ s ∈ ws, s ∈ vocL) (hn : NN ws = true) (hl : ws.length ≤ k) : Blk (s :: ws) (k + 1) := ⟨voc_cons (v_lit h) hv, nn_cons (nd_lit h) hn, fun x t e => by
  injection e with e1 _
  rw [← e1]
  exact nd_lit h, Nat.succ_le_succ hl⟩
theorem joinL_flat : ∀ ps : List (List Nat), TL.joinL [] ps = ps.flatten
  | [] => rfl
  | [p] => by simp [TL.joinL]
  | p :: q :: r => by
    show p ++ ([] ++ TL.joinL [] (q :: r)) = _
    rw [List.nil_append, joinL_flat (q :: r)]
    rfl
theorem cds_join (ys : List Str) (e : Str) (he : e = ⟨#[]⟩) : cds (Txt.join e ys) = (ys.map cds).flatten := by
  have h : TL.tl (Txt.join e ys) = (ys.map TL.tl).flatten := by
    rw [TL.join_eq, TL.tl_join]
    subst he
    have : TL.tl (⟨#[]⟩ : Str) = [] := rfl
    rw [this, joinL_flat]
  exact h
theorem same_put {H H' : Hp} {p : Addr} {o : HO} (s : Same H H') (h : H p = none) : Same H (upd H' p o) := fun b x e => by
  rw [upd_ne (ne_of_none e h)]
  exact s b x e
theorem item_ofD {K : PySem.W.Frag} {H : Hp} {α : Type} {D : α → PyData} {xs : List V} {ds : List α} (ha : DpAll K H xs (ds.map D)) {i : Nat} {y : V} (hy : xs[i]? = some y) : ∃ d, ds[i]? = some d ∧ Dp K H y (D d) := by
  have hi := (List.getElem?_eq_some_iff.mp hy).1
  obtain ⟨v, d, hv, hd, hx⟩ := dpAll_get ha hi
  rw [hy] at hv
  cases hv
  rw [List.getElem?_map] at hd
  cases e : ds[i]? with
  | none => rw [e] at hd; cases hd
  | some a =>
    rw [e] at hd
    have hd : D a = d := Option.some.inj hd
    exact ⟨a, rfl, hd ▸ hx⟩
def spPAdd : Sp := fun vs H Q _ => ∃ n : Int, vs = [.int n] ∧ 0 ≤ n ∧ n < 9 ∧
  ∀ (l : Addr) (ss : List Str) (H' : Hp), ss.length ≤ 2 → (∀ s ∈ ss, s ∈ vocL) → Sys ss (PM.addW n) → NN ss = true → (∀ s t, ss = s :: t → dg s = false) → Same H H' → H l = none → H' l = some (.lst (ss.map V.str)) → Q (.ref l) H'
def spPVal (K : PySem.W.Frag) : Sp := fun vs H Q _ => ∃ (v : V) (x : Vl), vs = [v] ∧ x.ok namesL ∧ Dp K H v x.d ∧
  ∀ (l : Addr) (ss : List Str) (H' : Hp), ss.length ≤ 4 → (∀ s ∈ ss, s ∈ vocL) → Sys ss (PM.valW x) → NN ss = true → Same H H' → H l = none → H' l = some (.lst (ss.map V.str)) → Q (.ref l) H'
def spPThing (K : PySem.W.Frag) : Sp := fun vs H Q _ => ∃ (v : V) (nm kn : Str) (c : Option Int) (xs : List (Str × Vl)), vs = [v] ∧ (Im.thing nm c kn xs).ok ∧ Dp K H v (Im.thing nm c kn xs).d ∧
  ∀ (l : Addr) (ws : List Str) (H' : Hp), Blk ws 40 → Tells (PM.ItemT (.thing nm c kn xs)) ws → Same H H' → H l = none → H' l = some (.lst (ws.map V.str)) → Q (.ref l) H'
def spPItem (K : PySem.W.Frag) : Sp := fun vs H Q _ => ∃ (v : V) (i : Im), vs = [v] ∧ i.ok ∧ Dp K H v i.d ∧
  ∀ (l : Addr) (ws : List Str) (H' : Hp), Blk ws 40 → Tells (PM.ItemT i) ws → Same H H' → H l = none → H' l = some (.lst (ws.map V.str)) → Q (.ref l) H'
def spPKind (K : PySem.W.Frag) : Sp := fun vs H Q _ => ∃ (a : Addr) (k : Kd), vs = [.str k.name, .ref a] ∧ k.ok ∧ Dp K H (.ref a) (.tuple (k.fields.map Fd.d)) ∧
  ∀ (l : Addr) (ws : List Str) (H' : Hp), Blk ws 40 → Tells (PM.KindT k) ws → Same H H' → H l = none → H' l = some (.lst (ws.map V.str)) → Q (.ref l) H'
def spPJoin : Sp := fun vs H Q _ => ∃ (l : Addr) (ws : List Str), vs = [.ref l] ∧ H l = some (.lst (ws.map V.str)) ∧ Blk ws 1000 ∧
  ∀ (z : List Nat) (H' : Hp), z.length ≤ 21 * ws.length → Bt z ws → Same H H' → Q (txt z) H'
def spPrint (K : PySem.W.Frag) : Sp := fun vs H Q _ => ∃ (v : V) (T : LB.Tree), vs = [v] ∧ T.ok ∧ Dp K H v T.d ∧
  ∀ (z : List Nat) (ws : List Str) (H' : Hp), z.length ≤ 21000 → Bt z ws → Tells (PM.TreeT T) ws → Same H H' → Q (txt z) H'
/-- may the next piece follow at once -/
theorem stops_free {s t : Str} {c d : Nat} (hs : (cds s)[0]? = some c) (ht : (cds t)[0]? = some d) (h1 : Tk.letter c = true → Tk.inner d = false) (h2 : (dg s && dg t) = false) : Stops (cds s) (cds t) := by
  intro c' r d' z e1 e2
  rw [e1] at hs
  rw [e2] at ht
  have hs : c' = c := by simpa using hs
  have ht : d' = d := by simpa using ht
  subst hs ht
  unfold dg at h2
  rw [e1, e2] at h2
  have h2 : (Tk.digit c' && Tk.digit d') = false := h2
  unfold Tk.going
  cases hL : Tk.letter c' with
  | true => exact h1 hL
  | false =>
    cases hD : Tk.digit c' with
    | false => rfl
    | true =>
      rw [hD] at h2
      exact h2
theorem word_head {s : Str} (h : s ∈ vocL) : ∃ c, (cds s)[0]? = some c := by
  obtain ⟨c, r, e⟩ := word_ne (voc_word h)
  exact ⟨c, by rw [e]; rfl⟩
end LB
/-! isinstance of a caught own error with a field, asked about an own class. -/
namespace L2
open PySem PySem.Spec PyProof.Rows
structure IsTxt (K : PySem.W.Frag) (mg : Str → Option Value) (C L : Addr) : Prop where
  g : ∃ u, mg "LandError" = some u ∧ RelV (.ref L) u
  b_isinstance : mg "isinstance" = none
  cl : (PySem.W.clsIn K C).isSome = true
  ga : PySem.W.findIn K (.ref C) "__getattribute__" = some (some (.builtin "BaseException.__getattribute__"))
  gg : PySem.W.findIn K (.ref C) "__getattr__" = some none
  ex : PySem.W.subIn K (.ref C) (.type "BaseException") = some true
  ha : PySem.W.findIn K (.ref C) "__class__" = some (some (.builtin "object.__class__"))
  hn : PySem.W.specialIn K (.builtin "object.__class__") "__get__" = some (some (.builtin "getset_descriptor.__get__"))
  ht : PySem.W.takesIn K (.builtin "object.__class__") = some true
  hm : PySem.W.mroIn K C (.type "object") = some true
  kt : PySem.W.kitOne K (.ref C) (.ref L) = some true
section
variable {X : Cx} {a C L : Addr} {oe : Obj} {cls : Value} {d : Option Addr} {pn : List (Addr × Obj)}
def rIsSup (C a : Addr) (cls : Value) (d : Option Addr) (L : Addr) : List V → Hp → VK → Prop := fun xs H Q => xs = [.ref a, .ref L] ∧ cls = .ref C ∧ (∃ (dd : Addr) (fs : List (Str × V)), d = some dd ∧ H dd = some (.xd fs)) ∧ Q (.bl true) H
theorem call_isSup (T : IsTxt X.K X.mg C L) (hz : Zc cls d oe) (hf : ∃ vs, oe.data = .fields vs) : CallR (X.suite a ((a, oe) :: pn)) (.builtin "isinstance") (rIsSup C a cls d L) := by
  intro pins s σ H xs us Q I r h
  obtain ⟨rfl, rfl, ⟨dd, fs, rfl, hd⟩, q⟩ := h
  cases r with
  | cons rx rr =>
  cases rr with
  | cons rt rr =>
  cases rr
  cases rx
  cases rt
  obtain ⟨ge, _⟩ := I.pin (a, oe) (List.mem_append.mpr (.inl List.mem_cons_self))
  obtain ⟨vs, hv⟩ := hf
  have hx : ObjOk X.prog X.w H s.heap dd (.xd fs) := I.hok dd _ hd
  obtain ⟨mA, hns, hr⟩ := hx
  obtain ⟨od, ho, hl⟩ := lookIn_ns hns
  have J : PySem.W.InstAt s.heap a oe C (some od) := ⟨ge, hz.1, by unfold PySem.W.notCls; rw [hv] <;> rfl, by rw [hz.2]; exact ho⟩
  exact PySem.W.kia_one (PySem.W.kitx_exc T.cl T.ga T.gg T.ex T.ha T.hn T.ht T.hm) I.kIn J T.kt (fun z => nomatch z) fun tk => ⟨.bl true, H, I.kept (t' := tk) fun _ _ z => z, rfl, q⟩
/-- no exception comes out of a call that is promised not to raise -/
theorem pass_no {X : Cx} : Passes (L2.CX X.prog X.w) X (fun _ _ _ => False) := fun _ _ _ _ _ _ _ ⟨_, _, _, _, _, _, _, _, _, _, _, _, h⟩ => h.elim
end
end L2
/-! Defs that let nothing out, called whatever exception is being handled. -/
namespace LW
open PySem PySem.Spec PyProof.Rows L2
section
variable {P : Program} {w : World} {K : PySem.W.Frag} {mg : Str → Option Value} {base : Heap} {k : Nat} {f : Addr} {fd : FuncData} {ps N : List Str} {sp : Sp} {A : Around} {outer : List Env} {H : Hp} {s s1 : Shared} {Q : VK} {us : List Value} {vs : List V} {qual : Str} {scope : Scope} {cd : Value}
structure FnW (P : Program) (w : World) (K : PySem.W.Frag) (mg : Str → Option Value) (base : Heap) (k : Nat) (f : Addr) (fd : FuncData) (ps : List Str) (sp : Sp) : Prop where
  len : ∀ vs H Q E, sp vs H Q E → vs.length = ps.length
  run : ∀ {A : Around} {outer : List Env} {s : Shared} {H : Hp} {args : Args} {us : List Value} {vs : List V} {Q : VK}, L2H.RoomH k A → Env0 P w K mg base A outer s H → BindsTo s fd args (ps.zip us) → Vals vs us → sp vs H Q C8.E0 →
    codeAny (model P w) A (.call (.ref f) args) (CR CX0 outer P w H s Q C8.E0) s
/-- the body's context: nobody says that nothing is being handled -/
def cxW (P : Program) (w : World) (K : PySem.W.Frag) (mg : Str → Option Value) (base : Heap) (N : List Str) (qual : Str) (scope : Scope) (f : Addr) (cd : Value) (A : Around) (outer : List Env) (s : Shared) (H : Hp) : Cx :=
  { cxOf CX0 P w K mg base N qual scope f cd A outer s H C8.E0 with calm := false }
theorem startW (S : FnScope N ps scope) (e : Env0 P w K mg base A outer s H) (hl : vs.length = ps.length) (r : Vals vs us)
    (x : InCallC s s.heap.objs.size (bindL (envOfC qual scope s.heap.objs.size f cd).kindOf (ps.zip us) fun _ => none) (cellsFrom (s.heap.objs.size + 1) scope.names []) (bindC (envOfC qual scope s.heap.objs.size f cd).kindOf (ps.zip us) fun _ => none) s1) :
    Inv (cxW P w K mg base N qual scope f cd A outer s H) [] (start N vs) H s1 := by
  have e' : Env0 P w K mg base { A with handled := none } outer s H := ⟨e.frames, e.mod, e.bs, e.bsz, e.funs, e.frf, e.hok, e.bare⟩
  have I := inv_start (CX := CX0) (E := C8.E0) S rfl e' hl r x
  have o := I.ok
  exact ⟨⟨o.mod, o.kind, o.glob, o.blt, o.above, o.inj, o.has, o.cab, (fun z => by cases z), o.frames, o.stk, o.exf, o.bs, o.bsz, o.noex, o.exfs, o.funs, o.frf⟩, I.os, I.bare, I.base, I.loc, I.cell, I.free, I.freeC, I.pin, I.hok, I.len⟩
/-- the rule for such a def -/
theorem fnW_of {x : Str} {st : Stmt} (F : Fun K x qual st f fd) (S : FnScope N ps (defScope st)) (len : ∀ vs H Q E, sp vs H Q E → vs.length = ps.length)
    (body : ∀ (cd : Value) (A : Around) (outer : List Env) (s : Shared) (H : Hp) (vs : List V) (Q : VK), L2H.RoomH k (A.deeper (envOfC qual (defScope st) s.heap.objs.size f cd)) → sp vs H Q C8.E0 →
      ∃ t, PSs (cxW P w K mg base N qual (defScope st) f cd A outer s H) (defBody st) t ∧ t { nx := fun _ H' => Q .non H', rt := Q } (start N vs) H) : FnW P w K mg base (k + 1) f fd ps sp := by
  obtain ⟨oc, od, kV, doc, pm, an, cd, ct, osl, rfl, lk, hc⟩ := F.ex
  refine ⟨len, fun {A outer s H args us vs Q} hr e b r h => ?_⟩
  have inK : K.In s.heap := e.mod.kin.keeps fun c u q => (e.bs c u q).1
  have nl : s.heap.NoLimit := e.mod.nolimit.keeps fun c u q => (e.bs c u q).1
  have kinds : ∀ y ∈ ps.zip us, (defScope st).names.lookup y.1 = some .local ∨
      ((defScope st).names.lookup y.1 = some .cell ∧ ((cellsFrom (s.heap.objs.size + 1) (defScope st).names []).lookup y.1).isSome = true) := by
    rintro ⟨m, v⟩ hy
    cases S.par m (List.of_mem_zip hy).1 with
    | inl q => exact .inl q
    | inr q => exact .inr ⟨q, PySem.W.cellsFrom_some _ _ _ (.inl q)⟩
  have go : ∀ s1, InCallC s s.heap.objs.size (bindL (envOfC qual (defScope st) s.heap.objs.size f cd).kindOf (ps.zip us) fun _ => none) (cellsFrom (s.heap.objs.size + 1) (defScope st).names [])
      (bindC (envOfC qual (defScope st) s.heap.objs.size f cd).kindOf (ps.zip us) fun _ => none) s1 →
      codeAny (model P w) A (.func (defBody st) (envOfC qual (defScope st) s.heap.objs.size f cd)) (CR CX0 outer P w H s Q C8.E0) s1 := fun s1 x => by
    obtain ⟨t, ht, q⟩ := body cd A outer s H vs Q (hr.deeper _) h
    have I : Inv (cxW P w K mg base N qual (defScope st) f cd A outer s H) [] (start N vs) H s1 := startW S e (len _ _ _ _ h) r x
    refine codeAny_func (wpAny_mono (ht.run [] s1 (start N vs) H _ I q) (fun fl s' z => ?_) fun _ _ z => z)
    cases fl with
    | ret u =>
      obtain ⟨v, _, H', J, rv, q⟩ := z
      exact ⟨v, H', J.os, J.bare, J.base, J.hok, rv, q⟩
    | next =>
      obtain ⟨_, H', J, q⟩ := z
      exact ⟨V.non, H', J.os, J.bare, J.base, J.hok, rfl, q⟩
    | brk => exact absurd z (fun ⟨_, _, _, q⟩ => q)
    | cont => exact absurd z (fun ⟨_, _, _, q⟩ => q)
  refine codeAny_call_function hr.depth (inK _ _ lk) rfl S.co S.gen rfl (PySem.W.codeRec_of inK hc) ?_
  refine b _ _ _ _ ?_
  refine wpAny_newFunctionEnv_cells S.kind kinds fun env he s1 x => ?_
  cases he
  exact ⟨nl.keeps x.toInCall.keep, go s1 x⟩
end
section
variable {X : Cx} {k j : Nat} {x : Str} {sp : Sp} {q pos : Pos} {e : Expr} {es : List Expr} {t : TA}
theorem roomW {k : Nat} {A : Around} {h : Option Value} (r : Room k A) : L2H.RoomH k (A.mark h) := ⟨r.dp, r.un⟩
structure CalW (P : Program) (w : World) (K : PySem.W.Frag) (mg : Str → Option Value) (base : Heap) (k : Nat) (x : Str) (sp : Sp) : Prop where
  ex : ∃ f fd ps, FnW P w K mg base k f fd ps sp ∧ mg x = some (.ref f) ∧ PySem.W.keepIn K (.ref f) = true ∧ Binds K fd ps []
theorem calW {P : Program} {w : World} {K : PySem.W.Frag} {mg : Str → Option Value} {base : Heap} {st : Stmt} {f : Addr} {fd : FuncData} {ps : List Str} (F : Fun K x x st f fd) (gf : mg x = some (.ref f)) (b : Binds K fd ps []) (G : FnW P w K mg base k f fd ps sp) : CalW P w K mg base k x sp :=
  ⟨f, fd, ps, G, gf, F.kp, b⟩
/-- a call of it, anywhere -/
theorem pe_cw (c : CalW X.prog X.w X.K X.mg X.base k x sp) (hr : L2H.RoomH j X.A) (hk : k ≤ j) (hg : Gl X x) (ha : PA X (e :: es) t)
    (hd : (x == ("__debug__" : Str)) = false := by decide) (he : starEach (e :: es) X.env = (false, eval e X.env) :: starEach es X.env := by rfl) (hp : (backTo pos (starEach es X.env)).any (·.1) = false := by rfl) :
    PE X (.Call (.Name x q) (e :: es) [] pos) (tCall sp [] C8.E0 t) := by
  obtain ⟨f, fd, ps, F, hm, kp, b⟩ := c.ex
  refine ⟨fun pins s σ H Q I h => wpAny_Call_Name_kw (ld_glob I hg hm ?_ hd)⟩
  refine PySem.W.callWith_K (h₀ := X.base) I.ok.mod.kin kp (thn (ha.run pos pins s σ H _ I h) fun us s1 z => ?_) he hp
  obtain ⟨vs, H1, I1, r, z⟩ := z
  refine ⟨I1.kIn, ?_⟩
  have z : sp vs H1 Q C8.E0 := by rwa [List.append_nil] at z
  have hl : (us ++ []).length = ps.length := by
    rw [List.append_nil, ← r.length]
    exact F.len _ _ _ _ z
  have b1 := b s1 us I1.kIn hl
  rw [List.append_nil] at b1
  refine wpAny_call (codeAny_mono (F.run (hr.mono hk) I1.env0 b1 r z) fun o s' y => ?_)
  match o, y with
  | .ok (.ret u), y => exact I1.after y
end
end LW
/-! Law k02: the defs. -/
namespace K02
open PySem PySem.Spec PyProof.Rows L2 LB
def top (i : Nat) : Stmt := PySem.Challenge.pw_settledland_k02_trees_are_read_as_printe.main.body.getD i (.Pass ⟨0, 0, 0, 0⟩)
abbrev s_tokens : Stmt := top 12
abbrev N_tokens : List Str := ["text", "found", "at", "end"]
theorem sc_tokens : FnScope N_tokens ["text"] (defScope s_tokens) := ⟨rfl, rfl, rfl, by decide +kernel, rfl, by decide +kernel, by decide +kernel⟩

abbrev s__end_of_note : Stmt := top 13
abbrev N__end_of_note : List Str := ["text", "start", "end"]
theorem sc__end_of_note : FnScope N__end_of_note ["text", "start"] (defScope s__end_of_note) := ⟨rfl, rfl, rfl, by decide +kernel, rfl, by decide +kernel, by decide +kernel⟩

abbrev s__end_of_token : Stmt := top 14
abbrev N__end_of_token : List Str := ["text", "start"]
theorem sc__end_of_token : FnScope N__end_of_token ["text", "start"] (defScope s__end_of_token) := ⟨rfl, rfl, rfl, by decide +kernel, rfl, by decide +kernel, by decide +kernel⟩

abbrev s__end_of_run : Stmt := top 15
abbrev N__end_of_run : List Str := ["text", "start", "characters", "end"]
theorem sc__end_of_run : FnScope N__end_of_run ["text", "start", "characters"] (defScope s__end_of_run) := ⟨rfl, rfl, rfl, by decide +kernel, rfl, by decide +kernel, by decide +kernel⟩

abbrev s__sort_of : Stmt := top 16
abbrev N__sort_of : List Str := ["piece"]
theorem sc__sort_of : FnScope N__sort_of ["piece"] (defScope s__sort_of) := ⟨rfl, rfl, rfl, by decide +kernel, rfl, by decide +kernel, by decide +kernel⟩

abbrev s_Reader___init__ : Stmt := inClass (top 17) 0
abbrev N_Reader___init__ : List Str := ["self", "text"]
theorem sc_Reader___init__ : FnScope N_Reader___init__ ["self", "text"] (defScope s_Reader___init__) := ⟨rfl, rfl, rfl, by decide +kernel, rfl, by decide +kernel, by decide +kernel⟩

abbrev s_Reader_ahead : Stmt := inClass (top 17) 1
abbrev N_Reader_ahead : List Str := ["self", "sort", "start", "end"]
theorem sc_Reader_ahead : FnScope N_Reader_ahead ["self"] (defScope s_Reader_ahead) := ⟨rfl, rfl, rfl, by decide +kernel, rfl, by decide +kernel, by decide +kernel⟩

abbrev s_Reader_take : Stmt := inClass (top 17) 2
abbrev N_Reader_take : List Str := ["self", "forms", "_", "start", "end"]
theorem sc_Reader_take : FnScope N_Reader_take ["self", "forms"] (defScope s_Reader_take) := ⟨rfl, rfl, rfl, by decide +kernel, rfl, by decide +kernel, by decide +kernel⟩

abbrev s_Reader_take_number : Stmt := inClass (top 17) 3
abbrev N_Reader_take_number : List Str := ["self"]
theorem sc_Reader_take_number : FnScope N_Reader_take_number ["self"] (defScope s_Reader_take_number) := ⟨rfl, rfl, rfl, by decide +kernel, rfl, by decide +kernel, by decide +kernel⟩

abbrev s_Reader__place : Stmt := inClass (top 17) 4
abbrev N_Reader__place : List Str := ["self"]
theorem sc_Reader__place : FnScope N_Reader__place ["self"] (defScope s_Reader__place) := ⟨rfl, rfl, rfl, by decide +kernel, rfl, by decide +kernel, by decide +kernel⟩

abbrev s__value_of : Stmt := top 18
abbrev N__value_of : List Str := ["digits", "value", "digit"]
theorem sc__value_of : FnScope N__value_of ["digits"] (defScope s__value_of) := ⟨rfl, rfl, rfl, by decide +kernel, rfl, by decide +kernel, by decide +kernel⟩

abbrev s_read_tree : Stmt := top 19
abbrev N_read_tree : List Str := ["text", "reader", "kinds", "items"]
theorem sc_read_tree : FnScope N_read_tree ["text"] (defScope s_read_tree) := ⟨rfl, rfl, rfl, by decide +kernel, rfl, by decide +kernel, by decide +kernel⟩

abbrev s__read_kind : Stmt := top 20
abbrev N__read_kind : List Str := ["reader", "name", "fields"]
theorem sc__read_kind : FnScope N__read_kind ["reader"] (defScope s__read_kind) := ⟨rfl, rfl, rfl, by decide +kernel, rfl, by decide +kernel, by decide +kernel⟩

abbrev s__read_field : Stmt := top 21
abbrev N__read_field : List Str := ["reader", "name", "target", "marks"]
theorem sc__read_field : FnScope N__read_field ["reader"] (defScope s__read_field) := ⟨rfl, rfl, rfl, by decide +kernel, rfl, by decide +kernel, by decide +kernel⟩

abbrev s__read_item : Stmt := top 22
abbrev N__read_item : List Str := ["reader", "word", "item", "number", "old"]
theorem sc__read_item : FnScope N__read_item ["reader"] (defScope s__read_item) := ⟨rfl, rfl, rfl, by decide +kernel, rfl, by decide +kernel, by decide +kernel⟩

abbrev s__read_thing : Stmt := top 23
abbrev N__read_thing : List Str := ["reader", "name", "count", "kind", "values"]
theorem sc__read_thing : FnScope N__read_thing ["reader"] (defScope s__read_thing) := ⟨rfl, rfl, rfl, by decide +kernel, rfl, by decide +kernel, by decide +kernel⟩

abbrev s__read_pair : Stmt := top 24
abbrev N__read_pair : List Str := ["reader", "field", "value"]
theorem sc__read_pair : FnScope N__read_pair ["reader"] (defScope s__read_pair) := ⟨rfl, rfl, rfl, by decide +kernel, rfl, by decide +kernel, by decide +kernel⟩

abbrev s__read_value : Stmt := top 25
abbrev N__read_value : List Str := ["reader", "form", "word", "name"]
theorem sc__read_value : FnScope N__read_value ["reader"] (defScope s__read_value) := ⟨rfl, rfl, rfl, by decide +kernel, rfl, by decide +kernel, by decide +kernel⟩

abbrev s__read_addition : Stmt := top 26
abbrev N__read_addition : List Str := ["reader"]
theorem sc__read_addition : FnScope N__read_addition ["reader"] (defScope s__read_addition) := ⟨rfl, rfl, rfl, by decide +kernel, rfl, by decide +kernel, by decide +kernel⟩

abbrev s_print_tree : Stmt := top 28
abbrev N_print_tree : List Str := ["tree", "kinds", "items", "pieces", "name", "fields", "item"]
theorem sc_print_tree : FnScope N_print_tree ["tree"] (defScope s_print_tree) := ⟨rfl, rfl, rfl, by decide +kernel, rfl, by decide +kernel, by decide +kernel⟩

abbrev s__joined : Stmt := top 29
abbrev N__joined : List Str := ["pieces", "parts", "last", "piece"]
theorem sc__joined : FnScope N__joined ["pieces"] (defScope s__joined) := ⟨rfl, rfl, rfl, by decide +kernel, rfl, by decide +kernel, by decide +kernel⟩

abbrev s__pieces_of_kind : Stmt := top 30
abbrev N__pieces_of_kind : List Str := ["name", "fields", "pieces", "field", "target", "marks", "sort"]
theorem sc__pieces_of_kind : FnScope N__pieces_of_kind ["name", "fields"] (defScope s__pieces_of_kind) := ⟨rfl, rfl, rfl, by decide +kernel, rfl, by decide +kernel, by decide +kernel⟩

abbrev s__pieces_of_item : Stmt := top 31
abbrev N__pieces_of_item : List Str := ["item"]
theorem sc__pieces_of_item : FnScope N__pieces_of_item ["item"] (defScope s__pieces_of_item) := ⟨rfl, rfl, rfl, by decide +kernel, rfl, by decide +kernel, by decide +kernel⟩

abbrev s__pieces_of_thing : Stmt := top 32
abbrev N__pieces_of_thing : List Str := ["item", "_", "name", "count", "kind", "values", "many", "pieces", "field", "value"]
theorem sc__pieces_of_thing : FnScope N__pieces_of_thing ["item"] (defScope s__pieces_of_thing) := ⟨rfl, rfl, rfl, by decide +kernel, rfl, by decide +kernel, by decide +kernel⟩

abbrev s__pieces_of_value : Stmt := top 33
abbrev N__pieces_of_value : List Str := ["value"]
theorem sc__pieces_of_value : FnScope N__pieces_of_value ["value"] (defScope s__pieces_of_value) := ⟨rfl, rfl, rfl, by decide +kernel, rfl, by decide +kernel, by decide +kernel⟩

abbrev s__pieces_of_addition : Stmt := top 34
abbrev N__pieces_of_addition : List Str := ["number"]
theorem sc__pieces_of_addition : FnScope N__pieces_of_addition ["number"] (defScope s__pieces_of_addition) := ⟨rfl, rfl, rfl, by decide +kernel, rfl, by decide +kernel, by decide +kernel⟩

abbrev s__law_tape : Stmt := top 36
abbrev N__law_tape : List Str := ["script", "cells", "seed", "cell"]
theorem sc__law_tape : FnScope N__law_tape ["script"] (defScope s__law_tape) := ⟨rfl, rfl, rfl, by decide +kernel, rfl, by decide +kernel, by decide +kernel⟩

abbrev s__law_take : Stmt := top 37
abbrev N__law_take : List Str := ["tape", "many", "drawn", "mixed"]
theorem sc__law_take : FnScope N__law_take ["tape", "many"] (defScope s__law_take) := ⟨rfl, rfl, rfl, by decide +kernel, rfl, by decide +kernel, by decide +kernel⟩

abbrev s__law_is_integer : Stmt := top 38
abbrev N__law_is_integer : List Str := ["actual"]
theorem sc__law_is_integer : FnScope N__law_is_integer ["actual"] (defScope s__law_is_integer) := ⟨rfl, rfl, rfl, by decide +kernel, rfl, by decide +kernel, by decide +kernel⟩

abbrev s__law_same_items : Stmt := top 39
abbrev N__law_same_items : List Str := ["actual", "expected", "k"]
theorem sc__law_same_items : FnScope N__law_same_items ["actual", "expected"] (defScope s__law_same_items) := ⟨rfl, rfl, rfl, by decide +kernel, rfl, by decide +kernel, by decide +kernel⟩

abbrev s__law_same : Stmt := top 40
abbrev N__law_same : List Str := ["actual", "expected", "key"]
theorem sc__law_same : FnScope N__law_same ["actual", "expected"] (defScope s__law_same) := ⟨rfl, rfl, rfl, by decide +kernel, rfl, by decide +kernel, by decide +kernel⟩

abbrev s__law_letter : Stmt := top 41
abbrev N__law_letter : List Str := ["char"]
theorem sc__law_letter : FnScope N__law_letter ["char"] (defScope s__law_letter) := ⟨rfl, rfl, rfl, by decide +kernel, rfl, by decide +kernel, by decide +kernel⟩

abbrev s__law_digit : Stmt := top 42
abbrev N__law_digit : List Str := ["char"]
theorem sc__law_digit : FnScope N__law_digit ["char"] (defScope s__law_digit) := ⟨rfl, rfl, rfl, by decide +kernel, rfl, by decide +kernel, by decide +kernel⟩

abbrev s__law_stretch : Stmt := top 43
abbrev N__law_stretch : List Str := ["text", "at", "number", "end", "char", "inside"]
theorem sc__law_stretch : FnScope N__law_stretch ["text", "at"] (defScope s__law_stretch) := ⟨rfl, rfl, rfl, by decide +kernel, rfl, by decide +kernel, by decide +kernel⟩

abbrev s__law_tokens : Stmt := top 44
abbrev N__law_tokens : List Str := ["text", "words", "found", "behind", "comment", "at", "char"]
theorem sc__law_tokens : FnScope N__law_tokens ["text"] (defScope s__law_tokens) := ⟨rfl, rfl, rfl, by decide +kernel, rfl, by decide +kernel, by decide +kernel⟩

abbrev s__law_scraps : Stmt := top 45
abbrev N__law_scraps : List Str := ["tape", "most", "words", "k"]
theorem sc__law_scraps : FnScope N__law_scraps ["tape", "most"] (defScope s__law_scraps) := ⟨rfl, rfl, rfl, by decide +kernel, rfl, by decide +kernel, by decide +kernel⟩

abbrev s__law_value_of : Stmt := top 46
abbrev N__law_value_of : List Str := ["tape", "field", "names", "choice"]
theorem sc__law_value_of : FnScope N__law_value_of ["tape", "field", "names"] (defScope s__law_value_of) := ⟨rfl, rfl, rfl, by decide +kernel, rfl, by decide +kernel, by decide +kernel⟩

abbrev s__law_any_tree : Stmt := top 47
abbrev N__law_any_tree : List Str := ["tape", "names", "kinds", "k", "fields", "j", "marks", "target", "items", "name", "choice", "values", "field", "count", "word"]
theorem sc__law_any_tree : FnScope N__law_any_tree ["tape"] (defScope s__law_any_tree) := ⟨rfl, rfl, rfl, by decide +kernel, rfl, by decide +kernel, by decide +kernel⟩

abbrev s__law_put : Stmt := top 48
abbrev N__law_put : List Str := ["tape", "out", "string", "last", "gap"]
theorem sc__law_put : FnScope N__law_put ["tape", "out", "string"] (defScope s__law_put) := ⟨rfl, rfl, rfl, by decide +kernel, rfl, by decide +kernel, by decide +kernel⟩

abbrev s__law_put_all : Stmt := top 49
abbrev N__law_put_all : List Str := ["tape", "out", "strings", "string"]
theorem sc__law_put_all : FnScope N__law_put_all ["tape", "out", "strings"] (defScope s__law_put_all) := ⟨rfl, rfl, rfl, by decide +kernel, rfl, by decide +kernel, by decide +kernel⟩

abbrev s__law_words : Stmt := top 50
abbrev N__law_words : List Str := ["value", "words"]
theorem sc__law_words : FnScope N__law_words ["value"] (defScope s__law_words) := ⟨rfl, rfl, rfl, by decide +kernel, rfl, by decide +kernel, by decide +kernel⟩

abbrev s__law_put_tree : Stmt := top 51
abbrev N__law_put_tree : List Str := ["tape", "out", "tree", "name", "fields", "field", "target", "marks", "item", "times", "value"]
theorem sc__law_put_tree : FnScope N__law_put_tree ["tape", "out", "tree"] (defScope s__law_put_tree) := ⟨rfl, rfl, rfl, by decide +kernel, rfl, by decide +kernel, by decide +kernel⟩

abbrev s__law_fails : Stmt := top 52
abbrev N__law_fails : List Str := ["text", "place", "e"]
theorem sc__law_fails : FnScope N__law_fails ["text", "place"] (defScope s__law_fails) := ⟨rfl, rfl, rfl, by decide +kernel, rfl, by decide +kernel, by decide +kernel⟩

abbrev s_law : Stmt := top 53
abbrev N_law : List Str := ["script", "tape", "tree", "out", "more", "word", "place"]
theorem sc_law : FnScope N_law ["script"] (defScope s_law) := ⟨rfl, rfl, rfl, by decide +kernel, rfl, by decide +kernel, by decide +kernel⟩

end K02
namespace K02
open PySem PySem.Spec PyProof.Rows L2 LB
def spSameI : Sp := fun vs H Q _ => ∃ i : Int, vs = [.int i, .int i] ∧ Q (.bl true) H
section
variable {P : Program} {w : World} {K : PySem.W.Frag} {mg : Str → Option Value} {base : Heap}
theorem w__law_is_integer {f : Addr} {fd : FuncData} (F : Fun K "_law_is_integer" "_law_is_integer" s__law_is_integer f fd) (T : Blt mg) : LW.FnW P w K mg base 1 f fd ["actual"] (spIsInt K) := by
  refine LW.fnW_of F sc__law_is_integer (fun vs H Q E h => ?_) (fun cdv A outer s H vs Q hr h => ?_)
  · obtain ⟨i, rfl, _⟩ := h
    rfl
  · obtain ⟨i, rfl, k⟩ := h
    refine ⟨_, (pss_one (ps_ret (pe_and (pe_callB call_isi (by rfl) T.b_isinstance (by decide +kernel) (pa_cons (pv 0) (pa_cons (pe_bltn (v := .ty "int") (by rfl) T.b_int (by decide +kernel) rfl) pa_nil))) (pe_one (pe_not (pe_callB call_isi (by rfl) T.b_isinstance (by decide +kernel) (pa_cons (pv 0) (pa_cons (pe_bltn (v := .ty "bool") (by rfl) T.b_bool (by decide +kernel) rfl) pa_nil)))))))), ?_⟩
    have ty : TyX K H (.int i) (.type "int") := .base (.int i)
    exact isi_val rfl ty (b := true) (by decide +kernel) ⟨_, rfl, iteT (isi_val rfl ty (b := false) (by decide +kernel) ⟨_, rfl, k⟩)⟩
theorem w__law_same {f : Addr} {fd : FuncData} (F : Fun K "_law_same" "_law_same" s__law_same f fd) (T : Blt mg) (c__law_is_integer : LW.CalW P w K mg base 1 "_law_is_integer" (spIsInt K)) : LW.FnW P w K mg base 2 f fd ["actual", "expected"] spSameI := by
  refine LW.fnW_of F sc__law_same (fun vs H Q E h => ?_) (fun cdv A outer s H vs Q hr h => ?_)
  · obtain ⟨i, rfl, _⟩ := h
    rfl
  · obtain ⟨i, rfl, k⟩ := h
    refine ⟨_, (pss_cons (ps_if (pt_cmpR op_isN (pv 1) pe_non (nomark _))
      (pss_one (ps_ret (pe_cmpR op_isN (pv 0) pe_non (nomark _))))
      pss_nil)
    (pss_cons (ps_if (pt_val (pe_callB call_isi (by rfl) T.b_isinstance (by decide +kernel) (pa_cons (pv 1) (pa_cons (pe_bltn (v := .ty "bool") (by rfl) T.b_bool (by decide +kernel) rfl) pa_nil))))
      (pss_one (ps_ret (pe_and (pe_callB call_isi (by rfl) T.b_isinstance (by decide +kernel) (pa_cons (pv 0) (pa_cons (pe_bltn (v := .ty "bool") (by rfl) T.b_bool (by decide +kernel) rfl) pa_nil))) (pe_one (pe_cmpR op_eq (pv 0) (pv 1) (nomark _))))))
      pss_nil)
    (pss_cons (ps_if (pt_val (pe_callB call_isi (by rfl) T.b_isinstance (by decide +kernel) (pa_cons (pv 1) (pa_cons (pe_bltn (v := .ty "int") (by rfl) T.b_int (by decide +kernel) rfl) pa_nil))))
      (pss_one (ps_ret (pe_and (LW.pe_cw c__law_is_integer hr (by first | decide | omega) rfl (pa_cons (pv 0) pa_nil)) (pe_one (pe_cmpR op_eq (pv 0) (pv 1) (nomark _))))))
      pss_nil)
    pss_never))), ?_⟩
    have ty : TyX K H (.int i) (.type "int") := .base (.int i)
    refine ⟨_, rfl, rfl, _, rfl, ?_⟩
    refine iteF (isi_test rfl ty (b := false) (by decide +kernel) (iteF (isi_test rfl ty (b := true) (by decide +kernel) (iteT ⟨_, rfl, i, rfl, _, rfl, iteT ⟨_, rfl, _, rfl, rfl, ?_⟩⟩))))
    rw [dec_self]
    exact k
end
end K02
namespace K02
open PySem PySem.Spec PyProof.Rows L2 LB
section
variable {P : Program} {w : World} {K : PySem.W.Frag} {mg : Str → Option Value} {base : Heap} {a_WORDS a_FORMS C CE fE : Addr} {es : Array DictEntry} {n : Nat}
/-! ### the reader's methods -/
theorem dec_int {a b : Nat} : decide (V.int (a : Int) = V.int (b : Int)) = decide (a = b) := decide_eq_decide.mpr ⟨fun h => by injection h with h; omega, fun h => by rw [h]⟩
theorem ok_Reader__place {f : Addr} {fd : FuncData} (F : Fun K "_place" "Reader._place" s_Reader__place f fd) (T : RTxt P w K mg a_WORDS a_FORMS C CE fE es n) : FnOk P w K mg base CX0 1 f fd ["self"] (spPlace K C) := by
  refine F.ok sc_Reader__place (fun vs H Q E h => ?_) (fun cdv A outer s H vs Q E hr h => ?_)
  · obtain ⟨r, l, S, i, rfl, _⟩ := h
    rfl
  · obtain ⟨r, l, S, i, rfl, R, k⟩ := h
    obtain ⟨dx, p, e, d⟩ := R.at_
    obtain ⟨xs, hs, hlen⟩ := R.list d
    refine ⟨_, (pss_cons (ps_if (pt_cmpR op_eq (pe_fld (pv 0) rfl) (pe_callB call_len_seq (by rfl) T.b_len (by decide +kernel) (pa_cons (pe_fld (pv 0) rfl) pa_nil)) (nomark _))
      (pss_one (ps_ret (pe_fld (pv 0) rfl)))
      pss_nil)
    (pss_one (ps_ret (pe_ix ix_tup (pe_ix ix_list (pe_fld (pv 0) rfl) (pe_fld (pv 0) rfl) (fun _ _ => rfl)) pe_int (fun _ _ => rfl))))), ?_⟩
    refine ⟨_, rfl, r, C, dx, _, _, rfl, e, T.cl, T.n_at, lk_at, _, rfl, r, C, dx, _, _, rfl, e, T.cl, T.n_tokens, lk_tokens, p, xs, rfl, .inl hs, rfl, _, rfl, ?_⟩
    rw [dec_int, hlen]
    refine ite2 (fun h => ?_) (fun h => ?_)
    · have h : i = (toksL l).length := by simpa using h
      rw [ts_nil h] at k
      exact ⟨_, rfl, r, C, dx, _, _, rfl, e, T.cl, T.n_end, lk_end, k⟩
    · have h : i < (toksL l).length := by
        have h : ¬ i = (toksL l).length := by simpa using h
        have := R.hi
        omega
      obtain ⟨xs, q, t, hs, hlen, hx, ht, hq, _⟩ := R.item h d
      rw [ts_cons ht] at k
      exact ⟨_, rfl, r, C, dx, _, _, rfl, e, T.cl, T.n_tokens, lk_tokens, _, rfl, r, C, dx, _, _, rfl, e, T.cl, T.n_at, lk_at, p, xs, _, _, rfl, rfl, hs, atI_nat hx, q, _, _, _, rfl, rfl, hq, atI_nat (j := 1) rfl, k⟩
theorem piece_str {l : List Nat} {t : Tk.Srt × Nat × Nat} (h : TokIn l 0 t) : Txt.slice ⟨l.toArray⟩ (some (t.2.1 : Int)) (some (t.2.2 : Int)) = (tokOf l t).str := slice_piece (by have := h.lt; have := h.hi; omega) h.hi
theorem ok_Reader_ahead {f : Addr} {fd : FuncData} (F : Fun K "ahead" "Reader.ahead" s_Reader_ahead f fd) (T : RTxt P w K mg a_WORDS a_FORMS C CE fE es n) : FnOk P w K mg base CX0 1 f fd ["self"] (spAhead K C) := by
  refine F.ok sc_Reader_ahead (fun vs H Q E h => ?_) (fun cdv A outer s H vs Q E hr h => ?_)
  · obtain ⟨r, l, S, i, rfl, _⟩ := h
    rfl
  · obtain ⟨r, l, S, i, rfl, R, k⟩ := h
    obtain ⟨dx, p, e, d⟩ := R.at_
    obtain ⟨xs, hs, hlen⟩ := R.list d
    refine ⟨_, (pss_cons (ps_if (pt_cmpR op_eq (pe_fld (pv 0) rfl) (pe_callB call_len_seq (by rfl) T.b_len (by decide +kernel) (pa_cons (pe_fld (pv 0) rfl) pa_nil)) (nomark _))
      (pss_one (ps_ret pe_str))
      pss_nil)
    (pss_cons (ps_asg (pe_ix ix_list (pe_fld (pv 0) rfl) (pe_fld (pv 0) rfl) (fun _ _ => rfl)) (pg_tup (by rfl) (pgs_cons (pg_name (i := 1) sc_Reader_ahead.nd rfl (Or.inl rfl)) (pgs_cons (pg_name (i := 2) sc_Reader_ahead.nd rfl (Or.inl rfl)) (pgs_cons (pg_name (i := 3) sc_Reader_ahead.nd rfl (Or.inl rfl)) pgs_nil)))))
    (pss_one (ps_ret (pe_kget2 T.kd_FORMS (C8.pe_gc rfl T.g_FORMS) (pv 1) (pe_slice C8.sl_txt (pe_fld (pv 0) rfl) (po_some (pv 2)) (po_some (pv 3))) ⟨by rfl, by rfl, by rfl, by rfl⟩))))), ?_⟩
    refine ⟨_, rfl, r, C, dx, _, _, rfl, e, T.cl, T.n_at, lk_at, _, rfl, r, C, dx, _, _, rfl, e, T.cl, T.n_tokens, lk_tokens, p, xs, rfl, .inl hs, rfl, _, rfl, ?_⟩
    rw [dec_int, hlen]
    refine ite2 (fun h => ?_) (fun h => ?_)
    · have h : i = (toksL l).length := by simpa using h
      rw [ts_nil h] at k
      exact k
    · have h : i < (toksL l).length := by
        have h : ¬ i = (toksL l).length := by simpa using h
        have := R.hi
        omega
      obtain ⟨xs, q, t, hs, hlen, hx, ht, hq, ti⟩ := R.item h d
      rw [ts_cons ht] at k
      refine ⟨_, rfl, r, C, dx, _, _, rfl, e, T.cl, T.n_tokens, lk_tokens, _, rfl, r, C, dx, _, _, rfl, e, T.cl, T.n_at, lk_at, p, xs, _, _, rfl, rfl, hs, atI_nat hx, q, _, rfl, hq, rfl, ?_⟩
      refine ⟨_, _, rfl, _, _, rfl, _, _, rfl, rfl, rfl, _, rfl, _, rfl, r, C, dx, _, _, rfl, e, T.cl, T.n_text, lk_text, _, rfl, _, rfl, _, rfl, _, rfl, _, rfl, szt (by have := R.hl; omega), ?_⟩
      rw [piece_str ti]
      obtain ⟨s, b, z⟩ := t
      cases s with
      | word => exact ⟨_, none, rfl, T.f_word, fun _ => k, fun u q => by cases q⟩
      | sign => exact ⟨_, none, rfl, T.f_sign, fun _ => k, fun u q => by cases q⟩
      | wrong => exact ⟨_, none, rfl, T.f_wrong, fun _ => k, fun u q => by cases q⟩
      | name =>
        obtain ⟨t, ht⟩ := T.f_name
        exact ⟨_, _, rfl, ht, fun q => (by cases q), fun u q => by cases q; exact ⟨.str "NAME", ⟨t, rfl⟩, k⟩⟩
      | number =>
        obtain ⟨t, ht⟩ := T.f_number
        exact ⟨_, _, rfl, ht, fun q => (by cases q), fun u q => by cases q; exact ⟨.str "NUMBER", ⟨t, rfl⟩, k⟩⟩
theorem shown_place {l : List Nat} (R : List PM.Tok) (h : place l R ≤ 100000) : ShownV (.int (place l R : Int)) := by
  have h1 := small_log (k := (place l R : Int)) (by omega) (by omega)
  exact ⟨h1, PyProof.Rows.int_text_len_1921 h1⟩
theorem endOf_le (l : List Nat) : endOf l ≤ l.length := by
  unfold endOf
  cases e : (toksL l).getLast? with
  | none => exact Nat.zero_le _
  | some t => exact (tok_in _ 0 (Nat.le_refl _) t (List.mem_of_getLast? e)).hi
theorem inV_strs (x : Str) (fs : List Str) : inV (.str x) (fs.map V.str) = decide (x ∈ fs) := by
  have e : inV (.str x) (fs.map V.str) = fs.any fun y => decide (y = x) := by
    unfold inV
    rw [List.any_map]
    rfl
  rw [e]
  refine beq_of ?_
  rw [List.any_eq_true, decide_eq_true_eq]
  exact ⟨fun ⟨y, hy, h⟩ => by rw [← of_decide_eq_true h]; exact hy, fun h => ⟨x, h, decide_eq_true rfl⟩⟩
theorem ok_Reader_take {f : Addr} {fd : FuncData} (F : Fun K "take" "Reader.take" s_Reader_take f fd) (T : RTxt P w K mg a_WORDS a_FORMS C CE fE es n)
    {fA fP : Addr} {fdA fdP : FuncData} (m_ahead : Meth K C "ahead" fA) (G_ahead : FnOk P w K mg base CX0 1 fA fdA ["self"] (spAhead K C)) (b_ahead : Binds K fdA ["self"] []) (m__place : Meth K C "_place" fP) (G__place : FnOk P w K mg base CX0 1 fP fdP ["self"] (spPlace K C)) (b__place : Binds K fdP ["self"] []) :
    FnR P w K mg base (L2.CX P w) 3 f (spTk K C CE) := by
  obtain ⟨oc, od, kV, doc, pm, an, cdv, ct, osl, rfl, lk, hcd⟩ := F.ex
  have G : FnR P w K mg base (L2.CX P w) 3 f _ := StX.fn_star (sp := spTkB K C CE) (N := N_Reader_take) (ps := ["self"]) (pv := "forms") (k := 2) lk hcd sc_Reader_take StX.cxUp (fun us rest hu => StX.bind_star1 (B := fun us => PySem.bindArgs (PySem.W.fnOf "take" "Reader.take" (defArgs s_Reader_take) (defBody s_Reader_take) (defScope s_Reader_take) .none kV doc pm an cdv ct) ⟨us, []⟩) (p1 := "self") (pv := "forms") (fun a => rfl) (fun a r rs => rfl) us rest hu) (fun A outer s H vs Q E hr h => by
    obtain ⟨r, t, l, S, i, fs, rfl, R, ht, hne, hfs, k⟩ := h
    obtain ⟨dx, p, e, d⟩ := R.at_
    obtain ⟨xs, hs, hlen⟩ := R.list d
    refine ⟨_, (pss_cons (ps_if (pt_cmpR op_notIn_seq (pe_meth0 (pv 0) T.cl m_ahead G_ahead (hr.mono (by decide)) b_ahead .nil pass0) (pv 1) (by rfl))
      (pss_one (ps_raiseSup rfl T.sup hr (takes_of rfl rfl rfl rfl) (pa_cons (pe_meth0 (pv 0) T.cl m__place G__place (hr.mono (by decide)) b__place .nil pass0) pa_nil)))
      pss_nil)
    (pss_cons (ps_asg (pe_ix ix_list (pe_fld (pv 0) rfl) (pe_fld (pv 0) rfl) (fun _ _ => rfl)) (pg_tup (by rfl) (pgs_cons (pg_name (i := 2) sc_Reader_take.nd rfl (Or.inl rfl)) (pgs_cons (pg_name (i := 3) sc_Reader_take.nd rfl (Or.inl rfl)) (pgs_cons (pg_name (i := 4) sc_Reader_take.nd rfl (Or.inl rfl)) pgs_nil)))))
    (pss_cons (ps_fldaug (pv 0) pe_int in_add)
    (pss_one (ps_ret (pe_slice C8.sl_txt (pe_fld (pv 0) rfl) (po_some (pv 3)) (po_some (pv 4)))))))), ?_⟩
    have fl : (fs.map V.str).all flatV = true := by
      rw [List.all_eq_true]
      intro v hv
      obtain ⟨y, _, rfl⟩ := List.mem_map.mp hv
      rfl
    refine ⟨_, rfl, r, dx, _, rfl, e, lk_ahead, r, l, S, i, rfl, R, _, rfl, t, _, rfl, .inr (SqT.of ht), rfl, fl, _, rfl, ?_⟩
    have ps : ∀ (hb : PM.aheadS (ts l i) ∉ fs), Raises CE r l H E (ts l i) := fun hb => by
      unfold PM.Wp at k
      cases hts : ts l i with
      | nil =>
        rw [hts] at k
        exact k
      | cons t r =>
        rw [hts] at k hb
        have e1 : PM.tok fs (t :: r) = .bad (t :: r) := by
          have hb : t.form ∉ fs := hb
          simp [PM.tok, hb]
        rw [e1] at k
        exact k
    show (if (!inV _ _) = true then _ else _ : Prop)
    rw [inV_strs]
    by_cases hb : PM.aheadS (ts l i) ∈ fs
    · rw [decide_eq_true hb]
      refine iteF ?_
      have hi : i < (toksL l).length := by
        have := R.hi
        by_cases h : i = (toksL l).length
        · rw [ts_nil h] at hb
          exact absurd hb hne
        · omega
      obtain ⟨xs, q, t, hs, hlen, hx, ht, hq, ti⟩ := R.item hi d
      rw [ts_cons ht] at k hb
      have hb : (tokOf l t).form ∈ fs := hb
      have e1 : PM.tok fs (tokOf l t :: ts l (i + 1)) = .ok (tokOf l t) (ts l (i + 1)) := by simp [PM.tok, hb]
      unfold PM.Wp at k
      rw [e1] at k
      refine ⟨_, rfl, r, C, dx, _, _, rfl, e, T.cl, T.n_tokens, lk_tokens, _, rfl, r, C, dx, _, _, rfl, e, T.cl, T.n_at, lk_at, p, xs, _, _, rfl, rfl, hs, atI_nat hx, q, _, rfl, hq, rfl, ?_⟩
      refine ⟨_, _, rfl, _, _, rfl, _, _, rfl, rfl, ?_⟩
      refine ⟨_, rfl, r, C, dx, _, _, rfl, e, T.cl, T.n_at, lk_at, _, _, rfl, rfl, _, _, e, (by show 4 < 1000; decide), ?_⟩
      rw [put_at]
      have R' := R.next e d hi
      have hz : ((i : Int) + 1) = ((i + 1 : Nat) : Int) := by omega
      rw [hz]
      refine ⟨_, rfl, r, C, dx, _, _, rfl, upd_same, T.cl, T.n_text, lk_text (p := p) (e := endOf l) (i := i + 1), _, rfl, _, rfl, _, rfl, _, rfl, _, rfl, szt (by have := R.hl; omega), ?_⟩
      rw [piece_str ti]
      refine k _ (i + 1) rfl R' (.upd_in (List.mem_singleton.mpr rfl)) hb (fun hf => ti.dig (form_number ti hf)) ?_
      show (Tk.piece l t.2.1 t.2.2).length ≤ 50000
      unfold Tk.piece
      have := R.hl
      rw [List.length_take, List.length_drop]
      omega
    · rw [decide_eq_false hb]
      have kb := ps hb
      have hp : place l (ts l i) ≤ 100000 := by
        have h1 := R.hl
        have h2 := endOf_le l
        by_cases h : i = (toksL l).length
        · rw [ts_nil h]
          show endOf l ≤ 100000
          omega
        · have hi : i < (toksL l).length := by have := R.hi; omega
          obtain ⟨xs, q, t, hs, hlen, hx, ht, hq, ti⟩ := R.item hi d
          rw [ts_cons ht]
          show t.2.1 ≤ 100000
          have := ti.hi
          have := ti.lt
          omega
      refine iteT ⟨_, rfl, r, dx, _, rfl, e, lk_place, r, l, S, i, rfl, R, _, rfl, shown_place _ hp, fun d nd => ?_⟩
      exact kb d _ nd (.upd_new nd) upd_same)
  intro A outer s H us vs Q E hr e0 hv h
  refine G A outer s H us vs Q E hr e0 hv ?_
  obtain ⟨r, l, S, i, fs, rfl, R, hne, hfs, k⟩ := h
  refine ⟨[.ref r], fs.map V.str, rfl, rfl, ?_, fun p np => ?_⟩
  · rw [List.length_map]
    exact Nat.le_trans hfs (by decide)
  · refine ⟨r, p, l, S, i, fs, rfl, R.new np, upd_same, hne, hfs, k.imp (fun t Rr h H' i' e1 R1 o1 h1 h2 h3 => h H' i' e1 R1 ((Out.upd_new np).trans o1) h1 h2 h3) (fun Rr hb d H' n o e1 => hb d H' ?_ ((Out.upd_new np).trans o) e1)⟩
    exact (Out.upd_new (S := []) np).free List.not_mem_nil n
theorem ok__value_of {f : Addr} {fd : FuncData} (F : Fun K "_value_of" "_value_of" s__value_of f fd) (T : RTxt P w K mg a_WORDS a_FORMS C CE fE es n) : FnOk P w K mg base CX0 1 f fd ["digits"] spVal := by
  refine F.ok sc__value_of (fun vs H Q E h => ?_) (fun cdv A outer s H vs Q E hr h => ?_)
  · obtain ⟨z, rfl, _⟩ := h
    rfl
  · obtain ⟨z, rfl, hz, hl, k⟩ := h
    refine ⟨_, (pss_cons (ps_set (i := 1) sc__value_of.nd rfl (Or.inl rfl) pe_int)
    (pss_cons (ps_for PassesOwn.never rfl (pi_str (pv 0)) (pg_name (i := 2) sc__value_of.nd rfl (Or.inl rfl))
      (pss_one (ps_set (i := 1) sc__value_of.nd rfl (Or.inl rfl) (pe_op op_mod (pe_op op_add (pe_op op_mul (pv 1) pe_int) (pe_callTy call_int_str (by rfl) T.b_int (by decide +kernel) (pa_cons (pv 2) pa_nil))) (C8.pe_gc rfl T.g_NUMBERS)))))
    (pss_one (ps_ret (pv 1))))), ?_⟩
    refine ⟨_, rfl, _, rfl, for_it (walk_str (z := ⟨z.toArray⟩)) (fun j σ H' => ∃ e2, σ = [some (txt z), some (.int (PM.numV (z.take j))), e2] ∧ H' = H ∧ 0 ≤ PM.numV (z.take j) ∧ PM.numV (z.take j) < 4294967296) ⟨none, rfl, rfl, (by show (0 : Int) ≤ 0; decide), (by show (0 : Int) < 4294967296; decide)⟩ (fun _ _ _ _ _ => True.intro) ?_ ?_⟩
    · rintro j x σ H1 H2 hj ⟨e2, rfl, rfl, h0, h1⟩ ⟨rfl, d, hd, rfl⟩
      have hd' : z[j]? = some d := by simpa using hd
      have hdig := hz d (List.mem_of_getElem? hd')
      have e : PM.numV (z.take (j + 1)) = (PM.numV (z.take j) * 10 + ((d - 48 : Nat) : Int)) % 4294967296 := by
        unfold PM.numV
        rw [List.take_add_one, hd', Option.toList_some, List.foldl_append]
        rfl
      refine ⟨_, rfl, _, _, rfl, rfl, .inl ⟨by omega, by omega⟩, _, rfl, _, _, rfl, digit_int hdig, by show 1 ≤ 640; decide, _, _, rfl, rfl, _, _, rfl, rfl, (by show (0 : Int) < 4294967296; decide), ?_⟩
      refine ⟨some (one d), ?_, rfl, ?_, ?_⟩
      · rw [e]
        rfl
      · rw [e]; exact Int.emod_nonneg _ (by decide)
      · rw [e]; exact Int.emod_lt_of_pos _ (by decide)
    · rintro σ H1 ⟨e2, rfl, rfl, h0, h1⟩
      have hs : (⟨z.toArray⟩ : Str).cps.size = z.length := by simp
      rw [hs, List.take_length] at *
      exact ⟨_, rfl, k⟩
def digSp (K : PySem.W.Frag) (C CE : Addr) : Sp := spRd K C CE (fun _ => PM.number) PyData.int
theorem ok_Reader_take_number {f : Addr} {fd : FuncData} (F : Fun K "take_number" "Reader.take_number" s_Reader_take_number f fd) (T : RTxt P w K mg a_WORDS a_FORMS C CE fE es n)
    {fT : Addr} (m_take : Meth K C "take" fT) (G_take : FnR P w K mg base (L2.CX P w) 3 fT (spTk K C CE)) (c__value_of : C8.Cal P w K mg base 1 "_value_of" spVal []) : FnOk P w K mg base (L2.CX P w) 4 f fd ["self"] (spRd K C CE (fun _ => PM.number) PyData.int) := by
  refine F.okX sc_Reader_take_number (fun vs H Q E h => ?_) (fun cdv A outer s H vs Q E hr h => ?_)
  · obtain ⟨r, l, S, i, n, rfl, _⟩ := h
    rfl
  · obtain ⟨r, l, S, i, n, rfl, R, _, k⟩ := h
    obtain ⟨dx, p, e, d⟩ := R.at_
    refine ⟨_, (pss_one (ps_ret (C8.pe_c c__value_of hr (by first | decide | omega) rfl (pa_cons (pe_methR (pv 0) T.cl m_take G_take (hr.mono (by decide)) (passes_call (takes_of rfl rfl rfl rfl) (fun _ _ _ _ h => h)) (pa_cons pe_str pa_nil)) pa_nil)))), ?_⟩
    simp only [PM.number, PM.wp_bnd, PM.wp_ret] at k
    refine ⟨_, rfl, r, dx, _, rfl, e, lk_take, r, l, S, i, ["NUMBER"], rfl, R, by decide +kernel, by decide, k.imp (fun t Rr h H1 i1 e1 R1 o1 hf hd hl => ?_) (fun Rr hb => hb)⟩
    have hf2 : t.form = ("NUMBER" : Str) := List.mem_singleton.mp hf
    exact ⟨t.text, rfl, hd hf2, hl, h _ H1 i1 e1 R1 o1 (.int _)⟩
mutual
theorem dp_ins {x : Addr} {dx : Addr} {fs : List (Str × V)} {H : Hp} (e : H x = some (.ins C dx fs)) : ∀ (d : PyData) (v : V), Dp K H v d → DpS K [x] H v d
  | .none, _, h => by cases h; exact .non
  | .bool b, _, h => by cases h; exact .bl b
  | .int i, _, h => by cases h; exact .int i
  | .str x, _, h => by cases h; exact .str x
  | .list ds, _, h => by
    cases h with
    | lst hs ha =>
      refine .lst ?_ (dps_ins e ds _ ha)
      rcases hs with (h | ⟨o, h⟩) | h
      · exact .inl (.inl (wo_some.mpr ⟨fun q => (by rw [List.mem_singleton.mp q, e] at h; cases h), h⟩))
      · exact .inl (.inr ⟨o, wo_some.mpr ⟨fun q => (by rw [List.mem_singleton.mp q, e] at h; cases h), h⟩⟩)
      · exact .inr h
  | .tuple ds, _, h => by
    cases h with
    | tup hs ha =>
      refine .tup ?_ (dps_ins e ds _ ha)
      rcases hs with (h | ⟨o, h⟩) | h
      · exact .inl (.inl (wo_some.mpr ⟨fun q => (by rw [List.mem_singleton.mp q, e] at h; cases h), h⟩))
      · exact .inl (.inr ⟨o, wo_some.mpr ⟨fun q => (by rw [List.mem_singleton.mp q, e] at h; cases h), h⟩⟩)
      · exact .inr h
  | .dict _, _, h => by cases h
theorem dps_ins {x : Addr} {dx : Addr} {fs : List (Str × V)} {H : Hp} (e : H x = some (.ins C dx fs)) : ∀ (ds : List PyData) (vs : List V), DpAll K H vs ds → DsS K [x] H vs ds
  | [], _, h => by cases h; exact .nil
  | d :: ds, _, h => by
    cases h with
    | cons h1 h2 => exact .cons (dp_ins e d _ h1) (dps_ins e ds _ h2)
end
theorem atI_lastI {xs : List V} {v : V} (h : 0 < xs.length) (hv : xs[xs.length - 1]? = some v) : atI xs (-1) = some v := by
  have hn : xs ≠ [] := List.ne_nil_of_length_pos h
  have e : xs.getLast hn = v := by
    have := List.getLast?_eq_getElem? (l := xs)
    rw [hv, List.getLast?_eq_getLast hn] at this
    exact Option.some.inj this
  have := atI_last xs.dropLast v
  rw [← e, List.dropLast_concat_getLast hn] at this
  rw [this, e]
theorem put_text {l : List Nat} : putF "_text" (txt l) [] = [(("_text" : Str), txt l)] := rfl
theorem put_tokens {l : List Nat} {p : Addr} : putF "_tokens" (.ref p) [(("_text" : Str), txt l)] = [(("_text" : Str), txt l), ("_tokens", .ref p)] := by
  simp [putF, show (Str.ofString "_text" = Str.ofString "_tokens") = False from eq_false (by decide +kernel)]
theorem put_end {l : List Nat} {p : Addr} {e : Int} : putF "_end" (.int e) [(("_text" : Str), txt l), ("_tokens", .ref p)] = [(("_text" : Str), txt l), ("_tokens", .ref p), ("_end", .int e)] := by
  simp [putF, show (Str.ofString "_text" = Str.ofString "_end") = False from eq_false (by decide +kernel), show (Str.ofString "_tokens" = Str.ofString "_end") = False from eq_false (by decide +kernel)]
theorem put_at0 {l : List Nat} {p : Addr} {e : Int} : putF "_at" (.int 0) [(("_text" : Str), txt l), ("_tokens", .ref p), ("_end", .int e)] = [(("_text" : Str), txt l), ("_tokens", .ref p), ("_end", .int e), ("_at", .int 0)] := by
  simp [putF, show (Str.ofString "_text" = Str.ofString "_at") = False from eq_false (by decide +kernel), show (Str.ofString "_tokens" = Str.ofString "_at") = False from eq_false (by decide +kernel), show (Str.ofString "_end" = Str.ofString "_at") = False from eq_false (by decide +kernel)]
theorem ok_Reader___init__ {f : Addr} {fd : FuncData} (F : Fun K "__init__" "Reader.__init__" s_Reader___init__ f fd) (T : RTxt P w K mg a_WORDS a_FORMS C CE fE es n) (c_tokens : C8.Cal P w K mg base 3 "tokens" (spTokens K) []) : FnOk P w K mg base CX0 4 f fd ["self", "text"] (spInitR K C) := by
  refine F.ok sc_Reader___init__ (fun vs H Q E h => ?_) (fun cdv A outer s H vs Q E hr h => ?_)
  · obtain ⟨x, dx, l, rfl, _⟩ := h
    rfl
  · obtain ⟨x, dx, l, rfl, hx, hl, k⟩ := h
    refine ⟨_, (pss_cons (ps_fld (pv 0) (pv 1) rfl)
    (pss_cons (ps_fld (pv 0) (C8.pe_c c_tokens hr (by first | decide | omega) rfl (pa_cons (pv 1) pa_nil)) rfl)
    (pss_cons (ps_fld (pv 0) (pe_ifExp (pt_truth (pe_fld (pv 0) rfl) (by intro _; rfl)) (pe_ix ix_tup (pe_ix ix_list (pe_fld (pv 0) rfl) (pe_un un_neg pe_int) (fun _ _ => rfl)) pe_int (fun _ _ => rfl)) pe_int) rfl)
    (pss_one (ps_fld (pv 0) pe_int rfl))))), ?_⟩
    refine ⟨_, rfl, _, rfl, x, C, dx, _, rfl, hx, T.cl, T.n_text, (by show 0 < 1000; decide), ?_⟩
    rw [put_text]
    refine ⟨_, rfl, l, rfl, hl, fun p H1 s1 np hp => ?_⟩
    have hx1 := s1 _ _ (upd_same (H := H) (a := x))
    have hp1 := dp_ins hx1 _ _ hp
    refine ⟨_, rfl, x, C, dx, _, rfl, hx1, T.cl, T.n_tokens, (by show 1 < 1000; decide), ?_⟩
    rw [put_tokens]
    have sub : ∀ b ∈ [x], b ∈ [x] := fun _ h => h
    have xin : x ∈ [x] := List.mem_singleton.mpr rfl
    generalize hH2 : upd H1 x (HO.ins C dx [(("_text" : Str), txt l), ("_tokens", .ref p)]) = H2
    have hx2 : H2 x = some (HO.ins C dx [(("_text" : Str), txt l), ("_tokens", .ref p)]) := by rw [← hH2]; exact upd_same
    have o2 : Out [x] H H2 := by
      rw [← hH2]
      exact ((Out.upd_in xin).trans (.of_same s1)).trans (.upd_in xin)
    have hp2 : DpS K [x] H2 (.ref p) (.list ((toksL l).map tokD)) := by
      rw [← hH2]
      exact dpS_out (.upd_in xin) hp1
    have lkt : List.lookup ("_tokens" : Str) [(("_text" : Str), txt l), ("_tokens", .ref p)] = some (.ref p) := by simp [List.lookup, fn1]
    -- the rest, whatever the end is
    have rest : ∀ e : Nat, e = endOf l → ∃ (q c : Addr) (dy : Addr) (fs : List (Str × V)), V.ref x = .ref q ∧ H2 q = some (.ins c dy fs) ∧ Cls K c ∧ NoAttr K c "_end" ∧ fs.length < 1000 ∧
        ∃ v1, [some (V.ref x), some (txt l)][0]? = some (some v1) ∧ ∃ (q2 c2 dy2 : Addr) (fs2 : List (Str × V)), v1 = .ref q2 ∧ (upd H2 q (.ins c dy (putF "_end" (.int (e : Int)) fs))) q2 = some (.ins c2 dy2 fs2) ∧ Cls K c2 ∧ NoAttr K c2 "_at" ∧ fs2.length < 1000 ∧ Q .non (upd (upd H2 q (.ins c dy (putF "_end" (.int (e : Int)) fs))) q2 (.ins c2 dy2 (putF "_at" (.int 0) fs2))) := fun e he => by
      refine ⟨x, C, dx, _, rfl, hx2, T.cl, T.n_end, (by show 2 < 1000; decide), ?_⟩
      rw [put_end]
      refine ⟨_, rfl, x, C, dx, _, rfl, upd_same, T.cl, T.n_at, (by show 3 < 1000; decide), ?_⟩
      rw [put_at0]
      refine k _ ⟨⟨dx, p, ?_, dpS_out ((Out.upd_in xin).trans (.upd_in xin)) hp2⟩, ?_, xin, Nat.zero_le _, hl⟩ (o2.trans ((Out.upd_in xin).trans (.upd_in xin)))
      · rw [upd_same, ← he]
        rfl
      · exact fun b hb => by rw [List.mem_singleton.mp hb, upd_same]; simp
    have d2 := dpS_in hp2
    cases d2 with
    | @lst _ xs _ hs ha =>
      have hlen := dpAll_len ha
      rw [List.length_map] at hlen
      cases hxs : xs with
      | nil =>
        rw [hxs] at hlen
        have e0 : toksL l = [] := List.eq_nil_of_length_eq_zero hlen.symm
        have he : (0 : Nat) = endOf l := by unfold endOf; rw [e0]; rfl
        exact ⟨_, rfl, x, C, dx, _, _, rfl, hx2, T.cl, T.n_tokens, lkt, false, .inl ⟨xs, hs, by rw [hxs]; rfl⟩, iteF ⟨_, rfl, rest 0 he⟩⟩
      | cons y ys =>
        have hpos : 0 < xs.length := by rw [hxs]; exact Nat.succ_pos _
        obtain ⟨v, d, hv, hd, hx⟩ := dpAll_get (i := xs.length - 1) ha (by omega)
        rw [List.getElem?_map] at hd
        cases et : (toksL l)[xs.length - 1]? with
        | none => rw [et] at hd; cases hd
        | some t =>
          rw [et] at hd
          have hd : tokD t = d := Option.some.inj hd
          subst hd
          have he : t.2.2 = endOf l := by
            unfold endOf
            rw [List.getLast?_eq_getElem?, ← hlen, et]
          cases hx with
          | @tup q zs _ h1 h2 =>
            cases h2 with
            | cons a b =>
            cases b with
            | cons b c =>
            cases c with
            | cons c z =>
            cases z
            cases a; cases b; cases c
            exact ⟨_, rfl, x, C, dx, _, _, rfl, hx2, T.cl, T.n_tokens, lkt, true, .inl ⟨xs, hs, by rw [hxs]; rfl⟩, iteT ⟨_, rfl, x, C, dx, _, _, rfl, hx2, T.cl, T.n_tokens, lkt, _, rfl, p, xs, _, _, rfl, rfl, hs, atI_lastI hpos hv, q, _, _, _, rfl, rfl, h1, atI_nat (j := 2) rfl, _, rfl, rest t.2.2 he⟩⟩

end
end K02
namespace K02
open PySem PySem.Spec PyProof.Rows L2 LB
section
variable {P : Program} {w : World} {K : PySem.W.Frag} {mg : Str → Option Value} {base : Heap} {a_WORDS a_FORMS C CE fE : Addr} {es : Array DictEntry} {n : Nat}
/-! ### the defs that read -/
structure RM (P : Program) (w : World) (K : PySem.W.Frag) (mg : Str → Option Value) (base : Heap) (C CE fA fT fN : Addr) (fdA fdN : FuncData) : Prop where
  m_ahead : Meth K C "ahead" fA
  G_ahead : FnOk P w K mg base CX0 1 fA fdA ["self"] (spAhead K C)
  b_ahead : Binds K fdA ["self"] []
  m_take : Meth K C "take" fT
  G_take : FnR P w K mg base (L2.CX P w) 3 fT (spTk K C CE)
  m_take_number : Meth K C "take_number" fN
  G_take_number : FnOk P w K mg base (L2.CX P w) 4 fN fdN ["self"] (spRd K C CE (fun _ => PM.number) PyData.int)
  b_take_number : Binds K fdN ["self"] []
theorem dec_str {a b : Str} : decide (V.str a = V.str b) = decide (a = b) := decide_eq_decide.mpr ⟨fun h => V.str.inj h, fun h => by rw [h]⟩
section
variable {fA fT fN : Addr} {fdA fdN : FuncData}
theorem ok__read_addition {f : Addr} {fd : FuncData} (F : Fun K "_read_addition" "_read_addition" s__read_addition f fd) (T : RTxt P w K mg a_WORDS a_FORMS C CE fE es n) (M : RM P w K mg base C CE fA fT fN fdA fdN) :
    FnOk P w K mg base (L2.CX P w) 5 f fd ["reader"] (spRd K C CE (fun _ => PM.addition) PyData.int) := by
  obtain ⟨m_ahead, G_ahead, b_ahead, m_take, G_take, m_take_number, G_take_number, b_take_number⟩ := M
  refine F.okX sc__read_addition (fun vs H Q E h => ?_) (fun cdv A outer s H vs Q E hr h => ?_)
  · obtain ⟨r, l, S, i, n, rfl, _⟩ := h
    rfl
  · obtain ⟨r, l, S, i, n, rfl, R, hn, k⟩ := h
    refine ⟨_, (pss_cons (ps_if (pt_cmpR op_ne (pe_meth0 (pv 0) T.cl m_ahead G_ahead (hr.mono (by decide)) b_ahead .nil pass0) pe_str (nomark _))
      (pss_one (ps_ret pe_int))
      pss_nil)
    (pss_cons (ps_expr (pe_methR (pv 0) T.cl m_take G_take (hr.mono (by decide)) (passes_call (takes_of rfl rfl rfl rfl) (fun _ _ _ _ h => h)) (pa_cons pe_str pa_nil)))
    (pss_one (ps_ret (pe_meth0 (pv 0) T.cl m_take_number G_take_number (hr.mono (by decide)) b_take_number .nil (passes_call (takes_of rfl rfl rfl rfl) (fun _ _ _ _ h => h))))))), ?_⟩
    simp only [PM.addition, PM.wp_bnd, PM.wp_ahead] at k
    refine st_ahead (l := l) (S := S) (i := i) rfl R ⟨rfl, _, rfl, ?_⟩
    rw [dec_str]
    by_cases h : PM.aheadS (ts l i) = ("+" : Str)
    · rw [if_pos h] at k
      rw [decide_eq_true h]
      simp only [PM.take, PM.wp_bnd, PM.wp_ret] at k
      refine iteF (st_take ["+"] rfl R .refl k fun t H1 i1 R1 o1 _ _ _ _ h => ?_)
      exact st_num rfl R1 o1 h fun a H2 i2 R2 o2 _ _ h => h _ H2 i2 rfl R2 o2 (.int _)
    · rw [if_neg h] at k
      rw [decide_eq_false h]
      exact iteT (k (.int 0) H i rfl R .refl (.int 0))
theorem dps1 {S : List Addr} {H : Hp} {v : V} {d : PyData} (a : DpS K S H v d) : DsS K S H [v] [d] := .cons a .nil
theorem dps2 {S : List Addr} {H : Hp} {v v2 : V} {d d2 : PyData} (a : DpS K S H v d) (b : DpS K S H v2 d2) : DsS K S H [v, v2] [d, d2] := .cons a (.cons b .nil)
theorem dps3 {S : List Addr} {H : Hp} {v v2 v3 : V} {d d2 d3 : PyData} (a : DpS K S H v d) (b : DpS K S H v2 d2) (c : DpS K S H v3 d3) : DsS K S H [v, v2, v3] [d, d2, d3] := .cons a (.cons b (.cons c .nil))
/-- a tuple is made and handed out -/
theorem give {r : Addr} {l : List Nat} {S : List Addr} {i : Nat} {H H1 : Hp} {Q : VK} {ds : List PyData} {vs : List V} (R : RS K C r l S i H1) (o : Out [r] H H1) (a : DsS K S H1 vs ds) (k : Goes K C r l S H Q (.tuple ds) (ts l i)) : ∀ p, H1 p = none → Q (.ref p) (upd H1 p (.tup vs)) := fun p np =>
  k (.ref p) _ i rfl (R.new np) (o.trans (.upd_new np)) (dpS_tup (R.al.new np) upd_same (dsS_out (.upd_new np) a))
theorem ok__read_value {f : Addr} {fd : FuncData} (F : Fun K "_read_value" "_read_value" s__read_value f fd) (T : RTxt P w K mg a_WORDS a_FORMS C CE fE es n) (M : RM P w K mg base C CE fA fT fN fdA fdN)
    (c__read_addition : CalX P w K mg base 5 "_read_addition" (spRd K C CE (fun _ => PM.addition) PyData.int)) : FnOk P w K mg base (L2.CX P w) 6 f fd ["reader"] (spRd K C CE (fun _ => PM.value) Vl.d) := by
  obtain ⟨m_ahead, G_ahead, b_ahead, m_take, G_take, m_take_number, G_take_number, b_take_number⟩ := M
  refine F.okX sc__read_value (fun vs H Q E h => ?_) (fun cdv A outer s H vs Q E hr h => ?_)
  · obtain ⟨r, l, S, i, n, rfl, _⟩ := h
    rfl
  · obtain ⟨r, l, S, i, n, rfl, R, hn, k⟩ := h
    refine ⟨_, (pss_cons (ps_set (i := 1) sc__read_value.nd rfl (Or.inl rfl) (pe_meth0 (pv 0) T.cl m_ahead G_ahead (hr.mono (by decide)) b_ahead .nil pass0))
    (pss_cons (ps_if (pt_cmpR op_eq (pv 1) pe_str (nomark _))
      (pss_one (ps_ret (pe_tup (pa_cons pe_str (pa_cons (pe_meth0 (pv 0) T.cl m_take_number G_take_number (hr.mono (by decide)) b_take_number .nil (passes_call (takes_of rfl rfl rfl rfl) (fun _ _ _ _ h => h))) pa_nil)))))
      pss_nil)
    (pss_cons (ps_if (pt_cmpR op_eq (pv 1) pe_str (nomark _))
      (pss_one (ps_ret (pe_tup (pa_cons pe_str (pa_cons (pe_methR (pv 0) T.cl m_take G_take (hr.mono (by decide)) (passes_call (takes_of rfl rfl rfl rfl) (fun _ _ _ _ h => h)) (pa_cons pe_str pa_nil)) pa_nil)))))
      pss_nil)
    (pss_cons (ps_set (i := 2) sc__read_value.nd rfl (Or.inl rfl) (pe_methR (pv 0) T.cl m_take G_take (hr.mono (by decide)) (passes_call (takes_of rfl rfl rfl rfl) (fun _ _ _ _ h => h)) (pa_cons pe_str (pa_cons pe_str (pa_cons pe_str pa_nil)))))
    (pss_cons (ps_if (pt_cmpR op_eq (pv 2) pe_str (nomark _))
      (pss_one (ps_ret (pe_tup (pa_cons pe_str pa_nil))))
      pss_nil)
    (pss_cons (ps_if (pt_cmpR op_eq (pv 2) pe_str (nomark _))
      (pss_one (ps_ret (pe_tup (pa_cons pe_str (pa_cons (pe_cx c__read_addition hr (by first | decide | omega) rfl (passes_call (takes_of rfl rfl rfl rfl) (fun _ _ _ _ h => h)) (pa_cons (pv 0) pa_nil)) pa_nil)))))
      pss_nil)
    (pss_cons (ps_set (i := 3) sc__read_value.nd rfl (Or.inl rfl) (pe_methR (pv 0) T.cl m_take G_take (hr.mono (by decide)) (passes_call (takes_of rfl rfl rfl rfl) (fun _ _ _ _ h => h)) (pa_cons pe_str pa_nil)))
    (pss_one (ps_ret (pe_tup (pa_cons pe_str (pa_cons (pv 3) (pa_cons (pe_cx c__read_addition hr (by first | decide | omega) rfl (passes_call (takes_of rfl rfl rfl rfl) (fun _ _ _ _ h => h)) (pa_cons (pv 0) pa_nil)) pa_nil))))))))))))), ?_⟩
    simp only [PM.value, PM.wp_bnd, PM.wp_ahead] at k
    refine st_ahead (l := l) (S := S) (i := i) rfl R ?_
    refine ⟨_, rfl, rfl, _, rfl, ?_⟩
    rw [dec_str]
    by_cases h1 : PM.aheadS (ts l i) = ("NUMBER" : Str)
    · rw [if_pos h1] at k
      rw [decide_eq_true h1]
      simp only [PM.wp_bnd, PM.wp_ret] at k
      refine iteT (st_num rfl R .refl k fun a H1 i1 R1 o1 _ _ h => ⟨by show 2 ≤ sizeLine; decide, fun p np => ?_⟩)
      exact give R1 o1 (dps2 (.str _) (.int _)) h p np
    rw [if_neg h1] at k
    rw [decide_eq_false h1]
    refine iteF ⟨_, rfl, rfl, _, rfl, ?_⟩
    rw [dec_str]
    by_cases h2 : PM.aheadS (ts l i) = ("NAME" : Str)
    · rw [if_pos h2] at k
      rw [decide_eq_true h2]
      simp only [PM.name, PM.take, PM.wp_bnd, PM.wp_ret] at k
      refine iteT (st_take ["NAME"] rfl R .refl k fun t H1 i1 R1 o1 _ _ _ _ h => ⟨by show 2 ≤ sizeLine; decide, fun p np => ?_⟩)
      exact give R1 o1 (dps2 (.str _) (.str _)) h p np
    rw [if_neg h2] at k
    rw [decide_eq_false h2]
    refine iteF ?_
    simp only [PM.take, PM.wp_bnd, PM.wp_ret] at k
    refine st_take ["none", "index", "told"] rfl R .refl k fun t H1 i1 R1 o1 _ _ _ _ k => ?_
    refine ⟨_, rfl, rfl, _, rfl, ?_⟩
    rw [dec_str]
    by_cases h3 : t.str = ("none" : Str)
    · rw [if_pos h3] at k
      rw [decide_eq_true h3]
      simp only [PM.wp_ret] at k
      exact iteT ⟨by show 1 ≤ sizeLine; decide, give R1 o1 (dps1 (.str _)) k⟩
    rw [if_neg h3] at k
    rw [decide_eq_false h3]
    refine iteF ⟨_, rfl, rfl, _, rfl, ?_⟩
    rw [dec_str]
    by_cases h4 : t.str = ("index" : Str)
    · rw [if_pos h4] at k
      rw [decide_eq_true h4]
      simp only [PM.wp_bnd, PM.wp_ret] at k
      refine iteT (st_rd (gp := PM.good_addition) (p := fun _ => PM.addition) (n := (toksL l).length + 1) rfl R1 o1 (by omega) k fun a v H2 i2 R2 o2 _ d2 _ h => ⟨by show 2 ≤ sizeLine; decide, give R2 o2 (dps2 (.str _) d2) h⟩)
    rw [if_neg h4] at k
    rw [decide_eq_false h4]
    refine iteF ?_
    simp only [PM.name, PM.take, PM.wp_bnd, PM.wp_ret] at k
    refine st_take ["NAME"] rfl R1 o1 k fun t2 H2 i2 R2 o2 _ _ _ _ k => ?_
    refine ⟨_, rfl, ?_⟩
    refine st_rd (gp := PM.good_addition) (p := fun _ => PM.addition) (n := (toksL l).length + 1) rfl R2 o2 (by omega) k fun a v H3 i3 R3 o3 _ d3 _ h => ⟨by show 3 ≤ sizeLine; decide, give R3 o3 (dps3 (.str _) (.str _) d3) h⟩
theorem ok__read_pair {f : Addr} {fd : FuncData} (F : Fun K "_read_pair" "_read_pair" s__read_pair f fd) (T : RTxt P w K mg a_WORDS a_FORMS C CE fE es n) (M : RM P w K mg base C CE fA fT fN fdA fdN)
    (c__read_value : CalX P w K mg base 6 "_read_value" (spRd K C CE (fun _ => PM.value) Vl.d)) : FnOk P w K mg base (L2.CX P w) 7 f fd ["reader"] (spRd K C CE (fun _ => PM.pair) valD) := by
  obtain ⟨m_ahead, G_ahead, b_ahead, m_take, G_take, m_take_number, G_take_number, b_take_number⟩ := M
  refine F.okX sc__read_pair (fun vs H Q E h => ?_) (fun cdv A outer s H vs Q E hr h => ?_)
  · obtain ⟨r, l, S, i, n, rfl, _⟩ := h
    rfl
  · obtain ⟨r, l, S, i, n, rfl, R, hn, k⟩ := h
    refine ⟨_, (pss_cons (ps_set (i := 1) sc__read_pair.nd rfl (Or.inl rfl) (pe_methR (pv 0) T.cl m_take G_take (hr.mono (by decide)) (passes_call (takes_of rfl rfl rfl rfl) (fun _ _ _ _ h => h)) (pa_cons pe_str pa_nil)))
    (pss_cons (ps_expr (pe_methR (pv 0) T.cl m_take G_take (hr.mono (by decide)) (passes_call (takes_of rfl rfl rfl rfl) (fun _ _ _ _ h => h)) (pa_cons pe_str pa_nil)))
    (pss_cons (ps_set (i := 2) sc__read_pair.nd rfl (Or.inl rfl) (pe_cx c__read_value hr (by first | decide | omega) rfl (passes_call (takes_of rfl rfl rfl rfl) (fun _ _ _ _ h => h)) (pa_cons (pv 0) pa_nil)))
    (pss_cons (ps_expr (pe_methR (pv 0) T.cl m_take G_take (hr.mono (by decide)) (passes_call (takes_of rfl rfl rfl rfl) (fun _ _ _ _ h => h)) (pa_cons pe_str pa_nil)))
    (pss_one (ps_ret (pe_tup (pa_cons (pv 1) (pa_cons (pv 2) pa_nil))))))))), ?_⟩
    simp only [PM.pair, PM.name, PM.take, PM.wp_bnd, PM.wp_ret] at k
    refine st_take ["NAME"] rfl R .refl k fun t1 H1 i1 R1 o1 _ _ _ _ k => ?_
    refine st_take ["="] rfl R1 o1 k fun t2 H2 i2 R2 o2 _ _ _ _ k => ?_
    refine st_rd (gp := PM.good_value) (p := fun _ => PM.value) (n := (toksL l).length + 1) rfl R2 o2 (by omega) k fun a v H3 i3 R3 o3 _ d3 _ k => ?_
    refine st_take [";"] rfl R3 o3 k fun t4 H4 i4 R4 o4 o34 _ _ _ k => ?_
    refine ⟨_, rfl, _, rfl, by show 2 ≤ sizeLine; decide, give R4 o4 (dps2 (.str _) (dpS_out (o34.mono fun b hb => by rw [List.mem_singleton.mp hb]; exact R3.rS) d3)) k⟩
end

end
end K02
namespace K02
open PySem PySem.Spec PyProof.Rows L2 LB
section
variable {P : Program} {w : World} {K : PySem.W.Frag} {mg : Str → Option Value} {base : Heap} {a_WORDS a_FORMS C CE fE : Addr} {es : Array DictEntry} {n : Nat}
/-! ### lists that are read -/
section
variable {r f : Addr} {l : List Nat} {S : List Addr} {i i2 : Nat} {H H0 H2 : Hp} {ds : List PyData} {v : V} {x : PyData}
theorem op_rd (O : OpenL K (f :: S) H f ds) (R : RS K C r l (f :: S) i H) (o : Out [r] H H2) : OpenL K (f :: S) H2 f ds :=
  O.out o (fun b hb => by rw [List.mem_singleton.mp hb]; exact R.rS) fun q => by
    obtain ⟨xs, e, _⟩ := O.at_
    exact R.nr e (List.mem_singleton.mp q)
theorem app_step (f0 : H0 f = none) (O2 : OpenL K (f :: S) H2 f ds) (R2 : RS K C r l (f :: S) i2 H2) (o : Out [r] H0 H2) (d : DpS K (f :: S) H2 v x) :
    ∃ xs, H2 f = some (.lst xs) ∧ xs.length = ds.length ∧ RS K C r l (f :: S) i2 (upd H2 f (.lst (xs ++ [v]))) ∧ OpenL K (f :: S) (upd H2 f (.lst (xs ++ [v]))) f (ds ++ [x]) ∧ Out [r] H0 (upd H2 f (.lst (xs ++ [v]))) := by
  obtain ⟨xs, e, _⟩ := O2.at_
  exact ⟨xs, e, O2.len e, R2.grow e (List.mem_cons_self ..), O2.snoc d e, o.fresh f0⟩
theorem close_tup (R : RS K C r l (f :: S) i H) (hr : r ∈ S) (O : OpenL K (f :: S) H f ds) : ∃ xs, H f = some (.lst xs) ∧ ∀ p, H p = none → RS K C r l S i (upd H p (.tup xs)) ∧ DpS K S (upd H p (.tup xs)) (.ref p) (.tuple ds) := by
  obtain ⟨xs, e, a⟩ := O.at_
  refine ⟨xs, e, fun p np => ?_⟩
  have R1 := R.less (S' := S) (fun b hb => List.mem_cons_of_mem _ hb) hr
  exact ⟨R1.new np, dpS_tup (R1.al.new np) upd_same (dsS_out (.upd_new np) (ds_close a))⟩
end
theorem cnt_dpS {S : List Addr} {H : Hp} (c : Option Int) : DpS K S H (cntV c) (cntD c) := cnt_dp c
section
variable {fA fT fN : Addr} {fdA fdN : FuncData}
theorem ok__read_thing {f : Addr} {fd : FuncData} (F : Fun K "_read_thing" "_read_thing" s__read_thing f fd) (T : RTxt P w K mg a_WORDS a_FORMS C CE fE es n) (M : RM P w K mg base C CE fA fT fN fdA fdN)
    (c__read_pair : CalX P w K mg base 7 "_read_pair" (spRd K C CE (fun _ => PM.pair) valD)) : FnOk P w K mg base (L2.CX P w) 8 f fd ["reader"] (spRd K C CE PM.thing Im.d) := by
  obtain ⟨m_ahead, G_ahead, b_ahead, m_take, G_take, m_take_number, G_take_number, b_take_number⟩ := M
  refine F.okX sc__read_thing (fun vs H Q E h => ?_) (fun cdv A outer s H vs Q E hr h => ?_)
  · obtain ⟨r, l, S, i, n, rfl, _⟩ := h
    rfl
  · obtain ⟨r, l, S, i, n, rfl, R, hn, k⟩ := h
    refine ⟨_, (pss_cons (ps_set (i := 1) sc__read_thing.nd rfl (Or.inl rfl) (pe_methR (pv 0) T.cl m_take G_take (hr.mono (by decide)) (passes_call (takes_of rfl rfl rfl rfl) (fun _ _ _ _ h => h)) (pa_cons pe_str pa_nil)))
    (pss_cons (ps_set (i := 2) sc__read_thing.nd rfl (Or.inl rfl) pe_non)
    (C8.pss_cut (ps_if (pt_cmpR op_eq (pe_meth0 (pv 0) T.cl m_ahead G_ahead (hr.mono (by decide)) b_ahead .nil pass0) pe_str (nomark _))
      (pss_cons (ps_expr (pe_methR (pv 0) T.cl m_take G_take (hr.mono (by decide)) (passes_call (takes_of rfl rfl rfl rfl) (fun _ _ _ _ h => h)) (pa_cons pe_str pa_nil)))
      (pss_one (ps_set (i := 2) sc__read_thing.nd rfl (Or.inl rfl) (pe_meth0 (pv 0) T.cl m_take_number G_take_number (hr.mono (by decide)) b_take_number .nil (passes_call (takes_of rfl rfl rfl rfl) (fun _ _ _ _ h => h))))))
      pss_nil)
    (pss_cons (ps_expr (pe_methR (pv 0) T.cl m_take G_take (hr.mono (by decide)) (passes_call (takes_of rfl rfl rfl rfl) (fun _ _ _ _ h => h)) (pa_cons pe_str pa_nil)))
    (pss_cons (ps_set (i := 3) sc__read_thing.nd rfl (Or.inl rfl) (pe_methR (pv 0) T.cl m_take G_take (hr.mono (by decide)) (passes_call (takes_of rfl rfl rfl rfl) (fun _ _ _ _ h => h)) (pa_cons pe_str pa_nil)))
    (pss_cons (ps_expr (pe_methR (pv 0) T.cl m_take G_take (hr.mono (by decide)) (passes_call (takes_of rfl rfl rfl rfl) (fun _ _ _ _ h => h)) (pa_cons pe_str pa_nil)))
    (pss_cons (ps_set (i := 4) sc__read_thing.nd rfl (Or.inl rfl) (pe_lst pa_nil))
    (pss_cons (ps_while (passes_of rfl) (pt_cmpR op_ne (pe_meth0 (pv 0) T.cl m_ahead G_ahead (hr.mono (by decide)) b_ahead .nil pass0) pe_str (nomark _))
      (pss_one (ps_expr (pe_bm PySem.F.plainAttrs_list PySem.F.slot_list_append PySem.F.type_list_append mt_append (pv 4) (pa_cons (pe_cx c__read_pair hr (by first | decide | omega) rfl (passes_call (takes_of rfl rfl rfl rfl) (fun _ _ _ _ h => h)) (pa_cons (pv 0) pa_nil)) pa_nil)))))
    (pss_cons (ps_expr (pe_methR (pv 0) T.cl m_take G_take (hr.mono (by decide)) (passes_call (takes_of rfl rfl rfl rfl) (fun _ _ _ _ h => h)) (pa_cons pe_str pa_nil)))
    (pss_one (ps_ret (pe_tup (pa_cons pe_str (pa_cons (pv 1) (pa_cons (pv 2) (pa_cons (pv 3) (pa_cons (pe_callTy call_tuple_of (by rfl) T.b_tuple (by decide +kernel) (pa_cons (pv 4) pa_nil)) pa_nil))))))))))))))))), ?_⟩
    simp only [PM.thing, PM.name, PM.take, PM.wp_bnd, PM.wp_ret, PM.wp_ahead] at k
    refine st_take ["NAME"] rfl R .refl k fun t1 H1 i1 R1 o1 _ _ _ le1 k => ?_
    refine ⟨fun σ' H' => ∃ (c : Option Int) (i' : Nat), σ' = [some (.ref r), some (.str t1.str), some (cntV c), none, none] ∧ RS K C r l S i' H' ∧ Out [r] H H' ∧ (toksL l).length - i' < n ∧ PM.Wp (PM.tok [":"]) (ts l i') (fun a R => PM.Wp (PM.tok ["NAME"]) R (fun a R => PM.Wp (PM.tok ["{"]) R (fun a_1 R => PM.Wp (PM.until_ "}" PM.pair n) R (fun vs R => PM.Wp (PM.tok ["}"]) R (fun a_2 R => Goes K C r l S H Q (Im.thing t1.str c a.str vs).d R) (Raises CE r l H E)) (Raises CE r l H E)) (Raises CE r l H E)) (Raises CE r l H E)) (Raises CE r l H E), ?_, ?_⟩
    · refine st_ahead (l := l) (S := S) (i := i1) rfl R1 ⟨rfl, _, rfl, ?_⟩
      rw [dec_str]
      by_cases h : PM.aheadS (ts l i1) = ("*" : Str)
      · rw [if_pos h] at k
        rw [decide_eq_true h]
        simp only [PM.wp_bnd, PM.wp_ret] at k
        refine iteT (st_take ["*"] rfl R1 o1 k fun t2 H2 i2 R2 o2 _ _ _ le2 k => ?_)
        refine st_num rfl R2 o2 k fun a H3 i3 R3 o3 _ le3 k => ?_
        exact ⟨some a, i3, rfl, R3, o3, by omega, k⟩
      · rw [if_neg h] at k
        rw [decide_eq_false h]
        simp only [PM.wp_ret] at k
        exact iteF ⟨none, i1, rfl, R1, o1, by omega, k⟩
    · rintro σ' H' ⟨c, i', rfl, R', o', hn', k⟩
      refine st_take [":"] rfl R' o' k fun t2 H2 i2 R2 o2 _ _ _ le2 k => ?_
      refine st_take ["NAME"] rfl R2 o2 k fun t3 H3 i3 R3 o3 _ _ _ le3 k => ?_
      refine st_take ["{"] rfl R3 o3 k fun t4 H4 i4 R4 o4 _ _ _ le4 k => ?_
      refine ⟨Nat.zero_le _, fun f nf => ?_⟩
      have f0 : H f = none := o4.free (fun q => R4.ne nf (List.mem_singleton.mp q)) nf
      refine rd_loop (D := valD) (N := (toksL l).length + 1) (R4.open_ nf) (OpenL.start nf) (o4.trans (.upd_new nf)) (by omega) (by omega) PM.prog_pair k (fun i5 H5 R5 Q' q => st_ahead rfl R5 ⟨rfl, _, rfl, by rw [dec_str]; exact q⟩) (fun ds i5 H5 nx R5 O5 o5 hN h50 k => ?_) (fun xs i5 H5 R5 O5 o5 h50 k => ?_)
      · obtain ⟨xs, e, _⟩ := id O5.at_
        refine ⟨_, rfl, .inl ⟨rfl, _, SqL.of e⟩, ?_⟩
        refine st_rd (gp := PM.good_pair) (p := fun _ => PM.pair) (n := (toksL l).length + 1) rfl R5 o5 (by omega) k fun a v H6 i6 R6 o6 o56 d6 _ k => ?_
        obtain ⟨ys, e6, hl6, R7, O7, o7⟩ := app_step f0 (op_rd O5 R5 o56) R6 o6 d6
        exact ⟨f, ys, _, rfl, rfl, e6, Nat.lt_of_le_of_lt (show ys.length ≤ 50000 by omega) (by decide), k i6 _ rfl R7 O7 o7⟩
      · refine st_take ["}"] rfl R5 o5 k fun t6 H6 i6 R6 o6 o56 _ _ le6 k => ?_
        obtain ⟨ys, e, cl⟩ := close_tup R6 R.rS (op_rd O5 R5 o56)
        refine ⟨_, rfl, _, rfl, _, rfl, _, rfl, f, ys, rfl, .inl ⟨SqL.of e, fun p np => ?_⟩⟩
        obtain ⟨R7, d7⟩ := cl p np
        refine ⟨by show 5 ≤ sizeLine; decide, give R7 (o6.trans (.upd_new np)) (.cons (.str _) (.cons (.str _) (.cons (cnt_dpS c) (.cons (.str _) (.cons d7 .nil))))) k⟩
end

end
end K02
namespace K02
open PySem PySem.Spec PyProof.Rows L2 LB
section
variable {P : Program} {w : World} {K : PySem.W.Frag} {mg : Str → Option Value} {base : Heap} {a_WORDS a_FORMS C CE fE : Addr} {es : Array DictEntry} {n : Nat}
section
variable {fA fT fN : Addr} {fdA fdN : FuncData}
theorem ok__read_field {f : Addr} {fd : FuncData} (F : Fun K "_read_field" "_read_field" s__read_field f fd) (T : RTxt P w K mg a_WORDS a_FORMS C CE fE es n) (M : RM P w K mg base C CE fA fT fN fdA fdN) :
    FnOk P w K mg base (L2.CX P w) 4 f fd ["reader"] (spRd K C CE PM.field Fd.d) := by
  obtain ⟨m_ahead, G_ahead, b_ahead, m_take, G_take, m_take_number, G_take_number, b_take_number⟩ := M
  refine F.okX sc__read_field (fun vs H Q E h => ?_) (fun cdv A outer s H vs Q E hr h => ?_)
  · obtain ⟨r, l, S, i, n, rfl, _⟩ := h
    rfl
  · obtain ⟨r, l, S, i, n, rfl, R, hn, k⟩ := h
    refine ⟨_, (pss_cons (ps_set (i := 1) sc__read_field.nd rfl (Or.inl rfl) (pe_methR (pv 0) T.cl m_take G_take (hr.mono (by decide)) (passes_call (takes_of rfl rfl rfl rfl) (fun _ _ _ _ h => h)) (pa_cons pe_str pa_nil)))
    (pss_cons (ps_expr (pe_methR (pv 0) T.cl m_take G_take (hr.mono (by decide)) (passes_call (takes_of rfl rfl rfl rfl) (fun _ _ _ _ h => h)) (pa_cons pe_str pa_nil)))
    (pss_cons (ps_set (i := 2) sc__read_field.nd rfl (Or.inl rfl) pe_str)
    (C8.pss_cut (ps_if (pt_cmpR op_eq (pe_methR (pv 0) T.cl m_take G_take (hr.mono (by decide)) (passes_call (takes_of rfl rfl rfl rfl) (fun _ _ _ _ h => h)) (pa_cons pe_str (pa_cons pe_str pa_nil))) pe_str (nomark _))
      (pss_one (ps_set (i := 2) sc__read_field.nd rfl (Or.inl rfl) (pe_methR (pv 0) T.cl m_take G_take (hr.mono (by decide)) (passes_call (takes_of rfl rfl rfl rfl) (fun _ _ _ _ h => h)) (pa_cons pe_str pa_nil))))
      pss_nil)
    (pss_cons (ps_set (i := 3) sc__read_field.nd rfl (Or.inl rfl) (pe_lst pa_nil))
    (pss_cons (ps_while (passes_of rfl) (pt_cmpR op_ne (pe_meth0 (pv 0) T.cl m_ahead G_ahead (hr.mono (by decide)) b_ahead .nil pass0) pe_str (nomark _))
      (pss_one (ps_expr (pe_bm PySem.F.plainAttrs_list PySem.F.slot_list_append PySem.F.type_list_append mt_append (pv 3) (pa_cons (pe_methR (pv 0) T.cl m_take G_take (hr.mono (by decide)) (passes_call (takes_of rfl rfl rfl rfl) (fun _ _ _ _ h => h)) (pa_cons pe_str (pa_cons pe_str (pa_cons pe_str pa_nil)))) pa_nil)))))
    (pss_cons (ps_expr (pe_methR (pv 0) T.cl m_take G_take (hr.mono (by decide)) (passes_call (takes_of rfl rfl rfl rfl) (fun _ _ _ _ h => h)) (pa_cons pe_str pa_nil)))
    (pss_one (ps_ret (pe_tup (pa_cons (pv 1) (pa_cons (pv 2) (pa_cons (pe_callTy call_tuple_of (by rfl) T.b_tuple (by decide +kernel) (pa_cons (pe_callB (cr_sortedTx rfl) (by rfl) T.b_sorted (by decide +kernel) (pa_cons (pe_callTy (cr_setTx rfl) (by rfl) T.b_set (by decide +kernel) (pa_cons (pv 3) pa_nil)) pa_nil)) pa_nil)) pa_nil))))))))))))), ?_⟩
    simp only [PM.field, PM.name, PM.wp_bnd, PM.wp_ret] at k
    simp only [PM.take, PM.wp_bnd, PM.wp_ret] at k
    refine st_take ["NAME"] rfl R .refl k fun t1 H1 i1 R1 o1 _ _ _ le1 k => ?_
    refine st_take [":"] rfl R1 o1 k fun t2 H2 i2 R2 o2 _ _ _ le2 k => ?_
    refine ⟨fun σ' H' => ∃ (g : Str) (i' : Nat), σ' = [some (.ref r), some (.str t1.str), some (.str g), none] ∧ RS K C r l S i' H' ∧ Out [r] H H' ∧ (toksL l).length - i' < n ∧ PM.Wp (PM.until_ ";" (PM.take ["fixed", "empty", "single"]) n) (ts l i') (fun ms R => PM.Wp (PM.tok [";"]) R (fun _ R => Goes K C r l S H Q (Fd.mk t1.str g (PM.marksOf ms)).d R) (Raises CE r l H E)) (Raises CE r l H E), ?_, ?_⟩
    · refine st_take ["number", "ref"] rfl R2 o2 k fun t3 H3 i3 R3 o3 _ _ _ le3 k => ?_
      refine ⟨rfl, _, rfl, ?_⟩
      rw [dec_str]
      by_cases h : t3.str = ("ref" : Str)
      · rw [if_pos h] at k
        rw [decide_eq_true h]
        simp only [PM.wp_bnd, PM.wp_ret] at k
        refine iteT (st_take ["NAME"] rfl R3 o3 k fun t4 H4 i4 R4 o4 _ _ _ le4 k => ?_)
        exact ⟨t4.str, i4, rfl, R4, o4, by omega, k⟩
      · rw [if_neg h] at k
        rw [decide_eq_false h]
        simp only [PM.wp_ret] at k
        exact iteF ⟨"", i3, rfl, R3, o3, by omega, k⟩
    · rintro σ' H' ⟨g, i', rfl, R', o', hn', k⟩
      refine ⟨Nat.zero_le _, fun f nf => ?_⟩
      have f0 : H f = none := o'.free (fun q => R'.ne nf (List.mem_singleton.mp q)) nf
      have k := k.out (PM.out_lp (PM.out_take (fs := ["fixed", "empty", "single"]) (by decide +kernel) (by decide +kernel)) n)
      refine rd_loop (D := PyData.str) (N := (toksL l).length + 1) (R'.open_ nf) (OpenL.start nf) (o'.trans (.upd_new nf)) (by omega) (by omega) (PM.prog_take _) k (fun i5 H5 R5 Q' q => st_ahead rfl R5 ⟨rfl, _, rfl, by rw [dec_str]; exact q⟩) (fun ds i5 H5 nx R5 O5 o5 hN h50 k => ?_) (fun xs i5 H5 R5 O5 o5 h50 k => ?_)
      · obtain ⟨xs, e, _⟩ := id O5.at_
        simp only [PM.take, PM.wp_bnd, PM.wp_ret] at k
        refine ⟨_, rfl, .inl ⟨rfl, _, SqL.of e⟩, ?_⟩
        refine st_take ["fixed", "empty", "single"] rfl R5 o5 k fun t H6 i6 R6 o6 o56 _ _ _ k => ?_
        obtain ⟨ys, e6, hl6, R7, O7, o7⟩ := app_step f0 (op_rd O5 R5 o56) R6 o6 (.str t.str)
        exact ⟨f, ys, _, rfl, rfl, e6, Nat.lt_of_le_of_lt (show ys.length ≤ 50000 by omega) (by decide), k i6 _ rfl R7 O7 o7⟩
      · obtain ⟨k, hms⟩ := k
        have hms : ∀ x ∈ xs, x ∈ markL := fun x hx => by
          have : ∀ y ∈ (["fixed", "empty", "single"] : List Str), y ∈ markL := by decide +kernel
          exact this x (hms x hx)
        refine st_take [";"] rfl R5 o5 k fun t6 H6 i6 R6 o6 o56 _ _ le6 k => ?_
        obtain ⟨ys, e, a⟩ := (op_rd O5 R5 o56).at_
        have ey : ys = xs.map V.str := ds_strs a
        subst ey
        refine ⟨_, rfl, _, rfl, _, rfl, f, xs, markL, rfl, SqL.of e, hms, by decide, fun p np => ?_⟩
        refine ⟨p, xs, markL, rfl, upd_same, hms, by decide, fun zs q h1 h2 h3 nq => ?_⟩
        have ez := sorted_marks h1 h2 h3 hms
        subst ez
        refine ⟨q, _, rfl, .inl ⟨SqL.of upd_same, fun u nu => ⟨by show 3 ≤ sizeLine; decide, ?_⟩⟩⟩
        have R7 := ((R6.less (S' := S) (fun b hb => List.mem_cons_of_mem _ hb) R.rS).new (o := SetTx w p xs) np).new (o := .lst ((PM.marksOf xs).map V.str)) nq
        have R8 := R7.new (o := .tup ((PM.marksOf xs).map V.str)) nu
        refine give R8 (((o6.trans (.upd_new np)).trans (.upd_new nq)).trans (.upd_new nu)) (.cons (.str _) (.cons (.str _) (.cons (dpS_tup ?_ upd_same (strD_ds _)) .nil))) k
        exact R7.al.new nu
theorem ok__read_kind {f : Addr} {fd : FuncData} (F : Fun K "_read_kind" "_read_kind" s__read_kind f fd) (T : RTxt P w K mg a_WORDS a_FORMS C CE fE es n) (M : RM P w K mg base C CE fA fT fN fdA fdN)
    (c__read_field : CalX P w K mg base 4 "_read_field" (spRd K C CE PM.field Fd.d)) : FnOk P w K mg base (L2.CX P w) 5 f fd ["reader"] (spRd K C CE PM.kind Kd.d) := by
  obtain ⟨m_ahead, G_ahead, b_ahead, m_take, G_take, m_take_number, G_take_number, b_take_number⟩ := M
  refine F.okX sc__read_kind (fun vs H Q E h => ?_) (fun cdv A outer s H vs Q E hr h => ?_)
  · obtain ⟨r, l, S, i, n, rfl, _⟩ := h
    rfl
  · obtain ⟨r, l, S, i, n, rfl, R, hn, k⟩ := h
    refine ⟨_, (pss_cons (ps_expr (pe_methR (pv 0) T.cl m_take G_take (hr.mono (by decide)) (passes_call (takes_of rfl rfl rfl rfl) (fun _ _ _ _ h => h)) (pa_cons pe_str pa_nil)))
    (pss_cons (ps_set (i := 1) sc__read_kind.nd rfl (Or.inl rfl) (pe_methR (pv 0) T.cl m_take G_take (hr.mono (by decide)) (passes_call (takes_of rfl rfl rfl rfl) (fun _ _ _ _ h => h)) (pa_cons pe_str pa_nil)))
    (pss_cons (ps_expr (pe_methR (pv 0) T.cl m_take G_take (hr.mono (by decide)) (passes_call (takes_of rfl rfl rfl rfl) (fun _ _ _ _ h => h)) (pa_cons pe_str pa_nil)))
    (pss_cons (ps_set (i := 2) sc__read_kind.nd rfl (Or.inl rfl) (pe_lst pa_nil))
    (pss_cons (ps_while (passes_of rfl) (pt_cmpR op_ne (pe_meth0 (pv 0) T.cl m_ahead G_ahead (hr.mono (by decide)) b_ahead .nil pass0) pe_str (nomark _))
      (pss_one (ps_expr (pe_bm PySem.F.plainAttrs_list PySem.F.slot_list_append PySem.F.type_list_append mt_append (pv 2) (pa_cons (pe_cx c__read_field hr (by first | decide | omega) rfl (passes_call (takes_of rfl rfl rfl rfl) (fun _ _ _ _ h => h)) (pa_cons (pv 0) pa_nil)) pa_nil)))))
    (pss_cons (ps_expr (pe_methR (pv 0) T.cl m_take G_take (hr.mono (by decide)) (passes_call (takes_of rfl rfl rfl rfl) (fun _ _ _ _ h => h)) (pa_cons pe_str pa_nil)))
    (pss_one (ps_ret (pe_tup (pa_cons (pv 1) (pa_cons (pe_callTy call_tuple_of (by rfl) T.b_tuple (by decide +kernel) (pa_cons (pv 2) pa_nil)) pa_nil))))))))))), ?_⟩
    simp only [PM.kind, PM.name, PM.take, PM.wp_bnd, PM.wp_ret] at k
    refine st_take ["kind"] rfl R .refl k fun t1 H1 i1 R1 o1 _ _ _ le1 k => ?_
    refine st_take ["NAME"] rfl R1 o1 k fun t2 H2 i2 R2 o2 _ _ _ le2 k => ?_
    refine st_take ["{"] rfl R2 o2 k fun t4 H4 i4 R4 o4 _ _ _ le4 k => ?_
    refine ⟨Nat.zero_le _, fun f nf => ?_⟩
    have f0 : H f = none := o4.free (fun q => R4.ne nf (List.mem_singleton.mp q)) nf
    refine rd_loop (D := Fd.d) (N := n) (R4.open_ nf) (OpenL.start nf) (o4.trans (.upd_new nf)) (by omega) (by omega) (PM.prog_field n) k (fun i5 H5 R5 Q' q => st_ahead rfl R5 ⟨rfl, _, rfl, by rw [dec_str]; exact q⟩) (fun ds i5 H5 nx R5 O5 o5 hN h50 k => ?_) (fun xs i5 H5 R5 O5 o5 h50 k => ?_)
    · obtain ⟨xs, e, _⟩ := id O5.at_
      refine ⟨_, rfl, .inl ⟨rfl, _, SqL.of e⟩, ?_⟩
      refine st_rd (gp := PM.good_field n) (n := n) rfl R5 o5 (by omega) k fun a v H6 i6 R6 o6 o56 d6 _ k => ?_
      obtain ⟨ys, e6, hl6, R7, O7, o7⟩ := app_step f0 (op_rd O5 R5 o56) R6 o6 d6
      exact ⟨f, ys, _, rfl, rfl, e6, Nat.lt_of_le_of_lt (show ys.length ≤ 50000 by omega) (by decide), k i6 _ rfl R7 O7 o7⟩
    · refine st_take ["}"] rfl R5 o5 k fun t6 H6 i6 R6 o6 o56 _ _ le6 k => ?_
      obtain ⟨ys, e, cl⟩ := close_tup R6 R.rS (op_rd O5 R5 o56)
      refine ⟨_, rfl, _, rfl, f, ys, rfl, .inl ⟨SqL.of e, fun p np => ?_⟩⟩
      obtain ⟨R7, d7⟩ := cl p np
      exact ⟨by show 2 ≤ sizeLine; decide, give R7 (o6.trans (.upd_new np)) (dps2 (.str _) d7) k⟩
theorem ok__read_item {f : Addr} {fd : FuncData} (F : Fun K "_read_item" "_read_item" s__read_item f fd) (T : RTxt P w K mg a_WORDS a_FORMS C CE fE es n) (M : RM P w K mg base C CE fA fT fN fdA fdN)
    (c__read_thing : CalX P w K mg base 8 "_read_thing" (spRd K C CE PM.thing Im.d)) : FnOk P w K mg base (L2.CX P w) 9 f fd ["reader"] (spRd K C CE PM.item Im.d) := by
  obtain ⟨m_ahead, G_ahead, b_ahead, m_take, G_take, m_take_number, G_take_number, b_take_number⟩ := M
  refine F.okX sc__read_item (fun vs H Q E h => ?_) (fun cdv A outer s H vs Q E hr h => ?_)
  · obtain ⟨r, l, S, i, n, rfl, _⟩ := h
    rfl
  · obtain ⟨r, l, S, i, n, rfl, R, hn, k⟩ := h
    refine ⟨_, (pss_cons (ps_set (i := 1) sc__read_item.nd rfl (Or.inl rfl) (pe_methR (pv 0) T.cl m_take G_take (hr.mono (by decide)) (passes_call (takes_of rfl rfl rfl rfl) (fun _ _ _ _ h => h)) (pa_cons pe_str (pa_cons pe_str (pa_cons pe_str (pa_cons pe_str (pa_cons pe_str pa_nil)))))))
    (pss_cons (ps_if (pt_cmpR op_eq (pv 1) pe_str (nomark _))
      (pss_one (ps_ret (pe_cx c__read_thing hr (by first | decide | omega) rfl (passes_call (takes_of rfl rfl rfl rfl) (fun _ _ _ _ h => h)) (pa_cons (pv 0) pa_nil))))
      pss_nil)
    (pss_cons (ps_if (pt_cmpR op_eq (pv 1) pe_str (nomark _))
      (pss_one (ps_set (i := 2) sc__read_item.nd rfl (Or.inl rfl) (pe_tup (pa_cons (pv 1) (pa_cons (pe_methR (pv 0) T.cl m_take G_take (hr.mono (by decide)) (passes_call (takes_of rfl rfl rfl rfl) (fun _ _ _ _ h => h)) (pa_cons pe_str pa_nil)) pa_nil)))))
      (pss_one (ps_if (pt_cmpR op_eq (pv 1) pe_str (nomark _))
        (pss_one (ps_set (i := 2) sc__read_item.nd rfl (Or.inl rfl) (pe_tup (pa_cons (pv 1) (pa_cons (pe_meth0 (pv 0) T.cl m_take_number G_take_number (hr.mono (by decide)) b_take_number .nil (passes_call (takes_of rfl rfl rfl rfl) (fun _ _ _ _ h => h))) pa_nil)))))
        (pss_one (ps_if (pt_cmpR op_eq (pv 1) pe_str (nomark _))
          (pss_cons (ps_set (i := 3) sc__read_item.nd rfl (Or.inl rfl) (pe_meth0 (pv 0) T.cl m_take_number G_take_number (hr.mono (by decide)) b_take_number .nil (passes_call (takes_of rfl rfl rfl rfl) (fun _ _ _ _ h => h))))
          (pss_cons (ps_expr (pe_methR (pv 0) T.cl m_take G_take (hr.mono (by decide)) (passes_call (takes_of rfl rfl rfl rfl) (fun _ _ _ _ h => h)) (pa_cons pe_str pa_nil)))
          (pss_one (ps_set (i := 2) sc__read_item.nd rfl (Or.inl rfl) (pe_tup (pa_cons (pv 1) (pa_cons (pv 3) (pa_cons (pe_methR (pv 0) T.cl m_take G_take (hr.mono (by decide)) (passes_call (takes_of rfl rfl rfl rfl) (fun _ _ _ _ h => h)) (pa_cons pe_str pa_nil)) pa_nil))))))))
          (pss_cons (ps_set (i := 4) sc__read_item.nd rfl (Or.inl rfl) (pe_methR (pv 0) T.cl m_take G_take (hr.mono (by decide)) (passes_call (takes_of rfl rfl rfl rfl) (fun _ _ _ _ h => h)) (pa_cons pe_str pa_nil)))
          (pss_cons (ps_expr (pe_methR (pv 0) T.cl m_take G_take (hr.mono (by decide)) (passes_call (takes_of rfl rfl rfl rfl) (fun _ _ _ _ h => h)) (pa_cons pe_str pa_nil)))
          (pss_one (ps_set (i := 2) sc__read_item.nd rfl (Or.inl rfl) (pe_tup (pa_cons (pv 1) (pa_cons (pv 4) (pa_cons (pe_methR (pv 0) T.cl m_take G_take (hr.mono (by decide)) (passes_call (takes_of rfl rfl rfl rfl) (fun _ _ _ _ h => h)) (pa_cons pe_str pa_nil)) pa_nil)))))))))))))
    (pss_cons (ps_expr (pe_methR (pv 0) T.cl m_take G_take (hr.mono (by decide)) (passes_call (takes_of rfl rfl rfl rfl) (fun _ _ _ _ h => h)) (pa_cons pe_str pa_nil)))
    (pss_one (ps_ret (pv 2))))))), ?_⟩
    simp only [PM.item, PM.name, PM.endIt, PM.take, PM.wp_bnd, PM.wp_ret] at k
    refine st_take ["thing", "keep", "most", "adopt", "move"] rfl R .refl k fun t1 H1 i1 R1 o1 _ hf _ le1 k => ?_
    have hw : t1.str ∈ (["thing", "keep", "most", "adopt", "move"] : List Str) := PM.form_str hf (by decide +kernel) (by decide +kernel)
    refine ⟨_, rfl, rfl, _, rfl, ?_⟩
    rw [dec_str]
    by_cases h1 : t1.str = ("thing" : Str)
    · rw [if_pos h1] at k
      rw [decide_eq_true h1]
      exact iteT (st_rd (gp := PM.good_thing n) (n := n) rfl R1 o1 (by omega) k fun a v H6 i6 R6 o6 o56 d6 _ k => k v _ i6 rfl R6 o6 d6)
    rw [if_neg h1] at k
    rw [decide_eq_false h1]
    refine iteF ⟨_, rfl, rfl, _, rfl, ?_⟩
    rw [dec_str]
    by_cases h2 : t1.str = ("keep" : Str)
    · rw [if_pos h2] at k
      rw [decide_eq_true h2]
      simp only [PM.wp_bnd, PM.wp_ret] at k
      refine iteT ⟨_, rfl, ?_⟩
      refine st_take ["NAME"] rfl R1 o1 k fun t2 H2 i2 R2 o2 _ _ _ le2 k => ?_
      refine ⟨by show 2 ≤ sizeLine; decide, fun p np => ?_⟩
      refine st_take [";"] rfl (R2.new np) (o2.trans (.upd_new np)) k fun t3 H3 i3 R3 o3 o23 _ _ le3 k => ?_
      refine ⟨_, rfl, k _ _ i3 rfl R3 o3 (dpS_out (o23.mono fun b hb => by rw [List.mem_singleton.mp hb]; exact R.rS) ?_)⟩
      rw [h2]
      exact dpS_tup (R2.al.new np) upd_same (dps2 (.str _) (.str _))
    rw [if_neg h2] at k
    rw [decide_eq_false h2]
    refine iteF ⟨_, rfl, rfl, _, rfl, ?_⟩
    rw [dec_str]
    by_cases h3 : t1.str = ("most" : Str)
    · rw [if_pos h3] at k
      rw [decide_eq_true h3]
      simp only [PM.wp_bnd, PM.wp_ret] at k
      refine iteT ⟨_, rfl, ?_⟩
      refine st_num rfl R1 o1 k fun a H2 i2 R2 o2 _ le2 k => ?_
      refine ⟨by show 2 ≤ sizeLine; decide, fun p np => ?_⟩
      refine st_take [";"] rfl (R2.new np) (o2.trans (.upd_new np)) k fun t3 H3 i3 R3 o3 o23 _ _ le3 k => ?_
      refine ⟨_, rfl, k _ _ i3 rfl R3 o3 (dpS_out (o23.mono fun b hb => by rw [List.mem_singleton.mp hb]; exact R.rS) ?_)⟩
      rw [h3]
      exact dpS_tup (R2.al.new np) upd_same (dps2 (.str _) (.int _))
    rw [if_neg h3] at k
    rw [decide_eq_false h3]
    refine iteF ⟨_, rfl, rfl, _, rfl, ?_⟩
    rw [dec_str]
    by_cases h4 : t1.str = ("adopt" : Str)
    · rw [if_pos h4] at k
      rw [decide_eq_true h4]
      simp only [PM.wp_bnd, PM.wp_ret] at k
      refine iteT ?_
      refine st_num rfl R1 o1 k fun a H2 i2 R2 o2 _ le2 k => ?_
      refine st_take ["as"] rfl R2 o2 k fun t3 H3 i3 R3 o3 _ _ _ le3 k => ?_
      refine ⟨_, rfl, _, rfl, ?_⟩
      refine st_take ["NAME"] rfl R3 o3 k fun t4 H4 i4 R4 o4 _ _ _ le4 k => ?_
      refine ⟨by show 3 ≤ sizeLine; decide, fun p np => ?_⟩
      refine st_take [";"] rfl (R4.new np) (o4.trans (.upd_new np)) k fun t5 H5 i5 R5 o5 o45 _ _ le5 k => ?_
      refine ⟨_, rfl, k _ _ i5 rfl R5 o5 (dpS_out (o45.mono fun b hb => by rw [List.mem_singleton.mp hb]; exact R.rS) ?_)⟩
      rw [h4]
      exact dpS_tup (R4.al.new np) upd_same (dps3 (.str _) (.int _) (.str _))
    rw [if_neg h4] at k
    rw [decide_eq_false h4]
    have h5 : t1.str = ("move" : Str) := by
      simp only [List.mem_cons, List.not_mem_nil, or_false] at hw
      rcases hw with h | h | h | h | h
      · exact absurd h h1
      · exact absurd h h2
      · exact absurd h h3
      · exact absurd h h4
      · exact h
    simp only [PM.wp_bnd, PM.wp_ret] at k
    refine iteF ?_
    refine st_take ["NAME"] rfl R1 o1 k fun t2 H2 i2 R2 o2 _ _ _ le2 k => ?_
    refine st_take ["to"] rfl R2 o2 k fun t3 H3 i3 R3 o3 _ _ _ le3 k => ?_
    refine ⟨_, rfl, _, rfl, ?_⟩
    refine st_take ["NAME"] rfl R3 o3 k fun t4 H4 i4 R4 o4 _ _ _ le4 k => ?_
    refine ⟨by show 3 ≤ sizeLine; decide, fun p np => ?_⟩
    refine st_take [";"] rfl (R4.new np) (o4.trans (.upd_new np)) k fun t5 H5 i5 R5 o5 o45 _ _ le5 k => ?_
    refine ⟨_, rfl, k _ _ i5 rfl R5 o5 (dpS_out (o45.mono fun b hb => by rw [List.mem_singleton.mp hb]; exact R.rS) ?_)⟩
    rw [h5]
    exact dpS_tup (R4.al.new np) upd_same (dps3 (.str _) (.str _) (.str _))
end

end
end K02
namespace K02
open PySem PySem.Spec PyProof.Rows L2 LB
section
variable {P : Program} {w : World} {K : PySem.W.Frag} {mg : Str → Option Value} {base : Heap} {a_WORDS a_FORMS C CE fE : Addr} {es : Array DictEntry} {n : Nat}
def spTree (K : PySem.W.Frag) (CE : Addr) (N : Nat) : Sp := fun vs H Q E => ∃ l : List Nat, vs = [txt l] ∧ l.length ≤ 50000 ∧
  PM.Wp (PM.tree N) (ts l 0) (fun t _ => ∀ v H', Same H H' → Dp K H' v t.d → Q v H') (fun R => ∀ (d : Addr) (H' : Hp), H d = none → Same H H' → H' d = some (.xd [("start", .int (place l R : Int))]) → E (.ref CE) (some d) H')
section
variable {fA fT fN : Addr} {fdA fdN : FuncData}
theorem ok_read_tree {N : Nat} (hN5 : 50000 < N) {f : Addr} {fd : FuncData} (F : Fun K "read_tree" "read_tree" s_read_tree f fd) (T : RTxt P w K mg a_WORDS a_FORMS C CE fE es n) (M : RM P w K mg base C CE fA fT fN fdA fdN)
    {fI : Addr} {fdI : FuncData} (MK_Reader : Mk K C fI) (G_Reader___init__ : FnOk P w K mg base CX0 4 fI fdI ["self", "text"] (spInitR K C)) (b_Reader___init__ : Binds K fdI ["self", "text"] [])
    (c__read_kind : CalX P w K mg base 5 "_read_kind" (spRd K C CE PM.kind Kd.d)) (c__read_item : CalX P w K mg base 9 "_read_item" (spRd K C CE PM.item Im.d)) : FnOk P w K mg base (L2.CX P w) 10 f fd ["text"] (spTree K CE N) := by
  obtain ⟨m_ahead, G_ahead, b_ahead, m_take, G_take, m_take_number, G_take_number, b_take_number⟩ := M
  refine F.okX sc_read_tree (fun vs H Q E h => ?_) (fun cdv A outer s H vs Q E hr h => ?_)
  · obtain ⟨l, rfl, _⟩ := h
    rfl
  · obtain ⟨l, rfl, hl, k⟩ := h
    refine ⟨_, (pss_cons (ps_set (i := 1) sc_read_tree.nd rfl (Or.inl rfl) (pe_make MK_Reader G_Reader___init__ (hr.mono (by decide)) (by rfl) T.g_Reader b_Reader___init__ .nil pass0 (pa_cons (pv 0) pa_nil)))
    (pss_cons (ps_set (i := 2) sc_read_tree.nd rfl (Or.inl rfl) (pe_lst pa_nil))
    (pss_cons (ps_while (passes_of rfl) (pt_cmpR op_eq (pe_meth0 (pv 1) T.cl m_ahead G_ahead (hr.mono (by decide)) b_ahead .nil pass0) pe_str (nomark _))
      (pss_one (ps_expr (pe_bm PySem.F.plainAttrs_list PySem.F.slot_list_append PySem.F.type_list_append mt_append (pv 2) (pa_cons (pe_cx c__read_kind hr (by first | decide | omega) rfl (passes_call (takes_of rfl rfl rfl rfl) (fun _ _ _ _ h => h)) (pa_cons (pv 1) pa_nil)) pa_nil)))))
    (pss_cons (ps_set (i := 3) sc_read_tree.nd rfl (Or.inl rfl) (pe_lst pa_nil))
    (pss_cons (ps_while (passes_of rfl) (pt_cmpR op_ne (pe_meth0 (pv 1) T.cl m_ahead G_ahead (hr.mono (by decide)) b_ahead .nil pass0) pe_str (nomark _))
      (pss_one (ps_expr (pe_bm PySem.F.plainAttrs_list PySem.F.slot_list_append PySem.F.type_list_append mt_append (pv 3) (pa_cons (pe_cx c__read_item hr (by first | decide | omega) rfl (passes_call (takes_of rfl rfl rfl rfl) (fun _ _ _ _ h => h)) (pa_cons (pv 1) pa_nil)) pa_nil)))))
    (pss_one (ps_ret (pe_tup (pa_cons (pe_callTy call_tuple_of (by rfl) T.b_tuple (by decide +kernel) (pa_cons (pv 2) pa_nil)) (pa_cons (pe_callTy call_tuple_of (by rfl) T.b_tuple (by decide +kernel) (pa_cons (pv 3) pa_nil)) pa_nil)))))))))), ?_⟩
    refine ⟨_, rfl, fun x dx nx ndx nex => ⟨x, dx, l, rfl, upd_same, hl, fun H1 R o => ⟨rfl, ?_⟩⟩⟩
    have htl := toksL_len l
    have s1 : Same H H1 := fun b z e => o b z (fun q => ne_of_none e nx (List.mem_singleton.mp q)) (by
      rw [upd_ne (ne_of_none e nx), upd_ne (ne_of_none e ndx)]
      exact e)
    have out_same : ∀ {H2 : Hp}, Out [x] H1 H2 → Same H H2 := fun o b z e => o b z (fun q => ne_of_none e nx (List.mem_singleton.mp q)) (s1 b z e)
    have k : PM.Wp (PM.tree N) (ts l 0) (fun t _ => ∀ v H', Same H H' → Dp K H' v t.d → Q v H') (Raises CE x l H1 E) := k.imp (fun _ _ h => h) (fun Rr hb d H2 n o2 e => hb d H2 (s1.free n) (out_same o2) e)
    simp only [PM.tree, PM.wp_bnd, PM.wp_ret] at k
    refine ⟨Nat.zero_le _, fun f nf => ?_⟩
    refine rd_loop (D := Kd.d) (N := N) (R.open_ nf) (OpenL.start nf) (.upd_new nf) (by omega) (by omega) (PM.prog_kind _) k (fun i5 H5 R5 Q' q => st_ahead (l := l) rfl R5 ⟨rfl, _, rfl, by rw [dec_str]; exact q⟩) (fun ds i5 H5 nx R5 O5 o5 hN h50 k => ?_) (fun xs i5 H5 R5 O5 o5 h50 k => ?_)
    · obtain ⟨zs, e, _⟩ := id O5.at_
      refine ⟨_, rfl, .inl ⟨rfl, _, SqL.of e⟩, ?_⟩
      refine st_rd (gp := PM.good_kind _) (n := N) rfl R5 o5 (by omega) k fun a v H6 i6 R6 o6 o56 d6 _ k => ?_
      obtain ⟨ys, e6, hl6, R7, O7, o7⟩ := app_step nf (op_rd O5 R5 o56) R6 o6 d6
      exact ⟨f, ys, _, rfl, rfl, e6, Nat.lt_of_le_of_lt (show ys.length ≤ 50000 by omega) (by decide), k i6 _ rfl R7 O7 o7⟩
    · refine ⟨Nat.zero_le _, fun g ng => ?_⟩
      obtain ⟨zs, e5, a5⟩ := id O5.at_
      have R5' := R5
      have k := k.imp (Ok' := fun is R => ∀ v H', Same H H' → Dp K H' v (LB.Tree.mk xs is).d → Q v H') (Bad' := Raises CE x l H5 E) (fun _ _ h => h) (fun Rr hb => R5.bad o5 hb)
      refine rd_loop (D := Im.d) (N := N) (R5.open_ ng) (OpenL.start ng) (.upd_new ng) (by omega) (by omega) (PM.prog_item _) k (fun i6 H6 R6 Q' q => st_ahead (l := l) rfl R6 ⟨rfl, _, rfl, by rw [dec_str]; exact q⟩) (fun ds i6 H6 nx R6 O6 o6 hN h50 k => ?_) (fun ys i7 H7 R7 O7 o7 h50 k => ?_)
      · obtain ⟨zs, e, _⟩ := id O6.at_
        refine ⟨_, rfl, .inl ⟨rfl, _, SqL.of e⟩, ?_⟩
        refine st_rd (gp := PM.good_item _) (n := N) rfl R6 o6 (by omega) k fun a v H8 i8 R8 o8 o68 d8 _ k => ?_
        obtain ⟨ys, e6, hl6, R7, O7, o7⟩ := app_step ng (op_rd O6 R6 o68) R8 o8 d8
        exact ⟨g, ys, _, rfl, rfl, e6, Nat.lt_of_le_of_lt (show ys.length ≤ 50000 by omega) (by decide), k i8 _ rfl R7 O7 o7⟩
      · obtain ⟨ws, e7, a7⟩ := id O7.at_
        have nfx : f ≠ x := R5.nr e5
        have ef : H7 f = some (.lst zs) := o7 _ _ (fun q => nfx (List.mem_singleton.mp q)) e5
        have af := dsS_in (dsS_out (o7.mono fun b hb => by rw [List.mem_singleton.mp hb]; exact R5.rS) a5)
        have ag := dsS_in a7
        refine ⟨_, rfl, f, zs, rfl, .inl ⟨SqL.of ef, fun p np => ?_⟩⟩
        refine ⟨_, rfl, g, ws, rfl, .inl ⟨SqL.of (by rw [upd_ne (ne_of_none e7 np)]; exact e7), fun q nq => ?_⟩⟩
        refine ⟨by show 2 ≤ sizeLine; decide, fun u nu => ?_⟩
        have sp := same_upd (o := .tup zs) np
        have sq := same_upd (o := .tup ws) nq
        have su := same_upd (o := .tup [.ref p, .ref q]) nu
        refine k _ _ ((out_same (o5.trans o7)).trans ((sp.trans sq).trans su)) ?_
        refine .tup (SqT.of upd_same) (.cons (.tup (SqT.of (su _ _ (sq _ _ upd_same))) (dpAll_mono ((sp.trans sq).trans su) _ _ af)) (.cons (.tup (SqT.of (su _ _ upd_same)) (dpAll_mono ((sp.trans sq).trans su) _ _ ag)) .nil))
end

end
end K02
namespace K02
open PySem PySem.Spec PyProof.Rows L2 LB
section
variable {P : Program} {w : World} {K : PySem.W.Frag} {mg : Str → Option Value} {base : Heap}
theorem ok__law_tape {f : Addr} {fd : FuncData} (F : Fun K "_law_tape" "_law_tape" s__law_tape f fd) (T : Blt mg) : FnOk P w K mg base CX0 1 f fd ["script"] (spTape K) := by
  refine F.ok sc__law_tape (fun vs H Q E h => ?_) (fun cdv A outer s H vs Q E hr h => ?_)
  · obtain ⟨a, ns, rfl, _⟩ := h
    rfl
  · obtain ⟨a, ns, rfl, hS, hlen, k⟩ := h
    refine ⟨_, (pss_cons (ps_setLc (i := 1) rfl sc__law_tape.nd rfl rfl (sw_true rfl rfl rfl (by decide +kernel)) (own := [("cell", 3)]) (pi_list (pv 0)) (blkOk_by (own := [("cell", 3)]) (N := N__law_tape) (sc := defScope s__law_tape) (by decide +kernel)) (fun _ _ _ _ _ => (pg_name (i := 3) sc__law_tape.nd rfl (Or.inl rfl))) (fun _ _ _ _ _ => pts_nil) (fun _ _ _ _ _ => (pe_callB call_abs (by rfl) T.b_abs (by decide +kernel) (pa_cons (pe_callTy call_int1 (by rfl) T.b_int (by decide +kernel) (pa_cons (pv 3) pa_nil)) pa_nil))))
    (pss_cons (ps_set (i := 2) sc__law_tape.nd rfl (Or.inl rfl) pe_int)
    (pss_cons (ps_for PassesOwn.never rfl (pi_list (pv 1)) (pg_name (i := 3) sc__law_tape.nd rfl (Or.inl rfl))
      (pss_one (ps_set (i := 2) sc__law_tape.nd rfl (Or.inl rfl) (pe_op op_mod (pe_callTy call_int1 (by rfl) T.b_int (by decide +kernel) (pa_cons (pe_op op_add (pe_op op_mul (pv 2) pe_int) (pv 3)) pa_nil)) pe_int))))
    (pss_one (ps_ret (pe_disp (pps_cons pe_str (pv 1) (pps_cons pe_str pe_int (pps_cons pe_str pe_int (pps_cons pe_str (pv 2) (pps_cons pe_str pe_int pps_nil))))) (by rfl) (by rfl) (fun z => by cases z) (by decide))))))), ?_⟩
    refine ⟨_, rfl, a, rfl, ⟨_, hS⟩, fun D hD => lc_list (K := K) (a := a) (xs := ns.map V.int) (fun i H' => Same H H' ∧ H' D = some (.lst ((ns.take i).map fun n => V.int (absI n)))) ⟨same_upd hD, by rw [upd_same]; rfl⟩ (fun i H' _ h => h.1.seq hS) ?_ ?_⟩
    · rintro i x H1 hx ⟨s1, hd⟩
      obtain ⟨n, hn, rfl⟩ : ∃ n, ns[i]? = some n ∧ V.int n = x := by
        rw [List.getElem?_map] at hx
        cases e : ns[i]? with
        | none => rw [e] at hx; cases hx
        | some n => rw [e] at hx; exact ⟨n, rfl, Option.some.inj hx⟩
      have hi := (List.getElem?_eq_some_iff.mp hn).1
      refine ⟨rfl, _, rfl, .inl ⟨_, rfl, _, rfl, _, hd, ?_, ?_, ?_⟩⟩
      · rw [List.length_map, List.length_take]
        exact Nat.lt_of_le_of_lt (show min i ns.length ≤ 100 by omega) (by decide)
      · exact fun b o e => by
          rw [upd_ne (ne_of_none e hD)]
          exact s1 b o e
      · rw [upd_same, List.take_add_one, hn, List.map_append]
        rfl
    · rintro H1 ⟨s1, hd⟩
      rw [List.length_map, List.take_length] at hd
      have hd' : H1 D = some (.lst ((ns.map absI).map V.int)) := by rw [hd, List.map_map]; rfl
      -- seed
      refine ⟨_, rfl, D, rfl, ⟨_, SqL.of hd'⟩, for_list (K := K) (a := D) (xs := (ns.map absI).map V.int) (fun i σ H' => H' = H1 ∧ ∃ (s : Int) (e3 : Option V), σ = [some (.ref a), some (.ref D), some (.int s), e3] ∧ 0 ≤ s ∧ s < 2147483647)
        ⟨rfl, 7, none, rfl, by decide, by decide⟩ (fun i σ H' _ h => by rw [h.1]; exact SqL.of hd') ?_ ?_⟩
      · rintro i x σ H2 hx ⟨rfl, s, e3, rfl, h0, h1⟩
        obtain ⟨n, hn, rfl⟩ : ∃ n, (ns.map absI)[i]? = some n ∧ V.int n = x := by
          rw [List.getElem?_map] at hx
          cases e : (ns.map absI)[i]? with
          | none => rw [e] at hx; cases hx
          | some n => rw [e] at hx; exact ⟨n, rfl, Option.some.inj hx⟩
        refine ⟨_, rfl, _, _, rfl, rfl, .inl ⟨by omega, by omega⟩, _, rfl, _, _, rfl, rfl, .inl ⟨_, rfl, _, _, rfl, rfl, (by show (0 : Int) < 2147483647; decide), ?_⟩⟩
        exact ⟨rfl, _, _, rfl, Int.emod_nonneg _ (by decide), Int.emod_lt_of_pos _ (by decide)⟩
      · rintro σ H2 ⟨rfl, s, e3, rfl, h0, h1⟩
        refine fun t nt => ⟨_, rfl, _, rfl, upd_same, tapeK D 0 0 s 0, rfl, by show 5 ≤ 15; decide, ?_⟩
        rw [p_new, upd_upd]
        have nD : D ≠ t := ne_of_none hd' nt
        refine k t D (ns.map absI) _ (s1.trans (same_upd nt)) (s1.free nt) hD ⟨⟨_, upd_same, 0, 0, s, 0, rfl, by decide, by omega, by decide, h0, h1⟩, by rw [upd_ne nD]; exact hd', fun x hx => ?_⟩
        obtain ⟨y, _, rfl⟩ := List.mem_map.mp hx
        unfold absI
        split <;> omega
theorem ok__law_take {f : Addr} {fd : FuncData} (F : Fun K "_law_take" "_law_take" s__law_take f fd) (T : Blt mg) : FnOk P w K mg base CX0 1 f fd ["tape", "many"] spTake := by
  refine F.ok sc__law_take (fun vs H Q E h => ?_) (fun cdv A outer s H vs Q E hr h => ?_)
  · obtain ⟨t, c, cs, many, rfl, _⟩ := h
    rfl
  · obtain ⟨t, c, cs, many, rfl, W, hm0, hm1, k⟩ := h
    have hu := hu_of hr
    refine ⟨_, (C8.pss_cut (ps_if (PW.pt (pw_and (pt_cmpR op_eq (pe_dget hu (pv 0) pe_str (fun _ _ => rfl)) pe_int (nomark _)) (pw_and1 (pt_cmpR op_lt (pe_dget hu (pv 0) pe_str (fun _ _ => rfl)) (pe_callB call_len_seq (by rfl) T.b_len (by decide +kernel) (pa_cons (pe_dget hu (pv 0) pe_str (fun _ _ => rfl)) pa_nil)) (nomark _)))))
      (pss_cons (ps_dput hu (pv 0) pe_str (pe_ix ix_list (pe_dget hu (pv 0) pe_str (fun _ _ => rfl)) (pe_dget hu (pv 0) pe_str (fun _ _ => rfl)) (fun _ _ => rfl)) rfl)
      (pss_one (ps_dput hu (pv 0) pe_str (pe_op op_add (pe_dget hu (pv 0) pe_str (fun _ _ => rfl)) pe_int) rfl)))
      pss_nil)
    (pss_cons (ps_if (pt_cmpR op_gt (pe_dget hu (pv 0) pe_str (fun _ _ => rfl)) pe_int (nomark _))
      (pss_cons (ps_set (i := 2) sc__law_take.nd rfl (Or.inl rfl) (pe_op op_modN (pe_callTy call_int1 (by rfl) T.b_int (by decide +kernel) (pa_cons (pe_dget hu (pv 0) pe_str (fun _ _ => rfl)) pa_nil)) (pv 1)))
      (pss_cons (ps_dput hu (pv 0) pe_str (pe_op op_fdivN (pe_dget hu (pv 0) pe_str (fun _ _ => rfl)) (pv 1)) rfl)
      (pss_one (ps_ret (pv 2)))))
      pss_nil)
    (pss_cons (ps_dput hu (pv 0) pe_str (pe_op op_add (pe_dget hu (pv 0) pe_str (fun _ _ => rfl)) pe_int) rfl)
    (pss_cons (ps_set (i := 3) sc__law_take.nd rfl (Or.inl rfl) (pe_op op_mod (pe_callTy call_int1 (by rfl) T.b_int (by decide +kernel) (pa_cons (pe_op op_add (pe_op op_mul (pe_dget hu (pv 0) pe_str (fun _ _ => rfl)) pe_int) (pe_op op_mul (pe_dget hu (pv 0) pe_str (fun _ _ => rfl)) pe_int)) pa_nil)) pe_int))
    (pss_cons (ps_set (i := 3) sc__law_take.nd rfl (Or.inl rfl) (pe_op op_mod (pe_callTy call_int1 (by rfl) T.b_int (by decide +kernel) (pa_cons (pe_op op_add (pe_op op_add (pe_op op_mul (pv 3) (pv 3)) (pe_op op_mul (pe_dget hu (pv 0) pe_str (fun _ _ => rfl)) pe_int)) pe_int) pa_nil)) pe_int))
    (pss_one (ps_ret (pe_op op_modN (pe_callTy call_int1 (by rfl) T.b_int (by decide +kernel) (pa_cons (pv 3) pa_nil)) (pv 1))))))))), ?_⟩
    obtain ⟨kvs, ht, a, l, s, z, rfl, ha0, ha1, hl0, hs0, hs1⟩ := W.dc
    refine ⟨fun σ' H' => σ' = [some (.ref t), some (.int many), none, none] ∧ ∃ (a l s z : Int), H' = upd H t (.dK (tapeK c a l s z)) ∧ 0 ≤ a ∧ a ≤ cs.length ∧ 0 ≤ l ∧ 0 ≤ s ∧ s < 2147483647, ?_, ?_⟩
    · have stay : ∃ (a' l' s' z' : Int), H = upd H t (.dK (tapeK c a' l' s' z')) ∧ 0 ≤ a' ∧ a' ≤ cs.length ∧ 0 ≤ l' ∧ 0 ≤ s' ∧ s' < 2147483647 := ⟨a, l, s, z, (upd_id ht).symm, ha0, ha1, hl0, hs0, hs1⟩
      refine ⟨_, rfl, t, _, rfl, dg_left ht, rfl, _, rfl, ite2 (fun h1 => ?_) (fun h1 => iteF ⟨rfl, stay⟩)⟩
      refine ⟨_, rfl, t, _, rfl, dg_at ht, _, rfl, t, _, rfl, dg_cells ht, c, _, rfl, .inl (SqL.of W.ls), _, _, rfl, rfl, _, rfl, ite2 (fun h2 => ?_) (fun h2 => ⟨rfl, stay⟩)⟩
      have h2 : a < (cs.length : Int) := by
        rw [List.length_map] at h2
        simpa using h2
      obtain ⟨x, hx⟩ : ∃ x, cs[a.toNat]? = some x := ⟨_, List.getElem?_eq_getElem (by omega)⟩
      have hx2 : (cs.map V.int)[a.toNat]? = some (.int x) := by rw [List.getElem?_map, hx]; rfl
      have hxn : 0 ≤ x := W.nn x (List.mem_of_getElem? hx)
      refine ⟨_, rfl, t, _, rfl, dg_cells ht, _, rfl, t, _, rfl, dg_at ht, c, _, _, _, rfl, rfl, SqL.of W.ls, at_of (by omega : a = (a.toNat : Int)) hx2, _, rfl, t, _, rfl, dp_left ht, ?_⟩
      refine ⟨_, rfl, t, _, rfl, dg_at upd_same, _, _, rfl, rfl, _, rfl, t, _, rfl, dp_at upd_same, rfl, a + 1, x, s, z, upd_upd, by omega, by omega, hxn, hs0, hs1⟩
    · rintro σ' H' ⟨rfl, a, l, s, z, rfl, ha0, ha1, hl0, hs0, hs1⟩
      refine ⟨_, rfl, t, _, rfl, dg_left upd_same, _, _, rfl, rfl, _, rfl, ite2 (fun h1 => ?_) (fun h1 => ?_)⟩
      · have h1 : 0 < l := by simpa using h1
        refine ⟨_, rfl, t, _, rfl, dg_left upd_same, .inl ⟨_, rfl, _, rfl, _, _, rfl, rfl, by omega, ?_⟩⟩
        refine ⟨_, rfl, t, _, rfl, dg_left upd_same, _, rfl, _, _, rfl, rfl, ⟨by omega, by omega⟩, _, rfl, t, _, rfl, dp_left upd_same, _, rfl, ?_⟩
        rw [upd_upd]
        show Q (V.int (Int.fmod l many)) (upd H t (.dK (tapeK c a (Int.fdiv l many) s z)))
        rw [Int.fmod_eq_emod_of_nonneg _ (by omega), Int.fdiv_eq_ediv_of_nonneg _ (by omega)]
        exact k _ _ (Int.emod_nonneg _ (by omega)) (Int.emod_lt_of_pos _ hm0) ⟨a, l / many, s, z, rfl, ha0, ha1, Int.ediv_nonneg hl0 (by omega), hs0, hs1⟩
      · refine ⟨_, rfl, t, _, rfl, dg_salt upd_same, _, _, rfl, rfl, _, rfl, t, _, rfl, dp_salt upd_same, ?_⟩
        refine ⟨_, rfl, t, _, rfl, dg_seed upd_same, _, _, rfl, rfl, .inl ⟨by omega, by omega⟩, _, rfl, t, _, rfl, dg_salt upd_same, _, _, rfl, rfl, .inr ⟨by decide, by decide⟩, _, _, rfl, rfl, .inl ⟨_, rfl, _, _, rfl, rfl, (by show (0 : Int) < 2147483647; decide), ?_⟩⟩
        have b1 := Int.emod_nonneg (s * 48271 + (z + 1) * 69621) (show (2147483647 : Int) ≠ 0 by decide)
        have b2 := Int.emod_lt_of_pos (s * 48271 + (z + 1) * 69621) (show (0 : Int) < 2147483647 by decide)
        refine ⟨_, rfl, _, rfl, _, _, rfl, rfl, .inl ⟨by omega, by omega⟩, _, rfl, t, _, rfl, dg_salt upd_same, _, _, rfl, rfl, .inr ⟨by decide, by decide⟩, _, _, rfl, rfl, _, _, rfl, rfl, .inl ⟨_, rfl, _, _, rfl, rfl, (by show (0 : Int) < 2147483399; decide), ?_⟩⟩
        refine ⟨_, rfl, .inl ⟨_, rfl, _, rfl, _, _, rfl, rfl, by omega, ?_⟩⟩
        rw [upd_upd]
        show Q (V.int (Int.fmod _ many)) _
        rw [Int.fmod_eq_emod_of_nonneg _ (by omega)]
        exact k _ _ (Int.emod_nonneg _ (by omega)) (Int.emod_lt_of_pos _ hm0) ⟨a, l, s, z + 1, rfl, ha0, ha1, hl0, hs0, hs1⟩
theorem ok__law_is_integer {f : Addr} {fd : FuncData} (F : Fun K "_law_is_integer" "_law_is_integer" s__law_is_integer f fd) (T : Blt mg) : FnOk P w K mg base CX0 1 f fd ["actual"] (spIsInt K) := by
  refine F.ok sc__law_is_integer (fun vs H Q E h => ?_) (fun cdv A outer s H vs Q E hr h => ?_)
  · obtain ⟨i, rfl, _⟩ := h
    rfl
  · obtain ⟨i, rfl, k⟩ := h
    refine ⟨_, (pss_one (ps_ret (pe_and (pe_callB call_isi (by rfl) T.b_isinstance (by decide +kernel) (pa_cons (pv 0) (pa_cons (pe_bltn (v := .ty "int") (by rfl) T.b_int (by decide +kernel) rfl) pa_nil))) (pe_one (pe_not (pe_callB call_isi (by rfl) T.b_isinstance (by decide +kernel) (pa_cons (pv 0) (pa_cons (pe_bltn (v := .ty "bool") (by rfl) T.b_bool (by decide +kernel) rfl) pa_nil)))))))), ?_⟩
    refine isi_val rfl (.base (.int i)) (b := true) (by decide +kernel) ⟨_, rfl, iteT ?_⟩
    exact isi_val rfl (.base (.int i)) (b := false) (by decide +kernel) ⟨_, rfl, k⟩
theorem ok__law_same_items {n : Nat} {f : Addr} {fd : FuncData} (F : Fun K "_law_same_items" "_law_same_items" s__law_same_items f fd) (T : Blt mg) {k0 : Nat} (c__law_same : C8.Cal P w K mg base k0 "_law_same" (spSame K n) []) :
    FnOk P w K mg base CX0 (k0 + 1) f fd ["actual", "expected"] (spItems K (n + 1)) := by
  refine F.ok sc__law_same_items (fun vs H Q E h => ?_) (fun cdv A outer s H vs Q E hr h => ?_)
  · obtain ⟨a, b, xs, ys, ds, rfl, _⟩ := h
    rfl
  · obtain ⟨a, b, xs, ys, ds, rfl, ha, hb, hx, hy, _, hlen, hds, k⟩ := h
    have lx : xs.length = ds.length := dpAll_len hx
    have ly : ys.length = ds.length := dpAll_len hy
    refine ⟨_, (pss_cons (ps_if (pt_cmpR op_ne (pe_callB call_len_seq (by rfl) T.b_len (by decide +kernel) (pa_cons (pv 0) pa_nil)) (pe_callB call_len_seq (by rfl) T.b_len (by decide +kernel) (pa_cons (pv 1) pa_nil)) (nomark _))
      (pss_one (ps_ret pe_bl))
      pss_nil)
    (pss_cons (ps_for PassesOwn.never rfl (pi_range1 (by rfl) T.b_range (pa_cons (pe_callB call_len_seq (by rfl) T.b_len (by decide +kernel) (pa_cons (pv 1) pa_nil)) pa_nil)) (pg_name (i := 2) sc__law_same_items.nd rfl (Or.inl rfl))
      (pss_one (ps_if (pt_not (pt_val (C8.pe_c c__law_same hr (by first | decide | omega) rfl (pa_cons (pe_ix ix_seq (pv 0) (pv 2) (fun _ _ => rfl)) (pa_cons (pe_ix ix_seq (pv 1) (pv 2) (fun _ _ => rfl)) pa_nil)))))
        (pss_one (ps_ret pe_bl))
        pss_nil)))
    (pss_one (ps_ret pe_bl)))), ?_⟩
    refine ⟨_, rfl, _, _, rfl, ha, _, rfl, _, _, rfl, hb, rfl, _, rfl, ?_⟩
    rw [lx, ly, dec_self]
    refine iteF ?_
    refine ⟨_, rfl, _, _, rfl, hb, _, rfl, by omega, by omega, ?_⟩
    rw [ly]
    refine for_range (n := ds.length) (fun i σ H' => H' = H ∧ ∃ e2, σ = [some (.ref a), some (.ref b), e2]) ⟨rfl, none, rfl⟩ ?_ ?_
    · rintro i σ H1 hi ⟨rfl, e2, rfl⟩
      rw [Int.zero_add]
      obtain ⟨x, d, hxi, hdi, hxd⟩ := dpAll_get hx (by omega : i < xs.length)
      obtain ⟨y, d', hyi, hdi', hyd⟩ := dpAll_get hy (by omega : i < ys.length)
      have ed : d = d' := Option.some.inj (hdi.symm.trans hdi')
      subst ed
      refine ⟨_, rfl, _, rfl, ix_x ha hxi ⟨_, rfl, _, rfl, ix_x hb hyi ?_⟩⟩
      exact ⟨x, y, d, rfl, hxd, hyd, hds d (List.mem_of_getElem? hdi), _, rfl, iteF ⟨rfl, _, rfl⟩⟩
    · rintro σ H1 ⟨rfl, e2, rfl⟩
      exact k
theorem ok__law_same {n : Nat} {f : Addr} {fd : FuncData} (F : Fun K "_law_same" "_law_same" s__law_same f fd) (T : Blt mg) {k0 : Nat} (hk : 1 ≤ k0) (c__law_same_items : C8.Cal P w K mg base k0 "_law_same_items" (spItems K n) []) (c__law_is_integer : C8.Cal P w K mg base 1 "_law_is_integer" (spIsInt K) []) :
    FnOk P w K mg base CX0 (k0 + 1) f fd ["actual", "expected"] (spSame K n) := by
  refine F.ok sc__law_same (fun vs H Q E h => ?_) (fun cdv A outer s H vs Q E hr h => ?_)
  · obtain ⟨x, y, d, rfl, _⟩ := h
    rfl
  · obtain ⟨x, y, d, rfl, hx, hy, hd, k⟩ := h
    have tx := ty_d hx
    have ty := ty_d hy
    refine ⟨_, (pss_cons (ps_if (pt_cmpR op_isN (pv 1) pe_non (nomark _))
      (pss_one (ps_ret (pe_cmpR op_isN (pv 0) pe_non (nomark _))))
      pss_nil)
    (pss_cons (ps_if (pt_val (pe_callB call_isi (by rfl) T.b_isinstance (by decide +kernel) (pa_cons (pv 1) (pa_cons (pe_bltn (v := .ty "bool") (by rfl) T.b_bool (by decide +kernel) rfl) pa_nil))))
      (pss_one (ps_ret (pe_and (pe_callB call_isi (by rfl) T.b_isinstance (by decide +kernel) (pa_cons (pv 0) (pa_cons (pe_bltn (v := .ty "bool") (by rfl) T.b_bool (by decide +kernel) rfl) pa_nil))) (pe_one (pe_cmpR op_eq (pv 0) (pv 1) (nomark _))))))
      pss_nil)
    (pss_cons (ps_if (pt_val (pe_callB call_isi (by rfl) T.b_isinstance (by decide +kernel) (pa_cons (pv 1) (pa_cons (pe_bltn (v := .ty "int") (by rfl) T.b_int (by decide +kernel) rfl) pa_nil))))
      (pss_one (ps_ret (pe_and (C8.pe_c c__law_is_integer hr (by first | decide | omega) rfl (pa_cons (pv 0) pa_nil)) (pe_one (pe_cmpR op_eq (pv 0) (pv 1) (nomark _))))))
      pss_nil)
    (pss_cons (ps_if (pt_val (pe_callB call_isi (by rfl) T.b_isinstance (by decide +kernel) (pa_cons (pv 1) (pa_cons (pe_bltn (v := .ty "str") (by rfl) T.b_str (by decide +kernel) rfl) pa_nil))))
      (pss_one (ps_ret (pe_and (pe_callB call_isi (by rfl) T.b_isinstance (by decide +kernel) (pa_cons (pv 0) (pa_cons (pe_bltn (v := .ty "str") (by rfl) T.b_str (by decide +kernel) rfl) pa_nil))) (pe_one (pe_cmpR op_eq (pv 0) (pv 1) (nomark _))))))
      pss_nil)
    (pss_cons (ps_if (pt_val (pe_callB call_isi (by rfl) T.b_isinstance (by decide +kernel) (pa_cons (pv 1) (pa_cons (pe_bltn (v := .ty "tuple") (by rfl) T.b_tuple (by decide +kernel) rfl) pa_nil))))
      (pss_one (ps_ret (pe_and (pe_callB call_isi (by rfl) T.b_isinstance (by decide +kernel) (pa_cons (pv 0) (pa_cons (pe_bltn (v := .ty "tuple") (by rfl) T.b_tuple (by decide +kernel) rfl) pa_nil))) (pe_one (C8.pe_c c__law_same_items hr (by first | decide | omega) rfl (pa_cons (pv 0) (pa_cons (pv 1) pa_nil)))))))
      pss_nil)
    (pss_cons (ps_if (pt_val (pe_callB call_isi (by rfl) T.b_isinstance (by decide +kernel) (pa_cons (pv 1) (pa_cons (pe_bltn (v := .ty "list") (by rfl) T.b_list (by decide +kernel) rfl) pa_nil))))
      (pss_one (ps_ret (pe_and (pe_callB call_isi (by rfl) T.b_isinstance (by decide +kernel) (pa_cons (pv 0) (pa_cons (pe_bltn (v := .ty "list") (by rfl) T.b_list (by decide +kernel) rfl) pa_nil))) (pe_one (C8.pe_c c__law_same_items hr (by first | decide | omega) rfl (pa_cons (pv 0) (pa_cons (pv 1) pa_nil)))))))
      pss_nil)
    pss_never)))))), ?_⟩
    refine ⟨_, rfl, rfl, _, rfl, ?_⟩
    cases d with
    | none =>
      cases hx
      cases hy
      exact iteT ⟨_, rfl, rfl, k⟩
    | bool b =>
      have tx : TyX K H x (.type "bool") := tx
      have ty : TyX K H y (.type "bool") := ty
      cases hx
      cases hy
      refine iteF (isi_test rfl ty (b := true) (by decide +kernel) (iteT (isi_val rfl tx (b := true) (by decide +kernel) ⟨_, rfl, iteT ⟨_, rfl, _, rfl, rfl, ?_⟩⟩)))
      rw [dec_self]
      exact k
    | int i =>
      have tx : TyX K H x (.type "int") := tx
      have ty : TyX K H y (.type "int") := ty
      cases hx
      cases hy
      refine iteF (isi_test rfl ty (b := false) (by decide +kernel) (iteF (isi_test rfl ty (b := true) (by decide +kernel) (iteT ⟨_, rfl, i, rfl, _, rfl, iteT ⟨_, rfl, _, rfl, rfl, ?_⟩⟩))))
      rw [dec_self]
      exact k
    | str z =>
      have tx : TyX K H x (.type "str") := tx
      have ty : TyX K H y (.type "str") := ty
      cases hx
      cases hy
      refine iteF (isi_test rfl ty (b := false) (by decide +kernel) (iteF (isi_test rfl ty (b := false) (by decide +kernel) (iteF (isi_test rfl ty (b := true) (by decide +kernel) (iteT (isi_val rfl tx (b := true) (by decide +kernel) ⟨_, rfl, iteT ⟨_, rfl, _, rfl, rfl, ?_⟩⟩)))))))
      rw [dec_self]
      exact k
    | tuple ds =>
      have tx : TyX K H x (.type "tuple") := tx
      have ty : TyX K H y (.type "tuple") := ty
      cases hx with
      | tup hx1 hx2 =>
      cases hy with
      | tup hy1 hy2 =>
      refine iteF (isi_test rfl ty (b := false) (by decide +kernel) (iteF (isi_test rfl ty (b := false) (by decide +kernel) (iteF (isi_test rfl ty (b := false) (by decide +kernel) (iteF (isi_test rfl ty (b := true) (by decide +kernel) (iteT (isi_val rfl tx (b := true) (by decide +kernel) ⟨_, rfl, iteT ⟨_, rfl, _, rfl, ?_⟩⟩)))))))))
      cases n with
      | zero => exact hd.elim
      | succ n => exact ⟨_, _, _, _, ds, rfl, .inr hx1, .inr hy1, hx2, hy2, Nat.succ_pos _, hd.1, hd.2, k⟩
    | list ds =>
      have tx : TyX K H x (.type "list") := tx
      have ty : TyX K H y (.type "list") := ty
      cases hx with
      | lst hx1 hx2 =>
      cases hy with
      | lst hy1 hy2 =>
      refine iteF (isi_test rfl ty (b := false) (by decide +kernel) (iteF (isi_test rfl ty (b := false) (by decide +kernel) (iteF (isi_test rfl ty (b := false) (by decide +kernel) (iteF (isi_test rfl ty (b := false) (by decide +kernel) (iteF (isi_test rfl ty (b := true) (by decide +kernel) (iteT (isi_val rfl tx (b := true) (by decide +kernel) ⟨_, rfl, iteT ⟨_, rfl, _, rfl, ?_⟩⟩)))))))))))
      cases n with
      | zero => exact hd.elim
      | succ n => exact ⟨_, _, _, _, ds, rfl, .inl hx1, .inl hy1, hx2, hy2, Nat.succ_pos _, hd.1, hd.2, k⟩
    | dict _ => cases hx
/-- both, at any depth -/
theorem cal_same {f1 f2 f3 : Addr} {fd1 fd2 fd3 : FuncData} (F1 : Fun K "_law_is_integer" "_law_is_integer" s__law_is_integer f1 fd1) (g1 : mg "_law_is_integer" = some (.ref f1)) (b1 : Binds K fd1 ["actual"] [])
    (F2 : Fun K "_law_same_items" "_law_same_items" s__law_same_items f2 fd2) (g2 : mg "_law_same_items" = some (.ref f2)) (b2 : Binds K fd2 ["actual", "expected"] [])
    (F3 : Fun K "_law_same" "_law_same" s__law_same f3 fd3) (g3 : mg "_law_same" = some (.ref f3)) (b3 : Binds K fd3 ["actual", "expected"] []) (T : Blt mg) : ∀ n, C8.Cal P w K mg base (2 * n + 2) "_law_same" (spSame K n) []
  | 0 => by
    have c1 : C8.Cal P w K mg base 1 "_law_is_integer" (spIsInt K) [] := cal F1 g1 b1 (ok__law_is_integer F1 T)
    have c2 : C8.Cal P w K mg base 1 "_law_same_items" (spItems K 0) [] := cal F2 g2 b2 (F2.ok sc__law_same_items (fun vs H Q E h => by
      obtain ⟨_, _, _, _, _, _, _, _, _, _, h, _⟩ := h
      exact absurd h (Nat.lt_irrefl _)) (fun cdv A outer s H vs Q E hr h => by
      obtain ⟨_, _, _, _, _, _, _, _, _, _, h, _⟩ := h
      exact absurd h (Nat.lt_irrefl _)))
    exact cal F3 g3 b3 (ok__law_same F3 T (Nat.le_refl _) c2 c1)
  | n + 1 => by
    have c1 : C8.Cal P w K mg base 1 "_law_is_integer" (spIsInt K) [] := cal F1 g1 b1 (ok__law_is_integer F1 T)
    have c0 := cal_same F1 g1 b1 F2 g2 b2 F3 g3 b3 T n
    have c2 : C8.Cal P w K mg base (2 * n + 2 + 1) "_law_same_items" (spItems K (n + 1)) [] := cal F2 g2 b2 (ok__law_same_items F2 T c0)
    exact cal F3 g3 b3 (ok__law_same F3 T (by omega) c2 c1)

end
section
variable {P : Program} {w : World} {K : PySem.W.Frag} {mg : Str → Option Value} {base : Heap} {a_WORDS : Addr}
theorem ok__law_letter {f : Addr} {fd : FuncData} (F : Fun K "_law_letter" "_law_letter" s__law_letter f fd) : FnOk P w K mg base CX0 1 f fd ["char"] spLetter := by
  refine F.ok sc__law_letter (fun vs H Q E h => ?_) (fun cdv A outer s H vs Q E hr h => ?_)
  · obtain ⟨c, rfl, _⟩ := h
    rfl
  · obtain ⟨c, rfl, k⟩ := h
    refine ⟨_, (pss_one (ps_ret (pe_or (pe_chain op_le_str op_le_str pe_str (pv 0) pe_str) (pe_one (pe_chain op_le_str op_le_str pe_str (pv 0) pe_str))))), ?_⟩
    refine ⟨_, rfl, _, _, rfl, rfl, _, rfl, ?_⟩
    rw [cp_one, ofs_a, le1]
    have e : Tk.letter c = ((decide (97 ≤ c) && decide (c ≤ 122)) || (decide (65 ≤ c) && decide (c ≤ 90))) := rfl
    rw [e] at k
    cases h1 : decide (97 ≤ c) with
    | true =>
      refine iteT ⟨_, _, rfl, rfl, ?_⟩
      rw [cp_one, ofs_z, le1]
      refine ⟨_, rfl, ?_⟩
      rw [h1] at k
      cases h2 : decide (c ≤ 122) with
      | true =>
        rw [h2] at k
        exact iteT k
      | false =>
        refine iteF ⟨_, rfl, _, _, rfl, rfl, _, rfl, ?_⟩
        rw [cp_one, ofs_A, le1]
        have h3 : decide (65 ≤ c) = true := by simp at h1 ⊢; omega
        have h4 : decide (c ≤ 90) = false := by simp at h1 ⊢; omega
        rw [h2, h3, h4] at k
        rw [h3]
        refine iteT ⟨_, _, rfl, rfl, ?_⟩
        rw [cp_one, ofs_Z, le1, h4]
        exact k
    | false =>
      refine iteF ⟨_, rfl, iteF ⟨_, rfl, _, _, rfl, rfl, _, rfl, ?_⟩⟩
      rw [h1] at k
      rw [cp_one, ofs_A, le1]
      cases h3 : decide (65 ≤ c) with
      | true =>
        refine iteT ⟨_, _, rfl, rfl, ?_⟩
        rw [h3] at k
        rw [cp_one, ofs_Z, le1]
        simpa using k
      | false =>
        refine iteF ?_
        rw [h3] at k
        simpa using k
theorem ok__law_digit {f : Addr} {fd : FuncData} (F : Fun K "_law_digit" "_law_digit" s__law_digit f fd) : FnOk P w K mg base CX0 1 f fd ["char"] spDigit := by
  refine F.ok sc__law_digit (fun vs H Q E h => ?_) (fun cdv A outer s H vs Q E hr h => ?_)
  · obtain ⟨c, rfl, _⟩ := h
    rfl
  · obtain ⟨c, rfl, k⟩ := h
    refine ⟨_, (pss_one (ps_ret (pe_chain op_le_str op_le_str pe_str (pv 0) pe_str))), ?_⟩
    refine ⟨_, rfl, _, _, rfl, rfl, _, rfl, ?_⟩
    rw [cp_one, ofs_0, le1]
    have e : Tk.digit c = (decide (48 ≤ c) && decide (c ≤ 57)) := rfl
    rw [e] at k
    cases h1 : decide (48 ≤ c) with
    | true =>
      refine iteT ⟨_, _, rfl, rfl, ?_⟩
      rw [h1] at k
      rw [cp_one, ofs_9, le1]
      simpa using k
    | false =>
      refine iteF ?_
      rw [h1] at k
      simpa using k
theorem ok__end_of_run {f : Addr} {fd : FuncData} (F : Fun K "_end_of_run" "_end_of_run" s__end_of_run f fd) (T : TTxt K mg a_WORDS) : FnOk P w K mg base CX0 1 f fd ["text", "start", "characters"] spRun := by
  refine F.ok sc__end_of_run (fun vs H Q E h => ?_) (fun cdv A outer s H vs Q E hr h => ?_)
  · obtain ⟨l, i, ch, p, rfl, _⟩ := h
    rfl
  · obtain ⟨l, i, ch, p, rfl, hl, hi, hp, k⟩ := h
    refine ⟨_, (pss_cons (ps_set (i := 3) sc__end_of_run.nd rfl (Or.inl rfl) (pv 1))
    (pss_cons (ps_while PassesOwn.never (PW.pt (pw_and (pt_cmpR op_lt (pv 3) (pe_callB call_len_str (by rfl) T.b_len (by decide +kernel) (pa_cons (pv 0) pa_nil)) (nomark _)) (pw_and1 (pt_cmpR op_in_sign (pe_ix ix_str (pv 0) (pv 3) (fun _ _ => rfl)) (pv 2) (by rfl)))))
      (pss_one (ps_aug (i := 3) sc__end_of_run.nd rfl (Or.inl rfl) pe_int ip_add)))
    (pss_one (ps_ret (pv 3))))), ?_⟩
    refine ⟨_, rfl, fun m σ H' => ∃ e : Nat, σ = [some (txt l), some (.int i), some (.str ch), some (.int e)] ∧ H' = H ∧ e ≤ l.length ∧ m = l.length - e ∧ e + Tk.run p (l.drop e) = i + Tk.run p (l.drop i), ⟨_, i, rfl, rfl, hi, rfl, rfl⟩, fun m σ H' hW => ?_⟩
    obtain ⟨e, rfl, rfl, he, rfl, hr'⟩ := hW
    refine ⟨_, rfl, _, rfl, _, rfl, szt hl, _, _, rfl, rfl, _, rfl, ?_⟩
    rw [slen]
    refine ite2 (fun h1 => ?_) (fun h1 => ?_)
    · have h1 : e < l.length := by simpa using h1
      obtain ⟨c, hc⟩ := getD_of h1
      refine ⟨_, rfl, _, rfl, _, _, c, rfl, rfl, szt hl, at_txt hc, _, rfl, _, _, rfl, rfl, _, rfl, ?_⟩
      rw [hp]
      refine ite2 (fun h2 => ?_) (fun h2 => ?_)
      · refine ⟨fun σ' H'' => ∃ e' : Nat, σ' = [some (txt l), some (.int i), some (.str ch), some (.int e')] ∧ H'' = H' ∧ e' = e + 1, fun σ' H'' hN => ?_, ?_⟩
        · obtain ⟨e', rfl, rfl, rfl⟩ := hN
          exact ⟨l.length - (e + 1), by omega, e + 1, rfl, rfl, h1, rfl, by rw [← run_step hc h2, hr']⟩
        · exact ⟨_, rfl, _, _, rfl, rfl, e + 1, rfl, rfl, rfl⟩
      · have h2 : p c = false := by simpa using h2
        rw [run_stop hc h2] at hr'
        refine ⟨_, rfl, ?_⟩
        rw [hr']
        exact k
    · have h1 : l.length ≤ e := by simpa using h1
      rw [run_over h1] at hr'
      refine ⟨_, rfl, ?_⟩
      rw [hr']
      exact k
theorem ok__end_of_note {f : Addr} {fd : FuncData} (F : Fun K "_end_of_note" "_end_of_note" s__end_of_note f fd) (T : TTxt K mg a_WORDS) : FnOk P w K mg base CX0 1 f fd ["text", "start"] spNote := by
  refine F.ok sc__end_of_note (fun vs H Q E h => ?_) (fun cdv A outer s H vs Q E hr h => ?_)
  · obtain ⟨l, i, rfl, _⟩ := h
    rfl
  · obtain ⟨l, i, rfl, hl, hi, k⟩ := h
    refine ⟨_, (pss_cons (ps_set (i := 2) sc__end_of_note.nd rfl (Or.inl rfl) (pe_bm PySem.F.plainAttrs_str PySem.F.slot_str_find PySem.F.type_str_find mt_find3 (pv 0) (pa_cons pe_str (pa_cons (pv 1) pa_nil))))
    (pss_one (ps_ret (pe_ifExp (pt_cmpR op_lt (pv 2) pe_int (nomark _)) (pe_callB call_len_str (by rfl) T.b_len (by decide +kernel) (pa_cons (pv 0) pa_nil)) (pv 2))))), ?_⟩
    refine ⟨_, rfl, rfl, _, rfl, _, _, _, rfl, rfl, ?_⟩
    have e : Txt.find3 ⟨l.toArray⟩ (Str.ofString "\n") (i : Int) = if Tk.noteEnd l i < l.length then ((Tk.noteEnd l i : Nat) : Int) else -1 := by
      rw [nl_eq]
      exact find3_one l 10 i hi
    refine ⟨_, rfl, _, _, rfl, rfl, _, rfl, ?_⟩
    rw [e]
    have h2 := (Tk.noteEnd_le hi).1
    by_cases h : Tk.noteEnd l i < l.length
    · rw [if_pos h, decide_eq_false (by omega)]
      refine iteF ⟨_, rfl, ?_⟩
      exact k
    · rw [if_neg h, decide_eq_true (by omega)]
      refine iteT ⟨_, rfl, _, rfl, szt hl, ?_⟩
      rw [slen]
      have : Tk.noteEnd l i = l.length := by omega
      rw [this] at k
      exact k
theorem ok__end_of_token {f : Addr} {fd : FuncData} (F : Fun K "_end_of_token" "_end_of_token" s__end_of_token f fd) (T : TTxt K mg a_WORDS) (c__end_of_run : C8.Cal P w K mg base 1 "_end_of_run" spRun []) : FnOk P w K mg base CX0 2 f fd ["text", "start"] spEnd := by
  refine F.ok sc__end_of_token (fun vs H Q E h => ?_) (fun cdv A outer s H vs Q E hr h => ?_)
  · obtain ⟨l, i, c, rfl, _⟩ := h
    rfl
  · obtain ⟨l, i, c, rfl, hl, hc, k⟩ := h
    rw [Tk.tokEnd_of hc] at k
    have hi := (List.getElem?_eq_some_iff.mp hc).1
    refine ⟨_, (pss_cons (ps_if (pt_cmpR op_in_sign (pe_ix ix_str (pv 0) (pv 1) (fun _ _ => rfl)) (C8.pe_gc rfl T.g_LETTERS) (by rfl))
      (pss_one (ps_ret (C8.pe_c c__end_of_run hr (by first | decide | omega) rfl (pa_cons (pv 0) (pa_cons (pv 1) (pa_cons (C8.pe_gc rfl T.g_NAME_CHARACTERS) pa_nil))))))
      pss_nil)
    (pss_cons (ps_if (pt_cmpR op_in_sign (pe_ix ix_str (pv 0) (pv 1) (fun _ _ => rfl)) (C8.pe_gc rfl T.g_DIGITS) (by rfl))
      (pss_one (ps_ret (C8.pe_c c__end_of_run hr (by first | decide | omega) rfl (pa_cons (pv 0) (pa_cons (pv 1) (pa_cons (C8.pe_gc rfl T.g_DIGITS) pa_nil))))))
      pss_nil)
    (pss_one (ps_ret (pe_op op_add (pv 1) pe_int))))), ?_⟩
    refine ⟨_, rfl, _, rfl, _, _, c, rfl, rfl, szt hl, at_txt hc, _, _, rfl, rfl, _, rfl, ?_⟩
    rw [in_letters]
    cases h1 : Tk.letter c with
    | true =>
      have hg : Tk.going c = Tk.inner := by unfold Tk.going; simp [h1]
      have hp : Tk.inner c = true := by unfold Tk.inner; simp [h1]
      rw [hg, ← run_step hc hp] at k
      exact iteT ⟨_, rfl, _, rfl, l, i, _, Tk.inner, rfl, hl, by omega, in_names, k⟩
    | false =>
      refine iteF ⟨_, rfl, _, rfl, _, _, c, rfl, rfl, szt hl, at_txt hc, _, _, rfl, rfl, _, rfl, ?_⟩
      rw [in_digits]
      cases h2 : Tk.digit c with
      | true =>
        have hg : Tk.going c = Tk.digit := by unfold Tk.going; simp [h1, h2]
        rw [hg, ← run_step hc h2] at k
        exact iteT ⟨_, rfl, _, rfl, l, i, _, Tk.digit, rfl, hl, by omega, in_digits, k⟩
      | false =>
        refine iteF ⟨_, rfl, _, _, rfl, rfl, ?_⟩
        have hg : Tk.going c = fun _ => false := by unfold Tk.going; simp [h1, h2]
        rw [hg, run_none] at k
        exact k
theorem ok__sort_of {f : Addr} {fd : FuncData} (F : Fun K "_sort_of" "_sort_of" s__sort_of f fd) (T : TTxt K mg a_WORDS) : FnOk P w K mg base CX0 1 f fd ["piece"] spSort := by
  refine F.ok sc__sort_of (fun vs H Q E h => ?_) (fun cdv A outer s H vs Q E hr h => ?_)
  · obtain ⟨c, r, rfl, _⟩ := h
    rfl
  · obtain ⟨c, r, rfl, hl, h1, k⟩ := h
    have e : Tk.sortOf isWord (c :: r) = if Tk.letter c then (if isWord (c :: r) then .word else .name) else if Tk.digit c then .number else if Tk.signC c then .sign else .wrong := rfl
    refine ⟨_, (pss_cons (ps_if (pt_cmpR op_in_seq (pv 0) (C8.pe_gc rfl T.g_WORDS) (by rfl))
      (pss_one (ps_ret pe_str))
      pss_nil)
    (pss_cons (ps_if (pt_cmpR op_in_sign (pe_ix ix_str (pv 0) pe_int (fun _ _ => rfl)) (C8.pe_gc rfl T.g_LETTERS) (by rfl))
      (pss_one (ps_ret pe_str))
      pss_nil)
    (pss_cons (ps_if (pt_cmpR op_in_sign (pe_ix ix_str (pv 0) pe_int (fun _ _ => rfl)) (C8.pe_gc rfl T.g_DIGITS) (by rfl))
      (pss_one (ps_ret pe_str))
      pss_nil)
    (pss_cons (ps_if (pt_cmpR op_in_sign (pv 0) (C8.pe_gc rfl T.g_SIGNS) (by rfl))
      (pss_one (ps_ret pe_str))
      pss_nil)
    (pss_one (ps_ret pe_str)))))), ?_⟩
    refine ⟨_, rfl, a_WORDS, _, rfl, Or.inr (T.o_WORDS _), rfl, words_flat, _, rfl, ?_⟩
    show (if inV (txt (c :: r)) (wordL.map V.str) = true then _ else _ : Prop)
    rw [inV_word]
    cases hw : isWord (c :: r) with
    | true =>
      rw [e, if_pos (word_letter hw), if_pos hw] at k
      exact iteT k
    | false =>
      refine iteF ⟨_, rfl, _, _, c, rfl, rfl, szt hl, at_txt (l := c :: r) (i := 0) rfl, _, _, rfl, rfl, _, rfl, ?_⟩
      rw [in_letters]
      cases h2 : Tk.letter c with
      | true =>
        rw [e, if_pos h2, hw] at k
        exact iteT k
      | false =>
        refine iteF ⟨_, rfl, _, _, c, rfl, rfl, szt hl, at_txt (l := c :: r) (i := 0) rfl, _, _, rfl, rfl, _, rfl, ?_⟩
        rw [in_digits]
        cases h3 : Tk.digit c with
        | true =>
          rw [e, h2, h3] at k
          exact iteT k
        | false =>
          obtain rfl := h1 h2 h3
          refine iteF ⟨_, rfl, _, _, rfl, rfl, _, rfl, ?_⟩
          rw [in_signs]
          cases h4 : Tk.signC c with
          | true =>
            rw [e, h2, h3, h4] at k
            exact iteT k
          | false =>
            rw [e, h2, h3, h4] at k
            exact iteF k
theorem ok_tokens {f : Addr} {fd : FuncData} (F : Fun K "tokens" "tokens" s_tokens f fd) (T : TTxt K mg a_WORDS) (c__end_of_note : C8.Cal P w K mg base 1 "_end_of_note" spNote []) (c__end_of_token : C8.Cal P w K mg base 2 "_end_of_token" spEnd [])
    (c__sort_of : C8.Cal P w K mg base 1 "_sort_of" spSort []) : FnOk P w K mg base CX0 3 f fd ["text"] (spTokens K) := by
  refine F.ok sc_tokens (fun vs H Q E h => ?_) (fun cdv A outer s H vs Q E hr h => ?_)
  · obtain ⟨l, rfl, _⟩ := h
    rfl
  · obtain ⟨l, rfl, hl', k⟩ := h
    have hl : l.length ≤ 100000 := by omega
    refine ⟨_, (pss_cons (ps_set (i := 1) sc_tokens.nd rfl (Or.inl rfl) (pe_lst pa_nil))
    (pss_cons (ps_set (i := 2) sc_tokens.nd rfl (Or.inl rfl) pe_int)
    (pss_cons (ps_while PassesOwn.never (pt_cmpR op_lt (pv 2) (pe_callB call_len_str (by rfl) T.b_len (by decide +kernel) (pa_cons (pv 0) pa_nil)) (nomark _))
      (pss_one (ps_if (pt_cmpR op_in_sign (pe_ix ix_str (pv 0) (pv 2) (fun _ _ => rfl)) (C8.pe_gc rfl T.g_BLANKS) (by rfl))
        (pss_one (ps_aug (i := 2) sc_tokens.nd rfl (Or.inl rfl) pe_int ip_add))
        (pss_one (ps_if (pt_cmpR op_eq (pe_ix ix_str (pv 0) (pv 2) (fun _ _ => rfl)) pe_str (nomark _))
          (pss_one (ps_set (i := 2) sc_tokens.nd rfl (Or.inl rfl) (C8.pe_c c__end_of_note hr (by first | decide | omega) rfl (pa_cons (pv 0) (pa_cons (pv 2) pa_nil)))))
          (pss_cons (ps_set (i := 3) sc_tokens.nd rfl (Or.inl rfl) (C8.pe_c c__end_of_token hr (by first | decide | omega) rfl (pa_cons (pv 0) (pa_cons (pv 2) pa_nil))))
          (pss_cons (ps_expr (pe_bm PySem.F.plainAttrs_list PySem.F.slot_list_append PySem.F.type_list_append mt_append (pv 1) (pa_cons (pe_tup (pa_cons (C8.pe_c c__sort_of hr (by first | decide | omega) rfl (pa_cons (pe_slice C8.sl_txt (pv 0) (po_some (pv 2)) (po_some (pv 3))) pa_nil)) (pa_cons (pv 2) (pa_cons (pv 3) pa_nil)))) pa_nil)))
          (pss_one (ps_set (i := 2) sc_tokens.nd rfl (Or.inl rfl) (pv 3))))))))))
    (pss_one (ps_ret (pv 1)))))), ?_⟩
    refine ⟨Nat.zero_le _, fun g ng => ?_⟩
    refine ⟨fun m σ H' => ∃ (i : Nat) (ps : List V) (done : List (Tk.Srt × Nat × Nat)) (G : Hp) (e3 : Option V), σ = [some (txt l), some (.ref g), some (.int (i : Int)), e3] ∧ Same H G ∧ G g = none ∧ Same G H' ∧ H' g = some (.lst ps) ∧
        DpAll K G ps (done.map tokD) ∧ i ≤ l.length ∧ m = l.length - i ∧ done.length ≤ i ∧ done ++ Tk.from_ isWord l i = Tk.from_ isWord l 0,
      ⟨_, 0, [], [], H, none, rfl, Same.refl H, ng, same_upd ng, upd_same, .nil, Nat.zero_le _, rfl, Nat.le_refl _, rfl⟩, fun m σ H' hW => ?_⟩
    obtain ⟨i, ps, done, G, e3, rfl, s0, gg, s1, hg, hd, hi, rfl, hlen, hdone⟩ := hW
    refine ⟨_, rfl, _, rfl, _, rfl, szt hl, _, _, rfl, rfl, _, rfl, ?_⟩
    rw [slen]
    refine ite2 (fun h1 => ?_) (fun h1 => ?_)
    · have h1 : i < l.length := by simpa using h1
      obtain ⟨c, hc⟩ := getD_of h1
      refine ⟨_, fun _ _ h => h, ?_⟩
      refine ⟨_, rfl, _, rfl, _, _, c, rfl, rfl, szt hl, at_txt hc, _, _, rfl, rfl, _, rfl, ?_⟩
      rw [in_blanks]
      cases hb : Tk.blank c with
      | true =>
        refine iteT ⟨_, rfl, _, _, rfl, rfl, ?_⟩
        rw [Tk.from_blank hc hb] at hdone
        exact ⟨l.length - (i + 1), by omega, i + 1, ps, done, G, e3, rfl, s0, gg, s1, hg, hd, h1, rfl, by omega, hdone⟩
      | false =>
        refine iteF ⟨_, rfl, _, rfl, _, _, c, rfl, rfl, szt hl, at_txt hc, rfl, _, rfl, ?_⟩
        rw [eq_one bang_eq]
        by_cases hx : c = 33
        · rw [decide_eq_true hx]
          refine iteT ⟨_, rfl, _, rfl, l, i, rfl, hl, hi, ?_⟩
          have hn := Tk.noteEnd_le (l := l) (i := i + 1) h1
          have e : Tk.noteEnd l i = Tk.noteEnd l (i + 1) := Tk.noteEnd_step hc (by omega)
          rw [Tk.from_note hc hx] at hdone
          rw [e]
          exact ⟨l.length - Tk.noteEnd l (i + 1), by omega, Tk.noteEnd l (i + 1), ps, done, G, e3, rfl, s0, gg, s1, hg, hd, hn.1, rfl, by omega, hdone⟩
        · rw [decide_eq_false hx]
          refine iteF ⟨_, rfl, _, rfl, l, i, c, rfl, hl, hc, ?_⟩
          have ht := Tk.tokEnd_le hc
          obtain ⟨r, hp⟩ := Tk.piece_head hc
          refine ⟨_, rfl, .inl ⟨rfl, _, SqL.of hg⟩, _, rfl, _, rfl, _, rfl, _, rfl, _, rfl, _, rfl, szt hl, c, r, ?_, ?_, fun hL hD => ?_, ?_⟩
          · rw [slice_piece hi ht.1, hp]
            rfl
          · rw [← hp]
            unfold Tk.piece
            rw [List.length_take, List.length_drop]
            omega
          · have := (Tk.piece_one hc hL hD).2
            rw [this] at hp
            exact (List.cons.inj hp).2.symm
          · refine ⟨_, rfl, _, rfl, by show 3 ≤ sizeLine; decide, fun p np => ?_⟩
            have hgp : g ≠ p := ne_of_none hg np
            have hl2 : ps.length = done.length := by rw [dpAll_len hd, List.length_map]
            obtain ⟨a1, a2, a3, a4⟩ := grow (o := .tup [.str (sortS (Tk.sortOf isWord (c :: r))), .int (i : Int), .int ((Tk.tokEnd l i : Nat) : Int)]) (u := .lst (ps ++ [.ref p])) s0 gg s1 hg np
            refine ⟨g, ps, _, rfl, rfl, by rw [upd_ne hgp]; exact hg, Nat.lt_of_le_of_lt (show ps.length ≤ 100000 by omega) (by decide), ?_⟩
            refine ⟨_, rfl, ?_⟩
            rw [Tk.from_tok hc hb hx, hp] at hdone
            refine ⟨l.length - Tk.tokEnd l i, by omega, Tk.tokEnd l i, ps ++ [.ref p], done ++ [(Tk.sortOf isWord (c :: r), i, Tk.tokEnd l i)], _, _, rfl, a1, a2, a3, upd_same, ?_, ht.1, rfl, ?_, ?_⟩
            · rw [List.map_append]
              exact dpAll_snoc (dpAll_mono a4 _ _ hd) (tok_dp upd_same)
            · rw [List.length_append]
              show done.length + 1 ≤ _
              omega
            · rw [List.append_assoc]
              exact hdone
    · have h1 : l.length ≤ i := by simpa using h1
      rw [Tk.from_end h1, List.append_nil] at hdone
      refine ⟨_, rfl, ?_⟩
      refine k g H' (s0.trans s1) ng ?_
      rw [← hdone]
      exact .lst (SqL.of hg) (dpAll_mono s1 _ _ hd)
theorem ok__law_stretch {f : Addr} {fd : FuncData} (F : Fun K "_law_stretch" "_law_stretch" s__law_stretch f fd) (c__law_letter : C8.Cal P w K mg base 1 "_law_letter" spLetter []) (c__law_digit : C8.Cal P w K mg base 1 "_law_digit" spDigit []) :
    FnOk P w K mg base CX0 2 f fd ["text", "at"] spStretch := by
  refine F.ok sc__law_stretch (fun vs H Q E h => ?_) (fun cdv A outer s H vs Q E hr h => ?_)
  · obtain ⟨l, i, c, rfl, _⟩ := h
    rfl
  · obtain ⟨l, i, c, rfl, hl, hc, hcc, k⟩ := h
    have hi := (List.getElem?_eq_some_iff.mp hc).1
    -- the signs that go on, by the first one
    obtain ⟨num, p, hp, hnum, hpc⟩ : ∃ (num : Bool) (p : Nat → Bool), Tk.going c = p ∧ ((num = true ∧ p = Tk.digit) ∨ (num = false ∧ p = Tk.inner)) ∧ p c = true ∧ Tk.digit c = num := by
      rcases hcc with h | h
      · exact ⟨false, Tk.inner, by unfold Tk.going; simp [h], .inr ⟨rfl, rfl⟩, by unfold Tk.inner; simp [h], no_both h⟩
      · have h2 : Tk.letter c = false := by
          cases h3 : Tk.letter c with
          | false => rfl
          | true => rw [no_both h3] at h; cases h
        exact ⟨true, Tk.digit, by unfold Tk.going; simp [h, h2], .inl ⟨rfl, rfl⟩, h, h⟩
    rw [Tk.tokEnd_of hc, hp, ← run_step hc hpc.1] at k
    refine ⟨_, (pss_cons (ps_set (i := 2) sc__law_stretch.nd rfl (Or.inl rfl) (C8.pe_c c__law_digit hr (by first | decide | omega) rfl (pa_cons (pe_ix ix_str (pv 0) (pv 1) (fun _ _ => rfl)) pa_nil)))
    (pss_cons (ps_set (i := 3) sc__law_stretch.nd rfl (Or.inl rfl) (pv 1))
    (pss_cons (ps_for PassesOwn.never rfl (pi_str (pe_slice C8.sl_txt (pv 0) (po_some (pv 1)) po_none)) (pg_name (i := 4) sc__law_stretch.nd rfl (Or.inl rfl))
      (pss_cons (ps_set (i := 5) sc__law_stretch.nd rfl (Or.inl rfl) (pe_ifExp (pt_val (pv 2)) (C8.pe_c c__law_digit hr (by first | decide | omega) rfl (pa_cons (pv 4) pa_nil)) (pe_or (C8.pe_c c__law_letter hr (by first | decide | omega) rfl (pa_cons (pv 4) pa_nil)) (pe_or (C8.pe_c c__law_digit hr (by first | decide | omega) rfl (pa_cons (pv 4) pa_nil)) (pe_one (pe_cmpR op_in_sign (pv 4) pe_str (by rfl)))))))
      (pss_cons (ps_if (pt_not (pt_val (pv 5)))
        (pss_one (ps_ret (pv 3)))
        pss_nil)
      (pss_one (ps_set (i := 3) sc__law_stretch.nd rfl (Or.inl rfl) (pe_op op_add (pv 3) pe_int))))))
    (pss_one (ps_ret (pv 3)))))), ?_⟩
    refine ⟨_, rfl, _, rfl, _, _, c, rfl, rfl, szt hl, at_txt hc, c, rfl, ?_⟩
    rw [hpc.2]
    refine ⟨_, rfl, ?_⟩
    refine ⟨_, rfl, _, rfl, _, rfl, _, rfl, szt hl, ?_⟩
    rw [slice_tail (Nat.le_of_lt hi)]
    refine ⟨_, rfl, for_it (walk_str (z := ⟨(l.drop i).toArray⟩)) (fun j σ H' => ∃ e4 e5, σ = [some (txt l), some (.int i), some (.bl num), some (.int ((i + j : Nat) : Int)), e4, e5] ∧ H' = H ∧ ∀ k d, k < j → (l.drop i)[k]? = some d → p d = true)
      ⟨none, none, rfl, rfl, fun k d h _ => absurd h (Nat.not_lt_zero _)⟩ (fun _ _ _ _ _ => True.intro) ?_ ?_⟩
    · rintro j x σ H1 H2 hj ⟨e4, e5, rfl, rfl, hall⟩ ⟨rfl, d, hd, rfl⟩
      have hd' : (l.drop i)[j]? = some d := by simpa using hd
      -- inside
      have go : ∀ (R : V → Hp → Prop), R (.bl (p d)) H2 → (tIf (tB (tVar 2)) (tCall spDigit [] C8.E0 (tCons (tVar 4) tNil)) (tOrV (tCall spLetter [] C8.E0 (tCons (tVar 4) tNil)) (tOrV (tCall spDigit [] C8.E0 (tCons (tVar 4) tNil)) (tOp (fun x y H Q => ∃ (c : Nat) (z : Str), x = .str ⟨#[c]⟩ ∧ y = .str z ∧ Q (.bl (decide (c ∈ z.cps.toList))) H) (tVar 4) (tC (.str "_.#"))))))
          [some (txt l), some (.int i), some (.bl num), some (.int ((i + j : Nat) : Int)), some (one d), e5] H2 R := by
        intro R hR
        refine ⟨_, rfl, _, rfl, ?_⟩
        rcases hnum with ⟨rfl, rfl⟩ | ⟨rfl, rfl⟩
        · exact iteT ⟨_, rfl, d, rfl, hR⟩
        · refine iteF ⟨_, rfl, d, rfl, _, rfl, ?_⟩
          have e : Tk.inner d = (Tk.letter d || Tk.digit d || (d == 95 || d == 46 || d == 35)) := rfl
          rw [e] at hR
          cases h1 : Tk.letter d with
          | true =>
            rw [h1] at hR
            exact iteT hR
          | false =>
            refine iteF ⟨_, rfl, d, rfl, _, rfl, ?_⟩
            rw [h1] at hR
            cases h2 : Tk.digit d with
            | true =>
              rw [h2] at hR
              exact iteT hR
            | false =>
              refine iteF ⟨_, rfl, d, _, rfl, rfl, ?_⟩
              rw [h2] at hR
              rw [in_three]
              simpa using hR
      refine go _ ?_
      refine ⟨_, rfl, _, rfl, ?_⟩
      cases hpd : p d with
      | true =>
        refine iteF ⟨_, rfl, _, _, rfl, rfl, _, _, rfl, rfl, fun k' d' hk hd2 => ?_⟩
        rcases Nat.lt_succ_iff_lt_or_eq.mp hk with h | h
        · exact hall k' d' h hd2
        · subst h
          rw [hd'] at hd2
          have : d = d' := Option.some.inj hd2
          rw [← this]; exact hpd
      | false =>
        refine iteT ⟨_, rfl, ?_⟩
        have : Tk.run p (l.drop i) = j := Tk.run_eq (by have := (List.getElem?_eq_some_iff.mp hd').1; omega) (fun k' d' h1 h2 => hall k' d' h1 h2) (fun d' h => by
          rw [hd'] at h
          have : d = d' := Option.some.inj h
          rw [← this]; exact hpd)
        rw [this] at k
        exact k
    · rintro σ H1 ⟨e4, e5, rfl, rfl, hall⟩
      have hs : (⟨(l.drop i).toArray⟩ : Str).cps.size = (l.drop i).length := by simp
      rw [hs] at hall ⊢
      refine ⟨_, rfl, ?_⟩
      have : Tk.run p (l.drop i) = (l.drop i).length := Tk.run_eq (Nat.le_refl _) (fun k' d' h1 h2 => hall k' d' h1 h2) (fun d' h => by
        rw [List.getElem?_eq_none (Nat.le_refl _)] at h
        cases h)
      rw [this] at k
      exact k
theorem ok__law_tokens {f : Addr} {fd : FuncData} (F : Fun K "_law_tokens" "_law_tokens" s__law_tokens f fd) (T : TTxt K mg a_WORDS) (c__law_letter : C8.Cal P w K mg base 1 "_law_letter" spLetter []) (c__law_digit : C8.Cal P w K mg base 1 "_law_digit" spDigit [])
    (c__law_stretch : C8.Cal P w K mg base 2 "_law_stretch" spStretch []) : FnOk P w K mg base CX0 3 f fd ["text"] (spTokens K) := by
  refine F.ok sc__law_tokens (fun vs H Q E h => ?_) (fun cdv A outer s H vs Q E hr h => ?_)
  · obtain ⟨l, rfl, _⟩ := h
    rfl
  · obtain ⟨l, rfl, hl', k⟩ := h
    have hl : l.length ≤ 100000 := by omega
    refine ⟨_, (pss_cons (ps_set (i := 1) sc__law_tokens.nd rfl (Or.inl rfl) (pe_lst (pa_cons pe_str (pa_cons pe_str (pa_cons pe_str (pa_cons pe_str (pa_cons pe_str (pa_cons pe_str (pa_cons pe_str (pa_cons pe_str (pa_cons pe_str (pa_cons pe_str (pa_cons pe_str (pa_cons pe_str pa_nil))))))))))))))
    (pss_cons (ps_set (i := 1) sc__law_tokens.nd rfl (Or.inl rfl) (pe_op op_cat (pv 1) (pe_lst (pa_cons pe_str (pa_cons pe_str (pa_cons pe_str (pa_cons pe_str pa_nil)))))))
    (pss_cons (ps_set (i := 2) sc__law_tokens.nd rfl (Or.inl rfl) (pe_lst pa_nil))
    (pss_cons (ps_set (i := 3) sc__law_tokens.nd rfl (Or.inl rfl) pe_int)
    (pss_cons (ps_set (i := 4) sc__law_tokens.nd rfl (Or.inl rfl) pe_bl)
    (pss_cons (ps_for PassesOwn.never rfl (pi_range1 (by rfl) T.b_range (pa_cons (pe_callB call_len_str (by rfl) T.b_len (by decide +kernel) (pa_cons (pv 0) pa_nil)) pa_nil)) (pg_name (i := 5) sc__law_tokens.nd rfl (Or.inl rfl))
      (pss_cons (ps_set (i := 6) sc__law_tokens.nd rfl (Or.inl rfl) (pe_ix ix_str (pv 0) (pv 5) (fun _ _ => rfl)))
      (C8.pss_cut (ps_if (pt_cmpR op_eq (pv 6) pe_str (nomark _))
        (pss_one (ps_set (i := 4) sc__law_tokens.nd rfl (Or.inl rfl) pe_bl))
        pss_nil)
      (pss_cons (ps_if (PW.pt (pw_or (pt_cmpR op_lt (pv 5) (pv 3) (nomark _)) (pw_or (pt_val (pv 4)) (pw_or (pt_cmpR op_eq (pv 6) pe_str (nomark _)) (pw_or1 (pt_cmpR op_eq (pv 6) pe_str (nomark _)))))))
        (pss_one ps_continue)
        pss_nil)
      (pss_cons (ps_set (i := 3) sc__law_tokens.nd rfl (Or.inl rfl) (pe_op op_add (pv 5) pe_int))
      (pss_one (ps_if (pt_cmpR op_eq (pv 6) pe_str (nomark _))
        (pss_one (ps_set (i := 4) sc__law_tokens.nd rfl (Or.inl rfl) pe_bl))
        (pss_one (ps_if (pt_val (C8.pe_c c__law_letter hr (by first | decide | omega) rfl (pa_cons (pv 6) pa_nil)))
          (pss_cons (ps_set (i := 3) sc__law_tokens.nd rfl (Or.inl rfl) (C8.pe_c c__law_stretch hr (by first | decide | omega) rfl (pa_cons (pv 0) (pa_cons (pv 5) pa_nil))))
          (pss_one (ps_expr (pe_bm PySem.F.plainAttrs_list PySem.F.slot_list_append PySem.F.type_list_append mt_append (pv 2) (pa_cons (pe_tup (pa_cons (pe_ifExp (pt_cmpR op_in_seq (pe_slice C8.sl_txt (pv 0) (po_some (pv 5)) (po_some (pv 3))) (pv 1) (by rfl)) pe_str pe_str) (pa_cons (pv 5) (pa_cons (pv 3) pa_nil)))) pa_nil)))))
          (pss_one (ps_if (pt_val (C8.pe_c c__law_digit hr (by first | decide | omega) rfl (pa_cons (pv 6) pa_nil)))
            (pss_cons (ps_set (i := 3) sc__law_tokens.nd rfl (Or.inl rfl) (C8.pe_c c__law_stretch hr (by first | decide | omega) rfl (pa_cons (pv 0) (pa_cons (pv 5) pa_nil))))
            (pss_one (ps_expr (pe_bm PySem.F.plainAttrs_list PySem.F.slot_list_append PySem.F.type_list_append mt_append (pv 2) (pa_cons (pe_tup (pa_cons pe_str (pa_cons (pv 5) (pa_cons (pv 3) pa_nil)))) pa_nil)))))
            (pss_one (ps_expr (pe_bm PySem.F.plainAttrs_list PySem.F.slot_list_append PySem.F.type_list_append mt_append (pv 2) (pa_cons (pe_tup (pa_cons (pe_ifExp (pt_cmpR op_in_sign (pv 6) pe_str (by rfl)) pe_str pe_str) (pa_cons (pv 5) (pa_cons (pv 3) pa_nil)))) pa_nil)))))))))))))))
    (pss_one (ps_ret (pv 2))))))))), ?_⟩
    -- words
    refine ⟨by show 12 ≤ sizeLine; decide, fun w1 nw1 => ?_⟩
    refine ⟨_, rfl, by show 4 ≤ sizeLine; decide, fun w2 nw2 => ?_⟩
    have h12 : w1 ≠ w2 := ne_of_none upd_same nw2
    refine ⟨w1, w2, _, _, rfl, rfl, (upd_ne h12).trans upd_same, upd_same, by show 12 + 4 ≤ sizeLine; decide, fun wd nwd => ?_⟩
    rw [words_cat]
    refine ⟨Nat.zero_le _, fun g ng => ?_⟩
    have sA := same_upd (o := .lst [.str "kind", .str "number", .str "ref", .str "fixed", .str "empty", .str "single", .str "thing", .str "none", .str "index", .str "told", .str "keep", .str "adopt"]) nw1
    have sB := same_upd (o := .lst [.str "as", .str "move", .str "to", .str "most"]) nw2
    have sC := same_upd (o := .lst (wordL.map V.str)) nwd
    have s00 := (sA.trans sB).trans sC
    -- the loop
    refine ⟨_, rfl, _, rfl, szt hl, _, rfl, by omega, by rw [slen]; omega, for_range (n := l.length) (fun i σ H' => ∃ (behind : Nat) (note : Bool) (ps : List V) (done : List (Tk.Srt × Nat × Nat)) (G : Hp) (e5 e6 : Option V),
        σ = [some (txt l), some (.ref wd), some (.ref g), some (.int (behind : Int)), some (.bl note), e5, e6] ∧ LawAt K l H H' wd g i behind note ps done G)
      ⟨0, false, [], [], _, none, none, rfl, s00, ng, same_upd ng, upd_same, SqL.of upd_same, .nil, (fun h => by cases h), Nat.zero_le _, Nat.le_refl _, ?_⟩ ?_ ?_⟩
    · show Tk.resume isWord l 0 0 false = _
      rfl
    · rintro i σ H1 hi ⟨behind, note, ps, done, G, e5, e6, rfl, W⟩
      obtain ⟨c, hc⟩ := getD_of hi
      rw [Int.zero_add]
      -- char; a newline ends a note
      refine ⟨_, rfl, _, rfl, _, _, c, rfl, rfl, szt hl, at_txt hc, ?_⟩
      refine ⟨fun σ' H' => H' = H1 ∧ ∃ note' : Bool, σ' = [some (txt l), some (.ref wd), some (.ref g), some (.int (behind : Int)), some (.bl note'), some (.int (i : Int)), some (one c)] ∧ LawAt K l H H1 wd g i behind note' ps done G ∧ (note' = true → c ≠ 10), ?_, ?_⟩
      · refine ⟨_, rfl, rfl, _, rfl, ?_⟩
        rw [eq_one nl_eq]
        by_cases h : c = 10
        · rw [decide_eq_true h]
          refine iteT ⟨rfl, false, rfl, ⟨W.s0, W.gg, W.s1, W.hg, W.hw, W.hd, (fun h => by cases h), W.hb, W.hlen, ?_⟩, (fun h => by cases h)⟩
          rw [← Tk.resume_nl hc h W.hn]
          exact W.hdone
        · rw [decide_eq_false h]
          exact iteF ⟨rfl, note, rfl, W, fun _ => h⟩
      · rintro σ' H' ⟨rfl, note', rfl, W, hnote⟩
        have next : ∀ {b : Nat} {n : Bool}, LawAt K l H H' wd g (i + 1) b n ps done G → ∃ (behind : Nat) (note : Bool) (ps : List V) (done : List (Tk.Srt × Nat × Nat)) (G : Hp) (e5 e6 : Option V),
            [some (txt l), some (.ref wd), some (.ref g), some (.int (b : Int)), some (.bl n), some (.int (i : Int)), some (one c)] = [some (txt l), some (.ref wd), some (.ref g), some (.int (behind : Int)), some (.bl note), e5, e6] ∧ LawAt K l H H' wd g (i + 1) behind note ps done G :=
          fun {b n} W' => ⟨b, n, ps, done, G, _, _, rfl, W'⟩
        -- passed over
        refine ⟨_, rfl, _, rfl, _, _, rfl, rfl, _, rfl, ?_⟩
        by_cases hbi : i < behind
        · rw [decide_eq_true (by omega)]
          refine iteT (iteT ?_)
          have hn0 : note' = false := by
            cases note' with
            | false => rfl
            | true => have := W.hn rfl; omega
          subst hn0
          refine next ⟨W.s0, W.gg, W.s1, W.hg, W.hw, W.hd, (fun h => by cases h), W.hb, Nat.le_succ_of_le W.hlen, ?_⟩
          rw [← Tk.resume_behind hbi]
          exact W.hdone
        · rw [decide_eq_false (by omega)]
          refine iteF ⟨_, rfl, _, rfl, ?_⟩
          cases hnn : note' with
          | true =>
            subst hnn
            refine iteT (iteT ?_)
            refine next ⟨W.s0, W.gg, W.s1, W.hg, W.hw, W.hd, (fun h => by omega), W.hb, Nat.le_succ_of_le W.hlen, ?_⟩
            rw [← Tk.resume_note hc (hnote rfl)]
            exact W.hdone
          | false =>
            subst hnn
            refine iteF ⟨_, rfl, rfl, _, rfl, ?_⟩
            rw [eq_one sp_eq]
            have blank : Tk.blank c = true → LawAt K l H H' wd g (i + 1) behind false ps done G := fun hb => ⟨W.s0, W.gg, W.s1, W.hg, W.hw, W.hd, (fun h => by cases h), W.hb, Nat.le_succ_of_le W.hlen, by
              rw [← Tk.resume_blank hc hb (by omega)]
              exact W.hdone⟩
            by_cases h32 : c = 32
            · rw [decide_eq_true h32]
              exact iteT (iteT (next (blank (by rw [h32]; rfl))))
            · rw [decide_eq_false h32]
              refine iteF ⟨_, rfl, rfl, _, rfl, ?_⟩
              rw [eq_one nl_eq]
              by_cases h10 : c = 10
              · rw [decide_eq_true h10]
                exact iteT (next (blank (by rw [h10]; rfl)))
              · rw [decide_eq_false h10]
                have hnb : Tk.blank c = false := by unfold Tk.blank; simp [h32, h10]
                refine iteF ⟨_, rfl, _, _, rfl, rfl, ?_⟩
                -- a token or a note
                refine ⟨_, rfl, rfl, _, rfl, ?_⟩
                rw [eq_one bang_eq]
                by_cases h33 : c = 33
                · rw [decide_eq_true h33]
                  refine iteT ?_
                  refine next (b := i + 1) ⟨W.s0, W.gg, W.s1, W.hg, W.hw, W.hd, fun _ => Nat.le_refl _, hi, Nat.le_succ_of_le W.hlen, ?_⟩
                  rw [← Tk.resume_open (behind := behind) hc h33 (by omega)]
                  exact W.hdone
                · rw [decide_eq_false h33]
                  refine iteF ⟨_, rfl, c, rfl, _, rfl, ?_⟩
                  have ht := Tk.tokEnd_le hc
                  obtain ⟨r, hp⟩ := Tk.piece_head hc
                  have hl2 : ps.length = done.length := by rw [dpAll_len W.hd, List.length_map]
                  have hps : ps.length < sizeLine := Nat.lt_of_le_of_lt (show ps.length ≤ 100000 by have := W.hlen; omega) (by decide)
                  have sort : Tk.sortOf isWord (Tk.piece l i (Tk.tokEnd l i)) = if Tk.letter c then (if isWord (c :: r) then .word else .name) else if Tk.digit c then .number else if Tk.signC c then .sign else .wrong := by rw [hp]; rfl
                  have app : ∀ (sx : Str) (σ2 : L2.St), sx = sortS (Tk.sortOf isWord (Tk.piece l i (Tk.tokEnd l i))) → σ2 = [some (txt l), some (.ref wd), some (.ref g), some (.int ((Tk.tokEnd l i : Nat) : Int)), some (.bl false), some (.int (i : Int)), some (one c)] → ∀ p, H' p = none →
                      ∃ lx xs y, V.ref g = .ref lx ∧ [V.ref p] = [y] ∧ (upd H' p (.tup [.str sx, .int (i : Int), .int ((Tk.tokEnd l i : Nat) : Int)])) lx = some (.lst xs) ∧ xs.length < sizeLine ∧
                        ∃ (behind : Nat) (note : Bool) (ps : List V) (done : List (Tk.Srt × Nat × Nat)) (G : Hp) (e5 e6 : Option V), σ2 = [some (txt l), some (.ref wd), some (.ref g), some (.int (behind : Int)), some (.bl note), e5, e6] ∧
                          LawAt K l H (upd (upd H' p (.tup [.str sx, .int (i : Int), .int ((Tk.tokEnd l i : Nat) : Int)])) lx (.lst (xs ++ [y]))) wd g (i + 1) behind note ps done G := by
                    rintro sx σ2 hs rfl p np
                    obtain ⟨ps', done', G', W'⟩ := W.found hc hnb h33 (by omega) np hs
                    exact ⟨g, ps, _, rfl, rfl, by rw [upd_ne (ne_of_none W.hg np)]; exact W.hg, hps, Tk.tokEnd l i, false, ps', done', G', _, _, rfl, W'⟩
                  cases hL : Tk.letter c with
                  | true =>
                    refine iteT ⟨_, rfl, _, rfl, l, i, c, rfl, hl, hc, .inl hL, ?_⟩
                    refine ⟨_, rfl, .inl ⟨rfl, _, SqL.of W.hg⟩, _, rfl, _, rfl, _, rfl, _, rfl, _, rfl, _, rfl, szt hl, _, rfl, wd, _, rfl, .inl (W.s1.seq W.hw), rfl, words_flat, _, rfl, ?_⟩
                    rw [slice_piece (Nat.le_of_lt hi) ht.1, hp]
                    show (if inV (txt (c :: r)) (wordL.map V.str) = true then _ else _ : Prop)
                    rw [inV_word]
                    cases hw : isWord (c :: r) with
                    | true =>
                      refine iteT ⟨_, rfl, _, rfl, by show 3 ≤ sizeLine; decide, fun p np => ?_⟩
                      exact app "word" _ (by rw [sort, hL, hw]; rfl) rfl p np
                    | false =>
                      refine iteF ⟨_, rfl, _, rfl, by show 3 ≤ sizeLine; decide, fun p np => ?_⟩
                      exact app "name" _ (by rw [sort, hL, hw]; rfl) rfl p np
                  | false =>
                    refine iteF ⟨_, rfl, c, rfl, _, rfl, ?_⟩
                    cases hD : Tk.digit c with
                    | true =>
                      refine iteT ⟨_, rfl, _, rfl, l, i, c, rfl, hl, hc, .inr hD, ?_⟩
                      refine ⟨_, rfl, .inl ⟨rfl, _, SqL.of W.hg⟩, _, rfl, _, rfl, by show 3 ≤ sizeLine; decide, fun p np => ?_⟩
                      exact app "number" _ (by rw [sort, hL, hD]; rfl) rfl p np
                    | false =>
                      have h1 := Tk.piece_one hc hL hD
                      refine iteF ⟨_, rfl, .inl ⟨rfl, _, SqL.of W.hg⟩, _, rfl, _, _, rfl, rfl, _, rfl, ?_⟩
                      rw [in_signsC]
                      cases hS : Tk.signC c with
                      | true =>
                        refine iteT ⟨_, rfl, _, rfl, by show 3 ≤ sizeLine; decide, fun p np => ?_⟩
                        have a := app "sign" _ (by rw [sort, hL, hD, hS]; rfl) rfl p np
                        rw [h1.1] at a
                        exact a
                      | false =>
                        refine iteF ⟨_, rfl, _, rfl, by show 3 ≤ sizeLine; decide, fun p np => ?_⟩
                        have a := app "wrong" _ (by rw [sort, hL, hD, hS]; rfl) rfl p np
                        rw [h1.1] at a
                        exact a
    · rintro σ H1 ⟨behind, note, ps, done, G, e5, e6, rfl, W⟩
      have e := W.hdone
      rw [Tk.resume_end W.hb, List.append_nil] at e
      refine ⟨_, rfl, ?_⟩
      have ng0 : H g = none := s00.free ng
      refine k g H1 (W.s0.trans W.s1) ng0 ?_
      rw [← e]
      exact .lst (SqL.of W.hg) (dpAll_mono W.s1 _ _ W.hd)
theorem ok__law_scraps {f : Addr} {fd : FuncData} (F : Fun K "_law_scraps" "_law_scraps" s__law_scraps f fd) (T : TTxt K mg a_WORDS) (c__law_take : C8.Cal P w K mg base 1 "_law_take" spTake []) : FnOk P w K mg base CX0 2 f fd ["tape", "most"] spScraps := by
  refine F.ok sc__law_scraps (fun vs H Q E h => ?_) (fun cdv A outer s H vs Q E hr h => ?_)
  · obtain ⟨t, c, cs, many, rfl, _⟩ := h
    rfl
  · obtain ⟨t, c, cs, most, rfl, W, hm0, hm1, k⟩ := h
    refine ⟨_, (pss_cons (ps_set (i := 2) sc__law_scraps.nd rfl (Or.inr rfl) (pe_lst (pa_cons pe_str (pa_cons pe_str (pa_cons pe_str (pa_cons pe_str (pa_cons pe_str (pa_cons pe_str (pa_cons pe_str (pa_cons pe_str (pa_cons pe_str (pa_cons pe_str (pa_cons pe_str (pa_cons pe_str (pa_cons pe_str (pa_cons pe_str (pa_cons pe_str (pa_cons pe_str (pa_cons pe_str pa_nil)))))))))))))))))))
    (C8.pss_cut (ps_set (i := 2) sc__law_scraps.nd rfl (Or.inr rfl) (pe_op op_cat (pv 2) (pe_lst (pa_cons pe_str (pa_cons pe_str (pa_cons pe_str (pa_cons pe_str (pa_cons pe_str (pa_cons pe_str (pa_cons pe_str (pa_cons pe_str (pa_cons pe_str (pa_cons pe_str (pa_cons pe_str (pa_cons pe_str (pa_cons pe_str pa_nil))))))))))))))))
    (pss_one (ps_ret (pe_join pe_str (pe_lc (own := [("k", 3)]) rfl sc__law_scraps.nd (pi_range1 (by rfl) T.b_range (pa_cons (C8.pe_c c__law_take hr (by first | decide | omega) rfl (pa_cons (pv 0) (pa_cons (pe_op op_add (pv 1) pe_int) pa_nil))) pa_nil)) (blkOk_by (own := [("k", 3)]) (N := N__law_scraps) (sc := defScope s__law_scraps) (by decide +kernel)) (fun _ _ _ _ _ => (pg_name (i := 3) sc__law_scraps.nd rfl (Or.inl rfl))) (fun _ _ _ _ _ => pts_nil) (fun _ _ _ _ _ => (pe_ix (ix_list : IxR _ (rIxL K)) (pv 2) (C8.pe_c c__law_take hr (by first | decide | omega) rfl (pa_cons (pv 0) (pa_cons pe_int pa_nil))) (fun _ _ => rfl))))))))), ?_⟩
    -- words
    refine ⟨by show 17 ≤ sizeLine; decide, fun w1 nw1 => ?_⟩
    refine ⟨fun σ' H' => ∃ wd, σ' = [some (.ref t), some (.int most), some (.ref wd), none] ∧ Same H H' ∧ H' wd = some (.lst (scrapL.map V.str)), ?_, ?_⟩
    · refine ⟨_, rfl, by show 13 ≤ sizeLine; decide, fun w2 nw2 => ?_⟩
      have h12 : w1 ≠ w2 := ne_of_none upd_same nw2
      refine ⟨w1, w2, _, _, rfl, rfl, (upd_ne h12).trans upd_same, upd_same, by show 17 + 13 ≤ sizeLine; decide, fun wd nwd => ?_⟩
      exact ⟨wd, rfl, ((same_upd nw1).trans (same_upd nw2)).trans (same_upd nwd), upd_same⟩
    rintro σ' H1 ⟨wd, rfl, s00, hw⟩
    have W1 : Tape t c cs H1 := ⟨by obtain ⟨kvs, h, q⟩ := W.dc; exact ⟨kvs, s00 _ _ h, q⟩, s00 _ _ W.ls, W.nn⟩
    obtain ⟨kv1, ht1, _⟩ := id W1.dc
    have wdt : wd ≠ t := ne_of hw ht1 (by intro z; cases z)
    refine ⟨⟨_, rfl⟩, _, rfl, _, rfl, _, _, rfl, rfl, t, c, cs, most + 1, rfl, W1, by omega, by omega, fun r kvs hr0 hr1 hk => ?_⟩
    have W2 := W1.new hk
    have hw2 : (upd H1 t (.dK kvs)) wd = some (.lst (scrapL.map V.str)) := by rw [upd_ne wdt]; exact hw
    have x2 : SameX t H (upd H1 t (.dK kvs)) := (SameX.of_same s00).trans .upd
    generalize upd H1 t (.dK kvs) = H2 at W2 hw2 x2 ⊢
    refine ⟨_, rfl, by omega, by omega, fun D nD => lc_range (lo := 0) (n := r.toNat) (fun i H' => ∃ ys : List Str, ys.length = i ∧ (∀ y ∈ ys, y.length ≤ 8) ∧ Tape t c cs H' ∧ H' wd = some (.lst (scrapL.map V.str)) ∧ H' D = some (.lst (ys.map V.str)) ∧ ∀ b o, b ≠ t → H2 b = some o → H' b = some o)
      ⟨[], rfl, fun _ h => (by cases h), ?_, ?_, upd_same, fun b o _ e => same_upd nD b o e⟩ ?_ ?_⟩
    · obtain ⟨kvs, h, q⟩ := W2.dc
      exact ⟨⟨kvs, same_upd nD _ _ h, q⟩, same_upd nD _ _ W2.ls, W2.nn⟩
    · exact same_upd nD _ _ hw2
    · rintro i H3 hi ⟨ys, hlen, h8, W3, hw3, hD3, x3⟩
      obtain ⟨kv3, ht3, _⟩ := id W3.dc
      have Dt : D ≠ t := ne_of hD3 ht3 (by intro z; cases z)
      refine ⟨rfl, _, rfl, _, rfl, t, c, cs, 30, rfl, W3, by decide, by decide, fun j kvs hj0 hj1 hk3 => ?_⟩
      obtain ⟨y, hy⟩ : ∃ y, scrapL[j.toNat]? = some y := ⟨_, List.getElem?_eq_getElem (by show j.toNat < 30; omega)⟩
      have hy2 : (scrapL.map V.str)[j.toNat]? = some (.str y) := by rw [List.getElem?_map, hy]; rfl
      refine ⟨wd, _, _, _, rfl, rfl, SqL.of (by rw [upd_ne wdt]; exact hw3), at_of (by omega : j = (j.toNat : Int)) hy2, _, (by rw [upd_ne Dt]; exact hD3), ?_, ys ++ [y], ?_, ?_, ?_, ?_, ?_, ?_⟩
      · rw [List.length_map, hlen]
        exact Nat.lt_of_le_of_lt (show i ≤ 1000 by omega) (by decide)
      · rw [List.length_append, hlen]; rfl
      · intro z hz
        rcases List.mem_append.mp hz with h | h
        · exact h8 z h
        · rw [List.mem_singleton.mp h]
          exact scrap_len y (List.mem_of_getElem? hy)
      · have W4 := W3.new hk3
        obtain ⟨kvs, h, q⟩ := W4.dc
        exact ⟨⟨kvs, by rw [upd_ne Dt.symm]; exact h, q⟩, by rw [upd_ne (ne_of_none W2.ls nD)]; exact W4.ls, W4.nn⟩
      · rw [upd_ne (ne_of_none hw2 nD), upd_ne wdt]; exact hw3
      · rw [upd_same, List.map_append]; rfl
      · exact fun b o hb e => by
          rw [upd_ne (ne_of_none e nD), upd_ne hb]
          exact x3 b o hb e
    · rintro H3 ⟨ys, hlen, h8, W3, hw3, hD3, x3⟩
      have h1 := sum_le h8
      refine ⟨_, D, ys, rfl, rfl, .inl (SqL.of hD3), ?_, ?_⟩
      · rw [empty_eq]
        show _ + ys.length * 0 ≤ _
        omega
      · have e : (⟨(Txt.join (Str.ofString "") ys).cps.toList.toArray⟩ : Str) = Txt.join (Str.ofString "") ys := rfl
        have hl := join_len ys _ empty_eq
        rw [← e]
        refine k _ H3 ?_ W3 (x2.trans x3)
        have : (Txt.join (Str.ofString "") ys).cps.toList.length = (Txt.join (Str.ofString "") ys).length := by simp [Str.length]
        rw [this, hl]
        omega

end
section
variable {P : Program} {w : World} {K : PySem.W.Frag} {mg : Str → Option Value} {base : Heap}
theorem ok__law_value_of {f : Addr} {fd : FuncData} (F : Fun K "_law_value_of" "_law_value_of" s__law_value_of f fd) (T : Blt mg) (c__law_take : C8.Cal P w K mg base 1 "_law_take" spTake []) : FnOk P w K mg base CX0 2 f fd ["tape", "field", "names"] (spValueOf K) := by
  refine F.ok sc__law_value_of (fun vs H Q E h => ?_) (fun cdv A outer s H vs Q E hr h => ?_)
  · obtain ⟨t, c, a, cs, x, nm, S, rfl, _⟩ := h
    rfl
  · obtain ⟨t, c, a, cs, x, nm, S, rfl, L, ha, aS, n0, n1, k⟩ := h
    refine ⟨_, (pss_cons (ps_set (i := 3) sc__law_value_of.nd rfl (Or.inl rfl) (C8.pe_c c__law_take hr (by first | decide | omega) rfl (pa_cons (pv 0) (pa_cons pe_int pa_nil))))
    (pss_cons (ps_if (pt_cmpR op_eq (pv 3) pe_int (nomark _))
      (pss_one (ps_ret (pe_tup (pa_cons pe_str pa_nil))))
      pss_nil)
    (pss_cons (ps_if (pt_cmpR op_eq (pv 3) pe_int (nomark _))
      (pss_one (ps_ret (pe_tup (pa_cons pe_str (pa_cons (C8.pe_c c__law_take hr (by first | decide | omega) rfl (pa_cons (pv 0) (pa_cons pe_int pa_nil))) pa_nil)))))
      pss_nil)
    (pss_cons (ps_if (pt_cmpR op_eq (pv 3) pe_int (nomark _))
      (pss_one (ps_ret (pe_tup (pa_cons pe_str (pa_cons (pe_ix ix_list (pv 2) (C8.pe_c c__law_take hr (by first | decide | omega) rfl (pa_cons (pv 0) (pa_cons (pe_callB call_len_seq (by rfl) T.b_len (by decide +kernel) (pa_cons (pv 2) pa_nil)) pa_nil))) (fun _ _ => rfl)) (pa_cons (C8.pe_c c__law_take hr (by first | decide | omega) rfl (pa_cons (pv 0) (pa_cons pe_int pa_nil))) pa_nil))))))
      pss_nil)
    (pss_cons (ps_if (pt_cmpR op_lt (pv 3) pe_int (nomark _))
      (pss_one (ps_ret (pe_tup (pa_cons pe_str (pa_cons (pe_ix ix_list (pv 2) (C8.pe_c c__law_take hr (by first | decide | omega) rfl (pa_cons (pv 0) (pa_cons (pe_callB call_len_seq (by rfl) T.b_len (by decide +kernel) (pa_cons (pv 2) pa_nil)) pa_nil))) (fun _ _ => rfl)) pa_nil)))))
      pss_nil)
    (pss_one (ps_ret (pe_tup (pa_cons pe_str (pa_cons (pe_ix ix_list (pe_lst (pa_cons pe_int (pa_cons pe_int (pa_cons pe_int (pa_cons pe_int pa_nil))))) (C8.pe_c c__law_take hr (by first | decide | omega) rfl (pa_cons (pv 0) (pa_cons pe_int pa_nil))) (fun _ _ => rfl)) pa_nil)))))))))), ?_⟩
    refine ⟨_, rfl, t, c, cs, 8, rfl, L.tape, by decide, by decide, fun r kvs h0 h1 hk => ?_⟩
    have L1 := L.take hk
    have o1 : Out [t] H (upd H t (.dK kvs)) := out_take
    have aT : a ∉ [t] := fun q => aS (by rw [List.mem_singleton.mp q]; exact L.tS)
    have ha1 := seq_out ha o1 aT
    generalize upd H t (.dK kvs) = H1 at L1 o1 ha1 ⊢
    refine ⟨_, rfl, rfl, _, rfl, ite2 (fun e => ?_) (fun e => ?_)⟩
    · refine ⟨by show 1 ≤ sizeLine; decide, fun p np => ?_⟩
      obtain ⟨a1, a2, a3⟩ := fin_tup L1 o1 np (.cons (.str "none") .nil)
      exact k _ .none _ True.intro a1 a2 a3
    refine ⟨_, rfl, rfl, _, rfl, ite2 (fun e => ?_) (fun e => ?_)⟩
    · refine ⟨_, rfl, t, c, cs, 3, rfl, L1.tape, by decide, by decide, fun r2 kvs2 h20 h21 hk2 => ?_⟩
      have L2 := L1.take hk2
      have o2 := o1.trans (out_take (kvs := kvs2))
      refine ⟨by show 2 ≤ sizeLine; decide, fun p np => ?_⟩
      obtain ⟨a1, a2, a3⟩ := fin_tup L2 o2 np (.cons (.str "index") (.cons (.int r2) .nil))
      exact k _ (.index r2) _ ⟨h20, h21⟩ a1 a2 a3
    refine ⟨_, rfl, rfl, _, rfl, ite2 (fun e => ?_) (fun e => ?_)⟩
    · refine ⟨_, rfl, _, rfl, _, rfl, _, _, rfl, .inl (SqL.of ha1), t, c, cs, _, rfl, L1.tape, by rw [List.length_map]; omega, by rw [List.length_map]; omega, fun r2 kvs2 h20 h21 hk2 => ?_⟩
      rw [List.length_map] at h21
      obtain ⟨y, hy, hy2, er⟩ := drawn h20 h21
      have hy3 : (nm.map V.str)[r2.toNat]? = some (.str y) := by rw [List.getElem?_map, hy]; rfl
      have L2 := L1.take hk2
      have o2 := o1.trans (out_take (kvs := kvs2))
      have ha2 := seq_out ha o2 aT
      generalize upd H1 t (.dK kvs2) = H2 at L2 o2 ha2 ⊢
      refine ⟨a, _, r2, _, rfl, rfl, SqL.of ha2, at_of er hy3, _, rfl, t, c, cs, 3, rfl, L2.tape, by decide, by decide, fun r3 kvs3 h30 h31 hk3 => ?_⟩
      have L3 := L2.take hk3
      have o3 := o2.trans (out_take (kvs := kvs3))
      refine ⟨by show 3 ≤ sizeLine; decide, fun p np => ?_⟩
      obtain ⟨a1, a2, a3⟩ := fin_tup L3 o3 np (.cons (.str "told") (.cons (.str y) (.cons (.int r3) .nil)))
      exact k _ (.told y r3) _ ⟨hy2, h30, h31⟩ a1 a2 a3
    refine ⟨_, rfl, _, _, rfl, rfl, _, rfl, ite2 (fun e => ?_) (fun e => ?_)⟩
    · refine ⟨_, rfl, _, rfl, _, rfl, _, _, rfl, .inl (SqL.of ha1), t, c, cs, _, rfl, L1.tape, by rw [List.length_map]; omega, by rw [List.length_map]; omega, fun r2 kvs2 h20 h21 hk2 => ?_⟩
      rw [List.length_map] at h21
      obtain ⟨y, hy, hy2, er⟩ := drawn h20 h21
      have hy3 : (nm.map V.str)[r2.toNat]? = some (.str y) := by rw [List.getElem?_map, hy]; rfl
      have L2 := L1.take hk2
      have o2 := o1.trans (out_take (kvs := kvs2))
      have ha2 := seq_out ha o2 aT
      generalize upd H1 t (.dK kvs2) = H2 at L2 o2 ha2 ⊢
      refine ⟨a, _, r2, _, rfl, rfl, SqL.of ha2, at_of er hy3, by show 2 ≤ sizeLine; decide, fun p np => ?_⟩
      obtain ⟨a1, a2, a3⟩ := fin_tup L2 o2 np (.cons (.str "name") (.cons (.str y) .nil))
      exact k _ (.name y) _ hy2 a1 a2 a3
    · refine ⟨by show 4 ≤ sizeLine; decide, fun q nq => ?_⟩
      have L2 := L1.new (o := .lst (numL.map V.int)) nq
      have o2 : Out [t] H (upd H1 q (.lst (numL.map V.int))) := o1.trans (.upd_new nq)
      refine ⟨_, rfl, t, c, cs, 4, rfl, L2.tape, by decide, by decide, fun r2 kvs2 h20 h21 hk2 => ?_⟩
      obtain ⟨y, hy, hy2, er⟩ := drawn (l := numL) h20 h21
      have hy3 : (numL.map V.int)[r2.toNat]? = some (.int y) := by rw [List.getElem?_map, hy]; rfl
      have L3 := L2.take hk2
      have o3 := o2.trans (out_take (kvs := kvs2))
      have hq : (upd (upd H1 q (.lst (numL.map V.int))) t (.dK kvs2)) q = some (.lst (numL.map V.int)) := by rw [upd_ne (L2.nt upd_same)]; exact upd_same
      refine ⟨q, _, r2, _, rfl, rfl, SqL.of hq, at_of er hy3, by show 2 ≤ sizeLine; decide, fun p np => ?_⟩
      obtain ⟨a1, a2, a3⟩ := fin_tup L3 o3 np (.cons (.str "number") (.cons (.int y) .nil))
      exact k _ (.number y) _ hy2 a1 a2 a3

theorem ok__law_any_tree {f : Addr} {fd : FuncData} (F : Fun K "_law_any_tree" "_law_any_tree" s__law_any_tree f fd) (T : Blt mg) (c__law_take : C8.Cal P w K mg base 1 "_law_take" spTake []) (c__law_value_of : C8.Cal P w K mg base 2 "_law_value_of" (spValueOf K) []) : FnOk P w K mg base CX0 3 f fd ["tape"] (spAnyTree K) := by
  refine F.ok sc__law_any_tree (fun vs H Q E h => ?_) (fun cdv A outer s H vs Q E hr h => ?_)
  · obtain ⟨t, c, cs, S, rfl, _⟩ := h
    rfl
  · obtain ⟨t, c, cs, S, rfl, L, k⟩ := h
    refine ⟨_, (pss_cons (ps_set (i := 1) sc__law_any_tree.nd rfl (Or.inl rfl) (pe_lst (pa_cons pe_str (pa_cons pe_str (pa_cons pe_str (pa_cons pe_str (pa_cons pe_str pa_nil)))))))
    (pss_cons (ps_set (i := 2) sc__law_any_tree.nd rfl (Or.inl rfl) (pe_lst pa_nil))
    (pss_cons (ps_for PassesOwn.never rfl (pi_range1 (by rfl) T.b_range (pa_cons (C8.pe_c c__law_take hr (by first | decide | omega) rfl (pa_cons (pv 0) (pa_cons pe_int pa_nil))) pa_nil)) (pg_name (i := 3) sc__law_any_tree.nd rfl (Or.inl rfl))
      (pss_cons (ps_set (i := 4) sc__law_any_tree.nd rfl (Or.inl rfl) (pe_lst pa_nil))
      (pss_cons (ps_for PassesOwn.never rfl (pi_range1 (by rfl) T.b_range (pa_cons (C8.pe_c c__law_take hr (by first | decide | omega) rfl (pa_cons (pv 0) (pa_cons pe_int pa_nil))) pa_nil)) (pg_name (i := 5) sc__law_any_tree.nd rfl (Or.inl rfl))
        (pss_cons (ps_setLc (i := 6) rfl sc__law_any_tree.nd rfl rfl (sw_true rfl rfl rfl (by decide +kernel)) (own := [("word", 14)]) (pi_list (pe_lst (pa_cons pe_str (pa_cons pe_str (pa_cons pe_str pa_nil))))) (blkOk_by (own := [("word", 14)]) (N := N__law_any_tree) (sc := defScope s__law_any_tree) (by decide +kernel)) (fun _ _ _ _ _ => (pg_name (i := 14) sc__law_any_tree.nd rfl (Or.inl rfl))) (fun _ _ _ _ _ => (pts_one (pt_cmpR op_eq (C8.pe_c c__law_take hr (by first | decide | omega) rfl (pa_cons (pv 0) (pa_cons pe_int pa_nil))) pe_int (nomark _)))) (fun _ _ _ _ _ => (pv 14)))
        (pss_cons (ps_set (i := 7) sc__law_any_tree.nd rfl (Or.inl rfl) (pe_ix ix_list (pe_lst (pa_cons pe_str (pa_cons pe_str (pa_cons pe_str (pa_cons pe_str pa_nil))))) (C8.pe_c c__law_take hr (by first | decide | omega) rfl (pa_cons (pv 0) (pa_cons pe_int pa_nil))) (fun _ _ => rfl)))
        (pss_one (ps_expr (pe_bm PySem.F.plainAttrs_list PySem.F.slot_list_append PySem.F.type_list_append mt_append (pv 4) (pa_cons (pe_tup (pa_cons (pe_ix ix_list (pe_lst (pa_cons pe_str (pa_cons pe_str (pa_cons pe_str pa_nil)))) (C8.pe_c c__law_take hr (by first | decide | omega) rfl (pa_cons (pv 0) (pa_cons pe_int pa_nil))) (fun _ _ => rfl)) (pa_cons (pv 7) (pa_cons (pe_callTy call_tuple_of (by rfl) T.b_tuple (by decide +kernel) (pa_cons (pv 6) pa_nil)) pa_nil)))) pa_nil)))))))
      (pss_one (ps_expr (pe_bm PySem.F.plainAttrs_list PySem.F.slot_list_append PySem.F.type_list_append mt_append (pv 2) (pa_cons (pe_tup (pa_cons (pe_op op_add_str pe_str (pe_callTy call_str_int (by rfl) T.b_str (by decide +kernel) (pa_cons (pv 3) pa_nil))) (pa_cons (pe_callTy call_tuple_of (by rfl) T.b_tuple (by decide +kernel) (pa_cons (pv 4) pa_nil)) pa_nil))) pa_nil)))))))
    (pss_cons (ps_set (i := 8) sc__law_any_tree.nd rfl (Or.inl rfl) (pe_lst pa_nil))
    (pss_cons (ps_for PassesOwn.never rfl (pi_range1 (by rfl) T.b_range (pa_cons (C8.pe_c c__law_take hr (by first | decide | omega) rfl (pa_cons (pv 0) (pa_cons pe_int pa_nil))) pa_nil)) (pg_name (i := 3) sc__law_any_tree.nd rfl (Or.inl rfl))
      (pss_cons (ps_set (i := 9) sc__law_any_tree.nd rfl (Or.inl rfl) (pe_ix ix_list (pv 1) (C8.pe_c c__law_take hr (by first | decide | omega) rfl (pa_cons (pv 0) (pa_cons pe_int pa_nil))) (fun _ _ => rfl)))
      (pss_cons (ps_set (i := 10) sc__law_any_tree.nd rfl (Or.inl rfl) (C8.pe_c c__law_take hr (by first | decide | omega) rfl (pa_cons (pv 0) (pa_cons pe_int pa_nil))))
      (pss_one (ps_if (pt_cmpR op_lt (pv 10) pe_int (nomark _))
        (pss_cons (ps_set (i := 11) sc__law_any_tree.nd rfl (Or.inl rfl) (pe_lst pa_nil))
        (pss_cons (ps_for PassesOwn.never rfl (pi_range1 (by rfl) T.b_range (pa_cons (C8.pe_c c__law_take hr (by first | decide | omega) rfl (pa_cons (pv 0) (pa_cons pe_int pa_nil))) pa_nil)) (pg_name (i := 5) sc__law_any_tree.nd rfl (Or.inl rfl))
          (pss_cons (ps_set (i := 12) sc__law_any_tree.nd rfl (Or.inl rfl) (pe_ix ix_list (pe_lst (pa_cons pe_str (pa_cons pe_str (pa_cons pe_str pa_nil)))) (C8.pe_c c__law_take hr (by first | decide | omega) rfl (pa_cons (pv 0) (pa_cons pe_int pa_nil))) (fun _ _ => rfl)))
          (pss_one (ps_expr (pe_bm PySem.F.plainAttrs_list PySem.F.slot_list_append PySem.F.type_list_append mt_append (pv 11) (pa_cons (pe_tup (pa_cons (pv 12) (pa_cons (C8.pe_c c__law_value_of hr (by first | decide | omega) rfl (pa_cons (pv 0) (pa_cons (pv 12) (pa_cons (pv 1) pa_nil)))) pa_nil))) pa_nil))))))
        (pss_cons (ps_set (i := 13) sc__law_any_tree.nd rfl (Or.inl rfl) (pe_ix ix_list (pe_lst (pa_cons pe_non (pa_cons pe_non (pa_cons pe_int (pa_cons pe_int (pa_cons pe_int pa_nil)))))) (C8.pe_c c__law_take hr (by first | decide | omega) rfl (pa_cons (pv 0) (pa_cons pe_int pa_nil))) (fun _ _ => rfl)))
        (pss_one (ps_expr (pe_bm PySem.F.plainAttrs_list PySem.F.slot_list_append PySem.F.type_list_append mt_append (pv 8) (pa_cons (pe_tup (pa_cons pe_str (pa_cons (pv 9) (pa_cons (pv 13) (pa_cons (pe_op op_add_str pe_str (pe_callTy call_str_int (by rfl) T.b_str (by decide +kernel) (pa_cons (C8.pe_c c__law_take hr (by first | decide | omega) rfl (pa_cons (pv 0) (pa_cons pe_int pa_nil))) pa_nil))) (pa_cons (pe_callTy call_tuple_of (by rfl) T.b_tuple (by decide +kernel) (pa_cons (pv 11) pa_nil)) pa_nil)))))) pa_nil)))))))
        (pss_one (ps_if (pt_cmpR op_eq (pv 10) pe_int (nomark _))
          (pss_one (ps_expr (pe_bm PySem.F.plainAttrs_list PySem.F.slot_list_append PySem.F.type_list_append mt_append (pv 8) (pa_cons (pe_tup (pa_cons pe_str (pa_cons (pv 9) pa_nil))) pa_nil))))
          (pss_one (ps_if (pt_cmpR op_eq (pv 10) pe_int (nomark _))
            (pss_one (ps_expr (pe_bm PySem.F.plainAttrs_list PySem.F.slot_list_append PySem.F.type_list_append mt_append (pv 8) (pa_cons (pe_tup (pa_cons pe_str (pa_cons (C8.pe_c c__law_take hr (by first | decide | omega) rfl (pa_cons (pv 0) (pa_cons pe_int pa_nil))) pa_nil))) pa_nil))))
            (pss_one (ps_if (pt_cmpR op_eq (pv 10) pe_int (nomark _))
              (pss_one (ps_expr (pe_bm PySem.F.plainAttrs_list PySem.F.slot_list_append PySem.F.type_list_append mt_append (pv 8) (pa_cons (pe_tup (pa_cons pe_str (pa_cons (C8.pe_c c__law_take hr (by first | decide | omega) rfl (pa_cons (pv 0) (pa_cons pe_int pa_nil))) (pa_cons (pv 9) pa_nil)))) pa_nil))))
              (pss_one (ps_expr (pe_bm PySem.F.plainAttrs_list PySem.F.slot_list_append PySem.F.type_list_append mt_append (pv 8) (pa_cons (pe_tup (pa_cons pe_str (pa_cons (pv 9) (pa_cons (pe_ix ix_list (pv 1) (C8.pe_c c__law_take hr (by first | decide | omega) rfl (pa_cons (pv 0) (pa_cons pe_int pa_nil))) (fun _ _ => rfl)) pa_nil)))) pa_nil)))))))))))))))
    (pss_one (ps_ret (pe_tup (pa_cons (pe_callTy call_tuple_of (by rfl) T.b_tuple (by decide +kernel) (pa_cons (pv 2) pa_nil)) (pa_cons (pe_callTy call_tuple_of (by rfl) T.b_tuple (by decide +kernel) (pa_cons (pv 8) pa_nil)) pa_nil)))))))))), ?_⟩
    -- names, kinds
    refine ⟨by show 5 ≤ sizeLine; decide, fun nm nnm => ?_⟩
    have B0 := (Bg.start (K := K) L).read (xs := namesL.map V.str) nnm
    refine ⟨Nat.zero_le _, fun kd nkd => ?_⟩
    have B1 := B0.open_ nkd
    refine ⟨_, rfl, t, c, cs, 4, rfl, B1.live.tape, by decide, by decide, fun r kvs h0 h1 hk => ?_⟩
    refine ⟨_, rfl, by omega, by omega, for_range (n := r.toNat) (fun i σ H' => ∃ (ks : List Kd) (e3 e4 e5 e6 e7 e8 e9 e10 e11 e12 e13 e14 : Option V), σ = [some (.ref t), some (.ref nm), some (.ref kd), e3, e4, e5, e6, e7, e8, e9, e10, e11, e12, e13, e14] ∧
        Bg K t c cs H S [(kd, ks.map Kd.d)] [(nm, namesL.map V.str)] H' ∧ (∀ k ∈ ks, k.ok) ∧ ks.length = i)
      ⟨[], none, none, none, none, none, none, none, none, none, none, none, none, rfl, B1.take hk, (fun _ h => by cases h), rfl⟩ ?_ ?_⟩
    · rintro i σ H2 hi ⟨ks, e3, e4, e5, e6, e7, e8, e9, e10, e11, e12, e13, e14, rfl, B, hks, hlen⟩
      rw [Int.zero_add]
      refine ⟨Nat.zero_le _, fun fl nfl => ?_⟩
      have B3 := B.open_ nfl
      refine ⟨_, rfl, t, c, cs, 4, rfl, B3.live.tape, by decide, by decide, fun r2 kvs2 h20 h21 hk2 => ?_⟩
      refine ⟨_, rfl, by omega, by omega, for_range (n := r2.toNat) (fun j σ H' => ∃ (fs : List Fd) (e5 e6 e7 e8 e9 e10 e11 e12 e13 e14 : Option V), σ = [some (.ref t), some (.ref nm), some (.ref kd), some (.int (i : Int)), some (.ref fl), e5, e6, e7, e8, e9, e10, e11, e12, e13, e14] ∧
          Bg K t c cs H S [(fl, fs.map Fd.d), (kd, ks.map Kd.d)] [(nm, namesL.map V.str)] H' ∧ (∀ f ∈ fs, f.ok) ∧ fs.length = j)
        ⟨[], e5, e6, e7, e8, e9, e10, e11, e12, e13, e14, rfl, B3.take hk2, (fun _ h => by cases h), rfl⟩ ?_ ?_⟩
      · rintro j σ H3 hj ⟨fs, e5, e6, e7, e8, e9, e10, e11, e12, e13, e14, rfl, B4, hfs, hflen⟩
        rw [Int.zero_add]
        -- marks
        refine ⟨by show 3 ≤ sizeLine; decide, fun q nq => ⟨q, rfl, ⟨_, SqL.of upd_same⟩, fun D nD => lc_list (K := K) (a := q) (xs := markL.map V.str) (fun m H' => ∃ ms : List Str,
            Bg K t c cs H S [(D, strD ms), (fl, fs.map Fd.d), (kd, ks.map Kd.d)] [(q, markL.map V.str), (nm, namesL.map V.str)] H' ∧ H' D = some (.lst (ms.map V.str)) ∧ ms.Sublist (markL.take m))
          ⟨[], (B4.read (xs := markL.map V.str) nq).open_ nD, upd_same, List.nil_sublist _⟩ (fun m H' _ ⟨ms, B, _, _⟩ => SqL.of (B.ro (q, markL.map V.str) (List.mem_cons_self ..)).1) ?_ ?_⟩⟩
        · rintro m x H4 hx ⟨ms, B6, hD, hsub⟩
          obtain ⟨y, hy, rfl⟩ : ∃ y, markL[m]? = some y ∧ V.str y = x := by
            rw [List.getElem?_map] at hx
            cases e : markL[m]? with
            | none => rw [e] at hx; cases hx
            | some n => rw [e] at hx; exact ⟨n, rfl, Option.some.inj hx⟩
          have hm : m < 3 := (List.getElem?_eq_some_iff.mp hy).1
          have hml : ms.length ≤ 3 := Nat.le_trans hsub.length_le (by rw [List.length_take]; exact Nat.min_le_right _ _)
          refine ⟨rfl, _, rfl, t, c, cs, 3, rfl, B6.live.tape, by decide, by decide, fun r3 kvs3 h30 h31 hk3 => ?_⟩
          have B7 := B6.take hk3
          have hD7 : (upd H4 t (.dK kvs3)) D = some (.lst (ms.map V.str)) := by rw [upd_ne (B6.live.nt hD)]; exact hD
          have et : markL.take (m + 1) = markL.take m ++ [y] := by rw [List.take_add_one, hy]; rfl
          refine ⟨rfl, _, rfl, ite2 (fun e => ?_) (fun e => ?_)⟩
          · refine ⟨_, rfl, _, hD7, ?_, ms ++ [y], ?_, ?_, ?_⟩
            · rw [List.length_map]
              exact Nat.lt_of_le_of_lt hml (by decide)
            · have e2 : strD (ms ++ [y]) = strD ms ++ [.str y] := List.map_append
              rw [e2]
              exact B7.snoc hD7 (.str y)
            · rw [upd_same, List.map_append]; rfl
            · rw [et]
              exact hsub.append (List.Sublist.refl _)
          · refine ⟨ms, B7, hD7, ?_⟩
            rw [et]
            exact hsub.trans (List.sublist_append_left _ _)
        · rintro H4 ⟨ms, B6, hD, hsub⟩
          rw [List.length_map, show markL.length = 3 from rfl] at hsub
          have B8 := (B6.freeze hD).drop (R' := [(D, ms.map V.str), (nm, namesL.map V.str)]) (fun p hp => by
            rcases List.mem_cons.mp hp with rfl | hp
            · exact List.mem_cons_self ..
            · rw [List.mem_singleton.mp hp]
              exact List.mem_cons_of_mem _ (List.mem_cons_of_mem _ (List.mem_cons_self ..)))
          -- target
          refine ⟨by show 4 ≤ sizeLine; decide, fun q2 nq2 => ?_⟩
          have B9 := B8.read (xs := targetL.map V.str) nq2
          refine ⟨_, rfl, t, c, cs, 4, rfl, B9.live.tape, by decide, by decide, fun r4 kvs4 h40 h41 hk4 => ?_⟩
          have B10 := B9.take hk4
          obtain ⟨y4, hy4, hm4, er4⟩ := drawn (l := targetL) h40 h41
          have hy4' : (targetL.map V.str)[r4.toNat]? = some (.str y4) := by rw [List.getElem?_map, hy4]; rfl
          refine ⟨q2, _, r4, _, rfl, rfl, SqL.of (B10.ro (q2, targetL.map V.str) (List.mem_cons_self ..)).1, at_of er4 hy4', ?_⟩
          -- fields.append
          obtain ⟨xs, hfl, _⟩ := B10.head
          refine ⟨_, rfl, .inl ⟨rfl, _, SqL.of hfl⟩, by show 3 ≤ sizeLine; decide, fun q3 nq3 => ?_⟩
          have B11 := B10.read (xs := fieldL.map V.str) nq3
          refine ⟨_, rfl, t, c, cs, 3, rfl, B11.live.tape, by decide, by decide, fun r5 kvs5 h50 h51 hk5 => ?_⟩
          have B12 := B11.take hk5
          obtain ⟨y5, hy5, hm5, er5⟩ := drawn (l := fieldL) h50 h51
          have hy5' : (fieldL.map V.str)[r5.toNat]? = some (.str y5) := by rw [List.getElem?_map, hy5]; rfl
          refine ⟨q3, _, r5, _, rfl, rfl, SqL.of (B12.ro (q3, fieldL.map V.str) (List.mem_cons_self ..)).1, at_of er5 hy5', ?_⟩
          refine ⟨_, rfl, _, rfl, D, _, rfl, .inl ⟨SqL.of (B12.ro (D, ms.map V.str) (List.mem_cons_of_mem _ (List.mem_cons_of_mem _ (List.mem_cons_self ..)))).1, fun l nl => ?_⟩⟩
          obtain ⟨B13, dl⟩ := B12.tup nl (strD_ds ms)
          refine ⟨by show 3 ≤ sizeLine; decide, fun p np => ?_⟩
          obtain ⟨B14, dp⟩ := B13.tup np (.cons (.str y5) (.cons (.str y4) (.cons dl .nil)))
          obtain ⟨xs2, hfl2, _⟩ := B14.head
          have hxl : xs2.length = fs.length := by
            have := (B14.op _ (List.mem_cons_self ..)).1.len hfl2
            rw [this, List.length_map]
          refine ⟨fl, xs2, _, rfl, rfl, hfl2, Nat.lt_of_le_of_lt (show xs2.length ≤ 100 by omega) (by decide), ?_⟩
          refine ⟨fs ++ [⟨y5, y4, ms⟩], _, _, _, _, _, _, _, _, _, _, rfl, ?_, ?_, ?_⟩
          · have B15 := (B14.snoc hfl2 dp).drop (R' := [(nm, namesL.map V.str)]) (fun p hp => by
              rw [List.mem_singleton.mp hp]
              exact List.mem_cons_of_mem _ (List.mem_cons_of_mem _ (List.mem_cons_of_mem _ (List.mem_cons_self ..))))
            rw [List.map_append]
            exact B15
          · intro f hf
            rcases List.mem_append.mp hf with hf | hf
            · exact hfs f hf
            · rw [List.mem_singleton.mp hf]
              exact ⟨hm5, hm4, hsub⟩
          · rw [List.length_append, hflen]; rfl
      · rintro σ H3 ⟨fs, e5, e6, e7, e8, e9, e10, e11, e12, e13, e14, rfl, B4, hfs, hflen⟩
        obtain ⟨xsf, hfl, dsf⟩ := B4.head
        have B5 := B4.close
        have dsf' := ds_close dsf
        obtain ⟨xs, hkd, _⟩ := B5.head
        refine ⟨_, rfl, .inl ⟨rfl, _, SqL.of hkd⟩, _, rfl, _, rfl, small_log (by omega) (by omega), _, _, rfl, rfl, kname_len (by omega) (by omega), _, rfl, fl, _, rfl, .inl ⟨SqL.of hfl, fun l nl => ?_⟩⟩
        obtain ⟨B6, dl⟩ := B5.tup nl dsf'
        refine ⟨by show 2 ≤ sizeLine; decide, fun p np => ?_⟩
        obtain ⟨B7, dp⟩ := B6.tup np (.cons (.str _) (.cons dl .nil))
        obtain ⟨xs2, hkd2, _⟩ := B7.head
        have hxl : xs2.length = ks.length := by
          have := (B7.op _ (List.mem_cons_self ..)).1.len hkd2
          rw [this, List.length_map]
        refine ⟨kd, xs2, _, rfl, rfl, hkd2, Nat.lt_of_le_of_lt (show xs2.length ≤ 100 by omega) (by decide), ?_⟩
        refine ⟨ks ++ [⟨Str.ofString "k" ++ Str.ofString (toString (i : Int)), fs⟩], _, _, _, _, _, _, _, _, _, _, _, _, rfl, ?_, ?_, ?_⟩
        · rw [List.map_append]
          exact B7.snoc hkd2 dp
        · intro f hf
          rcases List.mem_append.mp hf with hf | hf
          · exact hks f hf
          · rw [List.mem_singleton.mp hf]
            exact ⟨kname (by omega) (by omega), hfs, by show fs.length ≤ 3; omega⟩
        · rw [List.length_append, hlen]; rfl
    · rintro σ H2 ⟨ks, e3, e4, e5, e6, e7, e8, e9, e10, e11, e12, e13, e14, rfl, B, hks, hlen⟩
      -- items
      refine ⟨Nat.zero_le _, fun it nit => ?_⟩
      have B1' := B.open_ nit
      refine ⟨_, rfl, t, c, cs, 6, rfl, B1'.live.tape, by decide, by decide, fun r2 kvs2 h20 h21 hk2 => ?_⟩
      refine ⟨_, rfl, by omega, by omega, for_range (n := r2.toNat) (fun i σ H' => ∃ (is : List Im) (e3 e4 e5 e6 e7 e9 e10 e11 e12 e13 e14 : Option V), σ = [some (.ref t), some (.ref nm), some (.ref kd), e3, e4, e5, e6, e7, some (.ref it), e9, e10, e11, e12, e13, e14] ∧
          Bg K t c cs H S [(it, is.map Im.d), (kd, ks.map Kd.d)] [(nm, namesL.map V.str)] H' ∧ (∀ k ∈ is, k.ok) ∧ is.length = i)
        ⟨[], e3, e4, e5, e6, e7, e9, e10, e11, e12, e13, e14, rfl, B1'.take hk2, (fun _ h => by cases h), rfl⟩ ?_ ?_⟩
      · rintro i σ H3 hi ⟨is, e3, e4, e5, e6, e7, e9, e10, e11, e12, e13, e14, rfl, B3, his, hil⟩
        rw [Int.zero_add]
        -- name, choice
        refine ⟨_, rfl, _, rfl, t, c, cs, 5, rfl, B3.live.tape, by decide, by decide, fun r3 kvs3 h30 h31 hk3 => ?_⟩
        have B4 := B3.take hk3
        obtain ⟨y3, hy3, hm3, er3⟩ := drawn (l := namesL) h30 h31
        have hy3' : (namesL.map V.str)[r3.toNat]? = some (.str y3) := by rw [List.getElem?_map, hy3]; rfl
        refine ⟨nm, _, r3, _, rfl, rfl, SqL.of (B4.ro (nm, namesL.map V.str) (List.mem_cons_self ..)).1, at_of er3 hy3', ?_⟩
        refine ⟨_, rfl, t, c, cs, 9, rfl, B4.live.tape, by decide, by decide, fun r4 kvs4 h40 h41 hk4 => ?_⟩
        have B5 := B4.take hk4
        generalize upd (upd H3 t (.dK kvs3)) t (.dK kvs4) = H5 at B5 ⊢
        -- an item laid
        have lay : ∀ {H6 : Hp} {p : Addr} {xs : List V} (x : Im) (ds : List PyData) (σ2 : L2.St) (e3 e4 e5 e6 e7 e9 e10 e11 e12 e13 e14 : Option V), x.d = .tuple ds → x.ok → Bg K t c cs H S [(it, is.map Im.d), (kd, ks.map Kd.d)] [(nm, namesL.map V.str)] H6 → H6 p = none → DsS K (it :: kd :: S) H6 xs ds →
            σ2 = [some (.ref t), some (.ref nm), some (.ref kd), e3, e4, e5, e6, e7, some (.ref it), e9, e10, e11, e12, e13, e14] →
            ∃ lx ys y, V.ref it = .ref lx ∧ [V.ref p] = [y] ∧ (upd H6 p (.tup xs)) lx = some (.lst ys) ∧ ys.length < sizeLine ∧ ∃ (is : List Im) (e3 e4 e5 e6 e7 e9 e10 e11 e12 e13 e14 : Option V), σ2 = [some (.ref t), some (.ref nm), some (.ref kd), e3, e4, e5, e6, e7, some (.ref it), e9, e10, e11, e12, e13, e14] ∧
              Bg K t c cs H S [(it, is.map Im.d), (kd, ks.map Kd.d)] [(nm, namesL.map V.str)] (upd (upd H6 p (.tup xs)) lx (.lst (ys ++ [y]))) ∧ (∀ k ∈ is, k.ok) ∧ is.length = i + 1 := by
          intro H6 p xs x ds σ2 e3 e4 e5 e6 e7 e9 e10 e11 e12 e13 e14 hd hx B6 np hds hσ
          obtain ⟨B7, dp⟩ := B6.tup np hds
          obtain ⟨ys, hit, _⟩ := B7.head
          have hxl : ys.length = is.length := by
            have := (B7.op _ (List.mem_cons_self ..)).1.len hit
            rw [this, List.length_map]
          refine ⟨it, ys, _, rfl, rfl, hit, Nat.lt_of_le_of_lt (show ys.length ≤ 100 by omega) (by decide), is ++ [x], e3, e4, e5, e6, e7, e9, e10, e11, e12, e13, e14, hσ, ?_, ?_, ?_⟩
          · rw [List.map_append]
            rw [← hd] at dp
            exact B7.snoc hit dp
          · intro f hf
            rcases List.mem_append.mp hf with hf | hf
            · exact his f hf
            · rw [List.mem_singleton.mp hf]; exact hx
          · rw [List.length_append, hil]; rfl
        refine ⟨_, rfl, _, _, rfl, rfl, _, rfl, ite2 (fun e => ?_) (fun e => ?_)⟩
        · -- a thing
          refine ⟨Nat.zero_le _, fun vl nvl => ?_⟩
          have B6 := B5.open_ nvl
          refine ⟨_, rfl, t, c, cs, 4, rfl, B6.live.tape, by decide, by decide, fun r5 kvs5 h50 h51 hk5 => ?_⟩
          refine ⟨_, rfl, by omega, by omega, for_range (n := r5.toNat) (fun j σ H' => ∃ (vs : List (Str × Vl)) (e5 e12 e13 e14 : Option V), σ = [some (.ref t), some (.ref nm), some (.ref kd), some (.int (i : Int)), e4, e5, e6, e7, some (.ref it), some (.str y3), some (.int r4), some (.ref vl), e12, e13, e14] ∧
              Bg K t c cs H S [(vl, vs.map valD), (it, is.map Im.d), (kd, ks.map Kd.d)] [(nm, namesL.map V.str)] H' ∧ (∀ p ∈ vs, p.1 ∈ fieldL ∧ p.2.ok namesL) ∧ vs.length = j)
            ⟨[], e5, e12, e13, e14, rfl, B6.take hk5, (fun _ h => by cases h), rfl⟩ ?_ ?_⟩
          · rintro j σ H7 hj ⟨vs, e5, e12, e13, e14, rfl, B7, hvs, hvl⟩
            rw [Int.zero_add]
            refine ⟨by show 3 ≤ sizeLine; decide, fun q2 nq2 => ?_⟩
            have B8 := B7.read (xs := fieldL.map V.str) nq2
            refine ⟨_, rfl, t, c, cs, 3, rfl, B8.live.tape, by decide, by decide, fun r6 kvs6 h60 h61 hk6 => ?_⟩
            have B9 := B8.take hk6
            obtain ⟨y6, hy6, hm6, er6⟩ := drawn (l := fieldL) h60 h61
            have hy6' : (fieldL.map V.str)[r6.toNat]? = some (.str y6) := by rw [List.getElem?_map, hy6]; rfl
            refine ⟨q2, _, r6, _, rfl, rfl, SqL.of (B9.ro (q2, fieldL.map V.str) (List.mem_cons_self ..)).1, at_of er6 hy6', ?_⟩
            obtain ⟨xs, hvl2, _⟩ := B9.head
            have B10 := B9.drop (R' := [(nm, namesL.map V.str)]) (fun p hp => List.mem_cons_of_mem _ hp)
            have hro := B10.ro (nm, namesL.map V.str) (List.mem_cons_self ..)
            refine ⟨_, rfl, .inl ⟨rfl, _, SqL.of hvl2⟩, _, rfl, _, rfl, _, rfl, _, rfl, t, c, nm, cs, _, namesL, _, rfl, B10.live, hro.1, hro.2, by decide, by decide, fun v x H11 hx Lx ox dx => ?_⟩
            have B11 := B10.call Lx ox
            refine ⟨by show 2 ≤ sizeLine; decide, fun p np => ?_⟩
            obtain ⟨B12, dp⟩ := B11.tup np (.cons (.str y6) (.cons dx .nil))
            obtain ⟨xs2, hvl3, _⟩ := B12.head
            have hxl : xs2.length = vs.length := by
              have := (B12.op _ (List.mem_cons_self ..)).1.len hvl3
              rw [this, List.length_map]
            refine ⟨vl, xs2, _, rfl, rfl, hvl3, Nat.lt_of_le_of_lt (show xs2.length ≤ 100 by omega) (by decide), vs ++ [(y6, x)], _, _, _, _, rfl, ?_, ?_, ?_⟩
            · rw [List.map_append]
              exact B12.snoc hvl3 dp
            · intro f hf
              rcases List.mem_append.mp hf with hf | hf
              · exact hvs f hf
              · rw [List.mem_singleton.mp hf]; exact ⟨hm6, hx⟩
            · rw [List.length_append, hvl]; rfl
          · rintro σ H7 ⟨vs, e5, e12, e13, e14, rfl, B7, hvs, hvl⟩
            obtain ⟨xsv, hvl2, dsv⟩ := B7.head
            have B8 := B7.freeze hvl2
            have dsv' := ds_close dsv
            -- count
            refine ⟨by show 5 ≤ sizeLine; decide, fun q2 nq2 => ?_⟩
            have B9 := B8.read (xs := cntL.map cntV) nq2
            refine ⟨_, rfl, t, c, cs, 5, rfl, B9.live.tape, by decide, by decide, fun r6 kvs6 h60 h61 hk6 => ?_⟩
            have B10 := B9.take hk6
            obtain ⟨y6, hy6, hm6, er6⟩ := drawn (l := cntL) h60 h61
            have hy6' : (cntL.map cntV)[r6.toNat]? = some (cntV y6) := by rw [List.getElem?_map, hy6]; rfl
            refine ⟨q2, _, r6, _, rfl, rfl, SqL.of (B10.ro (q2, cntL.map cntV) (List.mem_cons_self ..)).1, at_of er6 hy6', ?_⟩
            obtain ⟨xs, hit, _⟩ := B10.head
            refine ⟨_, rfl, .inl ⟨rfl, _, SqL.of hit⟩, _, rfl, _, rfl, _, rfl, t, c, cs, 3, rfl, B10.live.tape, by decide, by decide, fun r7 kvs7 h70 h71 hk7 => ?_⟩
            have B11 := B10.take hk7
            refine ⟨_, rfl, small_log (by omega) (by omega), _, _, rfl, rfl, kname_len (by omega) (by omega), _, rfl, vl, _, rfl, .inl ⟨SqL.of (B11.ro (vl, xsv) (List.mem_cons_of_mem _ (List.mem_cons_self ..))).1, fun l nl => ?_⟩⟩
            have dsv3 : DsS K (it :: kd :: S) (upd (upd (upd H7 q2 (.lst (cntL.map cntV))) t (.dK kvs6)) t (.dK kvs7)) xsv (vs.map valD) :=
              dsS_out (.upd_in B10.live.tS) (dsS_out (.upd_in B9.live.tS) (dsS_out (.upd_new nq2) dsv'))
            obtain ⟨B12, dl⟩ := B11.tup nl dsv3
            refine ⟨by show 5 ≤ sizeLine; decide, fun p np => ?_⟩
            exact lay (.thing y3 y6 _ vs) _ _ _ _ _ _ _ _ _ _ _ _ _ rfl ⟨hm3, hm6, kname h70 h71, hvs, by omega⟩ (B12.drop (fun p hp => by
              rw [List.mem_singleton.mp hp]
              exact List.mem_cons_of_mem _ (List.mem_cons_of_mem _ (List.mem_cons_self ..)))) np (.cons (.str _) (.cons (.str _) (.cons (cnt_dp y6) (.cons (.str _) (.cons dl .nil))))) rfl
        obtain ⟨xs, hit, _⟩ := B5.head
        refine ⟨_, rfl, rfl, _, rfl, ite2 (fun e => ?_) (fun e => ?_)⟩
        · refine ⟨_, rfl, .inl ⟨rfl, _, SqL.of hit⟩, _, rfl, by show 2 ≤ sizeLine; decide, fun p np => ?_⟩
          exact lay (.keep y3) _ _ _ _ _ _ _ _ _ _ _ _ _ rfl hm3 B5 np (.cons (.str _) (.cons (.str _) .nil)) rfl
        refine ⟨_, rfl, rfl, _, rfl, ite2 (fun e => ?_) (fun e => ?_)⟩
        · refine ⟨_, rfl, .inl ⟨rfl, _, SqL.of hit⟩, _, rfl, t, c, cs, 9, rfl, B5.live.tape, by decide, by decide, fun r5 kvs5 h50 h51 hk5 => ?_⟩
          refine ⟨by show 2 ≤ sizeLine; decide, fun p np => ?_⟩
          exact lay (.most r5) _ _ _ _ _ _ _ _ _ _ _ _ _ rfl ⟨h50, h51⟩ (B5.take hk5) np (.cons (.str _) (.cons (.int _) .nil)) rfl
        refine ⟨_, rfl, rfl, _, rfl, ite2 (fun e => ?_) (fun e => ?_)⟩
        · refine ⟨_, rfl, .inl ⟨rfl, _, SqL.of hit⟩, _, rfl, t, c, cs, 4, rfl, B5.live.tape, by decide, by decide, fun r5 kvs5 h50 h51 hk5 => ?_⟩
          refine ⟨_, rfl, by show 3 ≤ sizeLine; decide, fun p np => ?_⟩
          exact lay (.adopt r5 y3) _ _ _ _ _ _ _ _ _ _ _ _ _ rfl ⟨h50, h51, hm3⟩ (B5.take hk5) np (.cons (.str _) (.cons (.int _) (.cons (.str _) .nil))) rfl
        · refine ⟨_, rfl, .inl ⟨rfl, _, SqL.of hit⟩, _, rfl, _, rfl, _, rfl, t, c, cs, 5, rfl, B5.live.tape, by decide, by decide, fun r5 kvs5 h50 h51 hk5 => ?_⟩
          have B6 := B5.take hk5
          obtain ⟨y5, hy5, hm5, er5⟩ := drawn (l := namesL) h50 h51
          have hy5' : (namesL.map V.str)[r5.toNat]? = some (.str y5) := by rw [List.getElem?_map, hy5]; rfl
          refine ⟨nm, _, r5, _, rfl, rfl, SqL.of (B6.ro (nm, namesL.map V.str) (List.mem_cons_self ..)).1, at_of er5 hy5', ?_⟩
          refine ⟨by show 3 ≤ sizeLine; decide, fun p np => ?_⟩
          exact lay (.move y3 y5) _ _ _ _ _ _ _ _ _ _ _ _ _ rfl ⟨hm3, hm5⟩ B6 np (.cons (.str _) (.cons (.str _) (.cons (.str _) .nil))) rfl
      · rintro σ H3 ⟨is, e3, e4, e5, e6, e7, e9, e10, e11, e12, e13, e14, rfl, B3, his, hil⟩
        obtain ⟨xsi, hit, dsi⟩ := B3.head
        have B4 := B3.close
        have dsi' := ds_close dsi
        obtain ⟨xsk, hkd, dsk⟩ := B4.head
        have B5 := B4.close
        have dsi2 := ds_close dsi'
        have dsk2 := ds_close dsk
        refine ⟨_, rfl, kd, _, rfl, .inl ⟨SqL.of hkd, fun l1 nl1 => ?_⟩⟩
        obtain ⟨B6, d1⟩ := B5.tup nl1 dsk2
        refine ⟨_, rfl, it, _, rfl, .inl ⟨SqL.of (by rw [upd_ne (ne_of_none hit nl1)]; exact hit), fun l2 nl2 => ?_⟩⟩
        obtain ⟨B7, d2⟩ := B6.tup nl2 (dsS_out (.upd_new nl1) dsi2)
        refine ⟨by show 2 ≤ sizeLine; decide, fun p np => ?_⟩
        obtain ⟨B8, dp⟩ := B7.tup np (.cons (B6.dp_new nl2 d1) (.cons d2 .nil))
        exact k _ ⟨ks, is⟩ _ ⟨hks, his, by show ks.length ≤ 3; omega, by show is.length ≤ 5; omega⟩ B8.live B8.out dp

end
end K02
namespace K02
open PySem PySem.Spec PyProof.Rows L2 LB
section
variable {P : Program} {w : World} {K : PySem.W.Frag} {mg : Str → Option Value} {base : Heap}
theorem ok__law_put {f : Addr} {fd : FuncData} (F : Fun K "_law_put" "_law_put" s__law_put f fd) (T : Blt mg) (c__law_take : C8.Cal P w K mg base 1 "_law_take" spTake []) (c__law_letter : C8.Cal P w K mg base 1 "_law_letter" spLetter []) (c__law_digit : C8.Cal P w K mg base 1 "_law_digit" spDigit []) :
    FnOk P w K mg base CX0 2 f fd ["tape", "out", "string"] spPut2 := by
  refine F.ok sc__law_put (fun vs H Q E h => ?_) (fun cdv A outer s H vs Q E hr h => ?_)
  · obtain ⟨t, c, cs, S, o, z, ws, s, rfl, _⟩ := h
    rfl
  · obtain ⟨t, c, cs, S, o, z, ws, s, rfl, W, hB, hs, hz, k⟩ := h
    have hu := hu_of hr
    refine ⟨_, (pss_cons (ps_set (i := 3) sc__law_put.nd rfl (Or.inl rfl) (pe_slice C8.sl_txt (pe_dget hu (pv 1) pe_str (fun _ _ => rfl)) (po_some (pe_un un_neg pe_int)) po_none))
    (pss_cons (ps_set (i := 4) sc__law_put.nd rfl (Or.inl rfl) (pe_ix ix_list (pe_lst (pa_cons pe_str (pa_cons pe_str (pa_cons pe_str (pa_cons pe_str pa_nil))))) (pe_op op_fdiv (C8.pe_c c__law_take hr (by first | decide | omega) rfl (pa_cons (pv 0) (pa_cons pe_int pa_nil))) pe_int) (fun _ _ => rfl)))
    (C8.pss_cut (ps_if (PW.pt (pw_and (pt_cmpR op_eq (pv 4) pe_str (nomark _)) (pw_and (pt_cmpR op_ne (pv 3) pe_str (nomark _)) (pw_and1 (PW.pt (pw_or (pt_val (C8.pe_c c__law_letter hr (by first | decide | omega) rfl (pa_cons (pv 3) pa_nil))) (pw_or (pt_val (C8.pe_c c__law_digit hr (by first | decide | omega) rfl (pa_cons (pv 3) pa_nil))) (pw_or1 (pt_cmpR op_in_sign (pv 3) pe_str (by rfl))))))))))
      (pss_one (ps_set (i := 4) sc__law_put.nd rfl (Or.inl rfl) pe_str))
      pss_nil)
    (pss_one (ps_dput hu (pv 1) pe_str (pe_op op_add_str (pe_op op_add_str (pe_dget hu (pv 1) pe_str (fun _ _ => rfl)) (pv 4)) (pv 2)) rfl))))), ?_⟩
    refine ⟨_, rfl, o, _, rfl, dg_text W.at_, _, rfl, _, rfl, _, rfl, szt (by omega), ?_⟩
    have hlast := last_slice2 z
    generalize Txt.slice ⟨z.toArray⟩ (some (-1)) none = y at hlast ⊢
    refine ⟨by show 4 ≤ sizeLine; decide, fun g ng => ?_⟩
    have W1 := W.new (u := .lst [.str " ", .str "", .str "\n", .str " ! note }\n"]) ng
    refine ⟨_, rfl, t, c, cs, 16, rfl, W1.live.tape, by decide, by decide, fun r kvs h0 h1 hk => ?_⟩
    have W2 := W1.take hk
    refine ⟨_, _, rfl, rfl, ⟨by decide, by decide⟩, ?_⟩
    have hq : 0 ≤ r / 4 ∧ r / 4 < 4 := by omega
    obtain ⟨gp, hg, hgm, hge⟩ := drawn (l := gapL) (r := r / 4) hq.1 hq.2
    have hg2 : (gapL.map V.str)[(r / 4).toNat]? = some (.str gp) := by rw [List.getElem?_map, hg]; rfl
    have gt : g ≠ t := by
      obtain ⟨kv, e, _⟩ := W1.live.tape.dc
      exact ne_of upd_same e (by intro z; cases z)
    refine ⟨g, _, _, _, rfl, rfl, SqL.of (by rw [upd_ne gt]; exact upd_same), drawn_at hge hg2, ?_⟩
    have o2 : Out [t, o] H (upd (upd H g (.lst [.str " ", .str "", .str "\n", .str " ! note }\n"])) t (.dK kvs)) := (Out.upd_new ng).trans PS.t_in
    generalize upd (upd H g (.lst [.str " ", .str "", .str "\n", .str " ! note }\n"])) t (.dK kvs) = H2 at W2 o2 ⊢
    refine ⟨fun σ' H' => ∃ gp : Str, σ' = [some (.ref t), some (.ref o), some (.str s), some (.str y), some (.str gp)] ∧ H' = H2 ∧ gp.length ≤ 10 ∧ cds gp ∈ gaps ∧ (cds gp = [] → z = [] ∨ ∃ d, z.getLast? = some d ∧ Tk.inner d = false), ?_, ?_⟩
    · have stay : ((cds gp = [] → z = [] ∨ ∃ d, z.getLast? = some d ∧ Tk.inner d = false)) → ∃ gp' : Str, [some (V.ref t), some (V.ref o), some (V.str s), some (V.str y), some (V.str gp)] = [some (.ref t), some (.ref o), some (.str s), some (.str y), some (.str gp')] ∧ H2 = H2 ∧ gp'.length ≤ 10 ∧ cds gp' ∈ gaps ∧ (cds gp' = [] → z = [] ∨ ∃ d, z.getLast? = some d ∧ Tk.inner d = false) := fun hq => ⟨gp, rfl, rfl, gap_len gp hgm, gap_mem gp hgm, hq⟩
      have sp : ∃ gp' : Str, [some (V.ref t), some (V.ref o), some (V.str s), some (V.str y), some (V.str " ")] = [some (.ref t), some (.ref o), some (.str s), some (.str y), some (.str gp')] ∧ H2 = H2 ∧ gp'.length ≤ 10 ∧ cds gp' ∈ gaps ∧ (cds gp' = [] → z = [] ∨ ∃ d, z.getLast? = some d ∧ Tk.inner d = false) := ⟨" ", rfl, rfl, by decide +kernel, by decide +kernel, fun hq => absurd hq (by decide +kernel)⟩
      refine ⟨_, rfl, rfl, _, rfl, ite2 (fun _ => ?_) (fun hne => iteF (stay fun hq => ?_))⟩
      rotate_left
      · have := of_decide_eq_false (nt hne)
        exact absurd (by rw [cds_nil hq]) this
      refine ⟨_, rfl, rfl, _, rfl, ite2 (fun hne => ?_) (fun hne => iteF (stay fun hq => ?_))⟩
      rotate_left
      · rcases hlast with ⟨_, hz0⟩ | ⟨d, rfl, hd⟩
        · exact .inl hz0
        · have : (!decide (V.str (⟨#[d]⟩ : Str) = V.str "")) = false := nt hne
          have h2 : decide (V.str (⟨#[d]⟩ : Str) = V.str "") = true := by simpa using this
          have h3 := V.str.inj (of_decide_eq_true h2)
          have h4 : cds (⟨#[d]⟩ : Str) = cds ("" : Str) := by rw [h3]
          have h5 : cds ("" : Str) = [] := by decide +kernel
          rw [h5] at h4
          cases h4
      rcases hlast with ⟨rfl, _⟩ | ⟨d, rfl, hd⟩
      · have : decide (V.str (⟨#[]⟩ : Str) = V.str "") = true := by decide +kernel
        rw [this] at hne
        cases hne
      · refine ⟨_, rfl, d, rfl, _, rfl, ?_⟩
        cases hL : Tk.letter d with
        | true => exact iteT (iteT sp)
        | false =>
          refine iteF ⟨_, rfl, d, rfl, _, rfl, ?_⟩
          cases hD : Tk.digit d with
          | true => exact iteT (iteT sp)
          | false =>
            refine iteF ⟨_, rfl, d, _, rfl, rfl, _, rfl, ?_⟩
            refine ite2 (fun _ => sp) (fun h3 => stay fun _ => .inr ⟨d, hd, inner_no hL hD ?_⟩)
            rw [← in_three]
            exact nt h3
    · rintro σ' H' ⟨gp', rfl, rfl, hgl, hgg, hgz⟩
      have al : ∀ a b : Str, (a ++ b).length = a.length + b.length := fun a b => by
        have h := congrArg List.length (TL.tl_append a b)
        rw [List.length_append] at h
        simpa [Str.length, TL.tl] using h
      have big : ∀ n : Nat, n ≤ 100000 → n ≤ sizeLine := fun n h => szl h
      have hzl : (⟨z.toArray⟩ : Str).length = z.length := slen z
      refine ⟨_, rfl, o, _, rfl, dg_text W2.at_, _, rfl, _, _, rfl, rfl, big _ (by rw [hzl]; omega), _, rfl, _, _, rfl, rfl, big _ (by rw [al, hzl]; have := voc_len hs; omega), ?_⟩
      have e : (⟨z.toArray⟩ ++ gp' ++ s : Str) = ⟨((⟨z.toArray⟩ ++ gp' ++ s : Str).cps.toList).toArray⟩ := rfl
      rw [e]
      refine ⟨_, rfl, o, _, rfl, dp_text W2.at_, ?_⟩
      have hcd : (⟨z.toArray⟩ ++ gp' ++ s : Str).cps.toList = z ++ cds gp' ++ cds s := by
        have h1 := cds_app (⟨z.toArray⟩ ++ gp') s
        have h3 := cds_app (⟨z.toArray⟩ : Str) gp'
        have h2 : cds (⟨z.toArray⟩ : Str) = z := stl z
        rw [h3, h2] at h1
        exact h1
      have hsl := voc_len hs
      refine k _ _ ?_ (by rw [hcd]; exact hB.put hs hgg hgz) W2.put (o2.trans W2.o_in)
      have : ((⟨z.toArray⟩ ++ gp' ++ s : Str).cps.toList).length = (⟨z.toArray⟩ ++ gp' ++ s : Str).length := by simp [Str.length]
      rw [this, al, al, hzl]
      omega
theorem ok__law_put_all {f : Addr} {fd : FuncData} (F : Fun K "_law_put_all" "_law_put_all" s__law_put_all f fd) (T : Blt mg) (c__law_put : C8.Cal P w K mg base 2 "_law_put" spPut2 []) : FnOk P w K mg base CX0 3 f fd ["tape", "out", "strings"] spPutAll2 := by
  refine F.ok sc__law_put_all (fun vs H Q E h => ?_) (fun cdv A outer s H vs Q E hr h => ?_)
  · obtain ⟨t, c, cs, S, o, l, z, ws, ss, rfl, _⟩ := h
    rfl
  · obtain ⟨t, c, cs, S, o, l, z, ws, ss, rfl, W, hB, hl, hs, hz, k⟩ := h
    refine ⟨_, (pss_one (ps_for PassesOwn.never rfl (pi_list (pv 2)) (pg_name (i := 3) sc__law_put_all.nd rfl (Or.inl rfl))
      (pss_one (ps_expr (C8.pe_c c__law_put hr (by first | decide | omega) rfl (pa_cons (pv 0) (pa_cons (pv 1) (pa_cons (pv 3) pa_nil)))))))), ?_⟩
    have lt : l ≠ t := by
      obtain ⟨kv, e, _⟩ := W.live.tape.dc
      exact ne_of hl e (by intro z; cases z)
    have lo : l ≠ o := ne_of hl W.at_ (by intro z; cases z)
    have nl : l ∉ [t, o] := fun q => by
      rcases List.mem_cons.mp q with q | q
      · exact lt q
      · exact lo (List.mem_singleton.mp q)
    refine ⟨_, rfl, l, rfl, ⟨_, SqL.of hl⟩, for_list (K := K) (a := l) (xs := ss.map V.str) (fun i σ H' => ∃ (z' : List Nat) (e3 : Option V), σ = [some (.ref t), some (.ref o), some (.ref l), e3] ∧ z'.length ≤ z.length + 30 * i ∧ BtV z' (ws ++ ss.take i) ∧ PS t c cs S o z' H' ∧ Out [t, o] H H')
      ⟨z, none, rfl, by omega, by rw [List.take_zero, List.append_nil]; exact hB, W, .refl⟩ (fun i σ H' _ ⟨_, _, _, _, _, _, o1⟩ => SqL.of (o1 _ _ nl hl)) ?_ ?_⟩
    · rintro i y σ H' hi ⟨z', e3, rfl, hz', B', W', o1⟩
      rw [List.getElem?_map] at hi
      cases e : ss[i]? with
      | none => rw [e] at hi; cases hi
      | some s =>
        rw [e] at hi
        have hi : V.str s = y := Option.some.inj hi
        subst hi
        have hil := (List.getElem?_eq_some_iff.mp e).1
        refine ⟨_, rfl, _, rfl, _, rfl, t, c, cs, S, o, z', _, s, rfl, W', B', hs s (List.mem_of_getElem? e), by omega, fun z2 H2 h2 B2 W2 o2 => ?_⟩
        exact ⟨z2, _, rfl, by omega, by rw [take_snoc e, ← List.append_assoc]; exact B2, W2, o1.trans o2⟩
    · rintro σ H' ⟨z', e3, rfl, hz', B', W', o1⟩
      rw [List.length_map] at hz' B'
      rw [List.take_length] at B'
      exact k z' H' hz' B' W' o1
theorem num_len {n : Int} (h0 : 0 ≤ n) (h1 : n < 10000000000) : (Str.ofString (toString n)).length ≤ 20 := by
  obtain ⟨m, rfl⟩ := Int.eq_ofNat_of_zero_le h0
  have e : toString ((m : Nat) : Int) = Nat.repr m := rfl
  have h2 : (Nat.repr m).length ≤ 10 := (Nat.length_repr_le_iff (by decide)).mpr (by omega)
  have h3 : (Str.ofString (Nat.repr m)).length = (Nat.repr m).length := by
    first
      | exact PySem.ofString_length _
      | exact PyProof.Rows.ofString_len _
  rw [e, h3]
  omega
theorem num_log {n : Int} (h0 : 0 ≤ n) (h1 : n < 10000000000) : n.natAbs.log2 < 1920 := by
  have h : n.natAbs < 2 ^ 40 := by
    have : (2 : Nat) ^ 40 = 1099511627776 := by decide
    omega
  by_cases hz : n.natAbs = 0
  · rw [hz]; decide
  · exact Nat.lt_trans ((Nat.log2_lt hz).mpr h) (by decide)
theorem numL_range : ∀ n ∈ numL, 0 ≤ n ∧ n < 10000000000 := by decide +kernel
theorem all2 {a b : Str} (ha : a.length ≤ 20) (hb : b.length ≤ 20) : ∀ s ∈ [a, b], s.length ≤ 20 := fun s hs => by
  rcases List.mem_cons.mp hs with rfl | hs
  · exact ha
  · rw [List.mem_singleton.mp hs]; exact hb
theorem ok__law_words {f : Addr} {fd : FuncData} (F : Fun K "_law_words" "_law_words" s__law_words f fd) (T : Blt mg) : FnOk P w K mg base CX0 1 f fd ["value"] (spWords2 K) := by
  refine F.ok sc__law_words (fun vs H Q E h => ?_) (fun cdv A outer s H vs Q E hr h => ?_)
  · obtain ⟨v, x, rfl, _⟩ := h
    rfl
  · obtain ⟨v, x, rfl, hx, hd, k⟩ := h
    refine ⟨_, (pss_cons (ps_if (pt_cmpR op_eq (pe_ix ix_tup (pv 0) pe_int (fun _ _ => rfl)) pe_str (nomark _))
      (pss_one (ps_ret (pe_lst (pa_cons (pe_callTy call_str_int (by rfl) T.b_str (by decide +kernel) (pa_cons (pe_ix ix_tup (pv 0) pe_int (fun _ _ => rfl)) pa_nil)) pa_nil))))
      pss_nil)
    (pss_cons (ps_if (pt_cmpR op_eq (pe_ix ix_tup (pv 0) pe_int (fun _ _ => rfl)) pe_str (nomark _))
      (pss_one (ps_ret (pe_lst (pa_cons pe_str pa_nil))))
      pss_nil)
    (pss_cons (ps_set (i := 1) sc__law_words.nd rfl (Or.inl rfl) (pe_ifExp (pt_cmpR op_eq (pe_ix ix_tup (pv 0) pe_int (fun _ _ => rfl)) pe_str (nomark _)) (pe_lst (pa_cons (pe_ix ix_tup (pv 0) pe_int (fun _ _ => rfl)) pa_nil)) (pe_op op_cat (pe_lst (pa_cons (pe_ix ix_tup (pv 0) pe_int (fun _ _ => rfl)) pa_nil)) (pe_ifExp (pt_cmpR op_eq (pe_ix ix_tup (pv 0) pe_int (fun _ _ => rfl)) pe_str (nomark _)) (pe_lst (pa_cons (pe_ix ix_tup (pv 0) pe_int (fun _ _ => rfl)) pa_nil)) (pe_lst pa_nil)))))
    (pss_cons (ps_if (PW.pt (pw_and (pt_cmpR op_ne (pe_ix ix_tup (pv 0) pe_int (fun _ _ => rfl)) pe_str (nomark _)) (pw_and1 (pt_cmpR op_gt (pe_ix ix_tup (pv 0) (pe_un un_neg pe_int) (fun _ _ => rfl)) pe_int (nomark _)))))
      (pss_one (ps_set (i := 1) sc__law_words.nd rfl (Or.inl rfl) (pe_op op_cat (pv 1) (pe_lst (pa_cons pe_str (pa_cons (pe_callTy call_str_int (by rfl) T.b_str (by decide +kernel) (pa_cons (pe_ix ix_tup (pv 0) (pe_un un_neg pe_int) (fun _ _ => rfl)) pa_nil)) pa_nil))))))
      pss_nil)
    (pss_one (ps_ret (pv 1))))))), ?_⟩
    have d1 : decide (V.str (Str.ofString "none") = V.str "number") = false := by decide +kernel
    have d2 : decide (V.str (Str.ofString "index") = V.str "number") = false := by decide +kernel
    have d3 : decide (V.str (Str.ofString "name") = V.str "number") = false := by decide +kernel
    have d4 : decide (V.str (Str.ofString "told") = V.str "number") = false := by decide +kernel
    have e2 : decide (V.str (Str.ofString "index") = V.str "none") = false := by decide +kernel
    have e3 : decide (V.str (Str.ofString "name") = V.str "none") = false := by decide +kernel
    have e4 : decide (V.str (Str.ofString "told") = V.str "none") = false := by decide +kernel
    have f2 : decide (V.str (Str.ofString "index") = V.str "name") = false := by decide +kernel
    have f4 : decide (V.str (Str.ofString "told") = V.str "name") = false := by decide +kernel
    have g2 : decide (V.str (Str.ofString "index") = V.str "told") = false := by decide +kernel
    cases x with
    | number n =>
      cases hd with
      | @tup a xs _ hs ha =>
      cases ha with | cons a1 a2 =>
      cases a2 with | cons a2 a3 =>
      cases a3; cases a1; cases a2
      have hn := numL_range n hx
      refine ⟨_, rfl, a, _, _, _, rfl, rfl, hs, atI_nat (j := 0) rfl, rfl, _, rfl, ?_⟩
      rw [dec_self]
      refine iteT ⟨_, rfl, a, _, _, _, rfl, rfl, hs, atI_nat (j := 1) rfl, _, rfl, num_log hn.1 hn.2, by show 1 ≤ sizeLine; decide, fun p np => ?_⟩
      exact k p [Str.ofString (toString n)] _ (by show 1 ≤ 4; decide) (voc_cons (v_num (num_numL hx)) voc_nil) (.cons (sy_num (num_numL hx)) .nil) (same_upd np) np upd_same
    | none =>
      cases hd with
      | @tup a xs _ hs ha =>
      cases ha with | cons a1 a2 =>
      cases a2; cases a1
      refine ⟨_, rfl, a, _, _, _, rfl, rfl, hs, atI_nat (j := 0) rfl, rfl, _, rfl, ?_⟩
      rw [d1]
      refine iteF ⟨_, rfl, a, _, _, _, rfl, rfl, hs, atI_nat (j := 0) rfl, rfl, _, rfl, ?_⟩
      rw [dec_self]
      refine iteT ⟨by show 1 ≤ sizeLine; decide, fun p np => ?_⟩
      exact k p ["none"] _ (by decide) (voc_cons (vl "none") voc_nil) (.cons (sy_lit (lw "none")) .nil) (same_upd np) np upd_same
    | name x =>
      cases hd with
      | @tup a xs _ hs ha =>
      cases ha with | cons a1 a2 =>
      cases a2 with | cons a2 a3 =>
      cases a3; cases a1; cases a2
      refine ⟨_, rfl, a, _, _, _, rfl, rfl, hs, atI_nat (j := 0) rfl, rfl, _, rfl, ?_⟩
      rw [d3]
      refine iteF ⟨_, rfl, a, _, _, _, rfl, rfl, hs, atI_nat (j := 0) rfl, rfl, _, rfl, ?_⟩
      rw [e3]
      refine iteF ⟨_, rfl, a, _, _, _, rfl, rfl, hs, atI_nat (j := 0) rfl, rfl, _, rfl, ?_⟩
      rw [dec_self]
      refine iteT ⟨_, rfl, a, _, _, _, rfl, rfl, hs, atI_nat (j := 1) rfl, by show 1 ≤ sizeLine; decide, fun p np => ?_⟩
      have hs' := same_seqT (same_upd (o := .lst [.str x]) np) hs
      refine ⟨_, rfl, a, _, _, _, rfl, rfl, hs', atI_nat (j := 0) rfl, rfl, _, rfl, ?_⟩
      rw [dec_self]
      refine iteF (iteF ⟨_, rfl, ?_⟩)
      exact k p [x] _ (by show 1 ≤ 4; decide) (voc_cons (v_name (nm_names hx)) voc_nil) (.cons (sy_name (nm_names hx)) .nil) (same_upd np) np upd_same
    | index n =>
      cases hd with
      | @tup a xs _ hs ha =>
      cases ha with | cons a1 a2 =>
      cases a2 with | cons a2 a3 =>
      cases a3; cases a1; cases a2
      refine ⟨_, rfl, a, _, _, _, rfl, rfl, hs, atI_nat (j := 0) rfl, rfl, _, rfl, ?_⟩
      rw [d2]
      refine iteF ⟨_, rfl, a, _, _, _, rfl, rfl, hs, atI_nat (j := 0) rfl, rfl, _, rfl, ?_⟩
      rw [e2]
      refine iteF ⟨_, rfl, a, _, _, _, rfl, rfl, hs, atI_nat (j := 0) rfl, rfl, _, rfl, ?_⟩
      rw [f2]
      refine iteF ⟨_, rfl, a, _, _, _, rfl, rfl, hs, atI_nat (j := 0) rfl, by show 1 ≤ sizeLine; decide, fun p np => ?_⟩
      have s1 := same_upd (o := .lst [.str "index"]) np
      refine ⟨_, rfl, a, _, _, _, rfl, rfl, same_seqT s1 hs, atI_nat (j := 0) rfl, rfl, _, rfl, ?_⟩
      rw [g2]
      refine iteF ⟨Nat.zero_le _, fun q nq => ?_⟩
      have s2 := same_upd (o := .lst []) nq
      refine ⟨p, q, _, _, rfl, rfl, s2 _ _ upd_same, upd_same, by show 1 ≤ sizeLine; decide, fun u nu => ?_⟩
      have s3 := same_upd (o := .lst [.str "index"]) nu
      have s4 := (s1.trans s2).trans s3
      refine ⟨_, rfl, a, _, _, _, rfl, rfl, same_seqT s4 hs, atI_nat (j := 0) rfl, rfl, _, rfl, ?_⟩
      rw [f2]
      refine iteT ⟨_, rfl, _, rfl, a, _, _, _, rfl, rfl, same_seqT s4 hs, atI_last [V.str "index"] (V.int n), _, _, rfl, rfl, _, rfl, ite2 (fun hgt => ?_) (fun hgt => ⟨_, rfl, ?_⟩)⟩
      · refine ⟨_, rfl, _, rfl, _, rfl, a, _, _, _, rfl, rfl, same_seqT s4 hs, atI_last [V.str "index"] (V.int n), _, rfl, num_log (by have := hx.1; omega) (by have := hx.2; omega), by show 2 ≤ sizeLine; decide, fun x nx => ?_⟩
        have s5 := same_upd (o := .lst [.str "+", .str (Str.ofString (toString n))]) nx
        refine ⟨u, x, _, _, rfl, rfl, s5 _ _ upd_same, upd_same, by show 3 ≤ sizeLine; decide, fun y ny => ⟨_, rfl, ?_⟩⟩
        have hgt : n > 0 := of_decide_eq_true hgt
        exact k y ["index", "+", Str.ofString (toString n)] _ (by show 3 ≤ 4; decide) (voc_cons (vl "index") (voc_cons (vl "+") (voc_cons (v_num (num_small hx.1 (by have := hx.2; omega))) voc_nil))) (.cons (sy_lit (lw "index")) (sys_add hx.1 (by have := hx.2; omega) hgt)) ((s4.trans s5).trans (same_upd ny)) ((s4.trans s5).free ny) upd_same
      · exact k u ["index"] _ (by decide) (voc_cons (vl "index") voc_nil) (.cons (sy_lit (lw "index")) (sys_add0 (of_decide_eq_false (nt hgt)))) s4 ((s1.trans s2).free nu) upd_same
    | told x n =>
      cases hd with
      | @tup a xs _ hs ha =>
      cases ha with | cons a1 a2 =>
      cases a2 with | cons a2 a3 =>
      cases a3 with | cons a3 a4 =>
      cases a4; cases a1; cases a2; cases a3
      refine ⟨_, rfl, a, _, _, _, rfl, rfl, hs, atI_nat (j := 0) rfl, rfl, _, rfl, ?_⟩
      rw [d4]
      refine iteF ⟨_, rfl, a, _, _, _, rfl, rfl, hs, atI_nat (j := 0) rfl, rfl, _, rfl, ?_⟩
      rw [e4]
      refine iteF ⟨_, rfl, a, _, _, _, rfl, rfl, hs, atI_nat (j := 0) rfl, rfl, _, rfl, ?_⟩
      rw [f4]
      refine iteF ⟨_, rfl, a, _, _, _, rfl, rfl, hs, atI_nat (j := 0) rfl, by show 1 ≤ sizeLine; decide, fun p np => ?_⟩
      have s1 := same_upd (o := .lst [.str "told"]) np
      refine ⟨_, rfl, a, _, _, _, rfl, rfl, same_seqT s1 hs, atI_nat (j := 0) rfl, rfl, _, rfl, ?_⟩
      rw [dec_self]
      refine iteT ⟨_, rfl, a, _, _, _, rfl, rfl, same_seqT s1 hs, atI_nat (j := 1) rfl, by show 1 ≤ sizeLine; decide, fun q nq => ?_⟩
      have s2 := same_upd (o := .lst [.str x]) nq
      refine ⟨p, q, _, _, rfl, rfl, s2 _ _ upd_same, upd_same, by show 2 ≤ sizeLine; decide, fun u nu => ?_⟩
      have s3 := same_upd (o := .lst [.str "told", .str x]) nu
      have s4 := (s1.trans s2).trans s3
      refine ⟨_, rfl, a, _, _, _, rfl, rfl, same_seqT s4 hs, atI_nat (j := 0) rfl, rfl, _, rfl, ?_⟩
      rw [f4]
      refine iteT ⟨_, rfl, _, rfl, a, _, _, _, rfl, rfl, same_seqT s4 hs, atI_last [V.str "told", V.str x] (V.int n), _, _, rfl, rfl, _, rfl, ite2 (fun hgt => ?_) (fun hgt => ⟨_, rfl, ?_⟩)⟩
      · refine ⟨_, rfl, _, rfl, _, rfl, a, _, _, _, rfl, rfl, same_seqT s4 hs, atI_last [V.str "told", V.str x] (V.int n), _, rfl, num_log (by have := hx.2.1; omega) (by have := hx.2.2; omega), by show 2 ≤ sizeLine; decide, fun z nz => ?_⟩
        have s5 := same_upd (o := .lst [.str "+", .str (Str.ofString (toString n))]) nz
        refine ⟨u, z, _, _, rfl, rfl, s5 _ _ upd_same, upd_same, by show 4 ≤ sizeLine; decide, fun y ny => ⟨_, rfl, ?_⟩⟩
        have hgt : n > 0 := of_decide_eq_true hgt
        exact k y ["told", x, "+", Str.ofString (toString n)] _ (by show 4 ≤ 4; decide) (voc_cons (vl "told") (voc_cons (v_name (nm_names hx.1)) (voc_cons (vl "+") (voc_cons (v_num (num_small hx.2.1 (by have := hx.2.2; omega))) voc_nil)))) (.cons (sy_lit (lw "told")) (.cons (sy_name (nm_names hx.1)) (sys_add hx.2.1 (by have := hx.2.2; omega) hgt))) ((s4.trans s5).trans (same_upd ny)) ((s4.trans s5).free ny) upd_same
      · exact k u ["told", x] _ (by show 2 ≤ 4; decide) (voc_cons (vl "told") (voc_cons (v_name (nm_names hx.1)) voc_nil)) (.cons (sy_lit (lw "told")) (.cons (sy_name (nm_names hx.1)) (sys_add0 (of_decide_eq_false (nt hgt))))) s4 ((s1.trans s2).free nu) upd_same

end
end K02
namespace K02
open PySem PySem.Spec PyProof.Rows L2 LB
section
variable {P : Program} {w : World} {K : PySem.W.Frag} {mg : Str → Option Value} {base : Heap}
theorem item_of {S : List Addr} {H : Hp} {α : Type} {D : α → PyData} {xs : List V} {ds : List α} (ha : DsS K S H xs (ds.map D)) {i : Nat} {y : V} (hy : xs[i]? = some y) : ∃ d, ds[i]? = some d ∧ DpS K S H y (D d) := by
  have hi := (List.getElem?_eq_some_iff.mp hy).1
  obtain ⟨v, d, hv, hd, hx⟩ := dpAll_get ha hi
  rw [hy] at hv
  cases hv
  rw [List.getElem?_map] at hd
  cases e : ds[i]? with
  | none => rw [e] at hd; cases hd
  | some a =>
    rw [e] at hd
    have hd : D a = d := Option.some.inj hd
    exact ⟨a, rfl, hd ▸ hx⟩
theorem sl_any {a : Addr} {xs : List V} {lo hi : Option Int} {H : Hp} {Q : VK} (hx : SqT K H a xs) (q0 : lo = none) (q : ∀ b H', SqT K H' b (cutV xs lo hi) → (H' = H ∨ ∃ p u, H p = none ∧ H' = upd H p u) → Q (.ref b) H') : rSlA K (.ref a) lo hi H Q := by
  subst q0
  refine ⟨a, xs, rfl, hx, fun hw => ?_, fun _ p np => q p _ (SqT.of upd_same) (.inr ⟨p, _, np, rfl⟩)⟩
  have e : cutV xs none hi = xs := by
    unfold cutV
    rw [hw.1, hw.2]
    simp
  exact q a H (by rw [e]; exact hx) (.inl rfl)
theorem cut_len {xs : List Str} {hi : Option Int} : ∃ ys : List Str, cutV (xs.map V.str) none hi = ys.map V.str ∧ ys.length ≤ xs.length ∧ ∀ y ∈ ys, y ∈ xs := by
  refine ⟨(xs.drop (HT.sIx (xs.map V.str).length 0 none)).take (HT.sIx (xs.map V.str).length (xs.map V.str).length hi - HT.sIx (xs.map V.str).length 0 none), ?_, ?_, ?_⟩
  · unfold cutV
    rw [List.map_take, List.map_drop]
  · rw [List.length_take, List.length_drop]
    omega
  · intro y hy
    exact List.mem_of_mem_drop (List.mem_of_mem_take hy)
theorem ps_alt {t c o : Addr} {cs : List Int} {S : List Addr} {z : List Nat} {H H' : Hp} (W : PS t c cs S o z H) (h : H' = H ∨ ∃ p u, H p = none ∧ H' = upd H p u) : PS t c cs S o z H' ∧ Same H H' := by
  rcases h with rfl | ⟨p, u, np, rfl⟩
  · exact ⟨W, fun _ _ e => e⟩
  · exact ⟨W.new np, same_upd np⟩
theorem ok__law_put_tree {f : Addr} {fd : FuncData} (F : Fun K "_law_put_tree" "_law_put_tree" s__law_put_tree f fd) (T : Blt mg) (c__law_take : C8.Cal P w K mg base 1 "_law_take" spTake []) (c__law_put : C8.Cal P w K mg base 2 "_law_put" spPut2 []) (c__law_put_all : C8.Cal P w K mg base 3 "_law_put_all" spPutAll2 [])
    (c__law_words : C8.Cal P w K mg base 1 "_law_words" (spWords2 K) []) : FnOk P w K mg base CX0 4 f fd ["tape", "out", "tree"] (spPutTree2 K) := by
  refine F.ok sc__law_put_tree (fun vs H Q E h => ?_) (fun cdv A outer s H vs Q E hr h => ?_)
  · obtain ⟨t, c, cs, S, o, v, T, rfl, _⟩ := h
    rfl
  · obtain ⟨t, c, cs, S, o, v, tr, rfl, W, hok, hd, k⟩ := h
    refine ⟨_, (pss_cons (ps_for PassesOwn.never rfl (pi_tup (pe_ix ix_tup (pv 2) pe_int (fun _ _ => rfl))) (pg_tup (by rfl) (pgs_cons (pg_name (i := 3) sc__law_put_tree.nd rfl (Or.inl rfl)) (pgs_cons (pg_name (i := 4) sc__law_put_tree.nd rfl (Or.inl rfl)) pgs_nil)))
      (pss_cons (ps_expr (C8.pe_c c__law_put_all hr (by first | decide | omega) rfl (pa_cons (pv 0) (pa_cons (pv 1) (pa_cons (pe_lst (pa_cons pe_str (pa_cons (pv 3) (pa_cons pe_str pa_nil)))) pa_nil)))))
      (pss_cons (ps_for PassesOwn.never rfl (pi_tup (pv 4)) (pg_tup (by rfl) (pgs_cons (pg_name (i := 5) sc__law_put_tree.nd rfl (Or.inl rfl)) (pgs_cons (pg_name (i := 6) sc__law_put_tree.nd rfl (Or.inl rfl)) (pgs_cons (pg_name (i := 7) sc__law_put_tree.nd rfl (Or.inl rfl)) pgs_nil))))
        (C8.pss_cut (ps_expr (C8.pe_c c__law_put_all hr (by first | decide | omega) rfl (pa_cons (pv 0) (pa_cons (pv 1) (pa_cons (pe_op op_cat (pe_lst (pa_cons (pv 5) (pa_cons pe_str pa_nil))) (pe_ifExp (pt_cmpR op_eq (pv 6) pe_str (nomark _)) (pe_lst (pa_cons pe_str pa_nil)) (pe_lst (pa_cons pe_str (pa_cons (pv 6) pa_nil))))) pa_nil)))))
        (pss_one (ps_expr (C8.pe_c c__law_put_all hr (by first | decide | omega) rfl (pa_cons (pv 0) (pa_cons (pv 1) (pa_cons (pe_op op_cat (pe_op op_cat (pe_callTy call_list_of (by rfl) T.b_list (by decide +kernel) (pa_cons (pe_revT (pv 7)) pa_nil)) (pe_callTy call_list_of (by rfl) T.b_list (by decide +kernel) (pa_cons (pe_slice sl_tupA (pv 7) po_none (po_some (C8.pe_c c__law_take hr (by first | decide | omega) rfl (pa_cons (pv 0) (pa_cons pe_int pa_nil))))) pa_nil))) (pe_lst (pa_cons pe_str pa_nil))) pa_nil))))))))
      (pss_one (ps_expr (C8.pe_c c__law_put hr (by first | decide | omega) rfl (pa_cons (pv 0) (pa_cons (pv 1) (pa_cons pe_str pa_nil)))))))))
    (pss_one (ps_for PassesOwn.never rfl (pi_tup (pe_ix ix_tup (pv 2) pe_int (fun _ _ => rfl))) (pg_name (i := 8) sc__law_put_tree.nd rfl (Or.inl rfl))
      (pss_one (ps_if (pt_cmpR op_eq (pe_ix ix_tup (pv 8) pe_int (fun _ _ => rfl)) pe_str (nomark _))
        (C8.pss_cut (ps_set (i := 9) sc__law_put_tree.nd rfl (Or.inl rfl) (pe_ifExp (pt_cmpR op_isN (pe_ix ix_tup (pv 8) pe_int (fun _ _ => rfl)) pe_non (nomark _)) (pe_lst pa_nil) (pe_lst (pa_cons pe_str (pa_cons (pe_callTy call_str_int (by rfl) T.b_str (by decide +kernel) (pa_cons (pe_ix ix_tup (pv 8) pe_int (fun _ _ => rfl)) pa_nil)) pa_nil)))))
        (pss_cons (ps_expr (C8.pe_c c__law_put_all hr (by first | decide | omega) rfl (pa_cons (pv 0) (pa_cons (pv 1) (pa_cons (pe_op op_cat (pe_op op_cat (pe_lst (pa_cons pe_str (pa_cons (pe_ix ix_tup (pv 8) pe_int (fun _ _ => rfl)) pa_nil))) (pv 9)) (pe_lst (pa_cons pe_str (pa_cons (pe_ix ix_tup (pv 8) pe_int (fun _ _ => rfl)) (pa_cons pe_str pa_nil))))) pa_nil)))))
        (pss_cons (ps_for PassesOwn.never rfl (pi_tup (pe_ix ix_tup (pv 8) pe_int (fun _ _ => rfl))) (pg_tup (by rfl) (pgs_cons (pg_name (i := 5) sc__law_put_tree.nd rfl (Or.inl rfl)) (pgs_cons (pg_name (i := 10) sc__law_put_tree.nd rfl (Or.inl rfl)) pgs_nil)))
          (pss_one (ps_expr (C8.pe_c c__law_put_all hr (by first | decide | omega) rfl (pa_cons (pv 0) (pa_cons (pv 1) (pa_cons (pe_op op_cat (pe_op op_cat (pe_lst (pa_cons (pv 5) (pa_cons pe_str pa_nil))) (C8.pe_c c__law_words hr (by first | decide | omega) rfl (pa_cons (pv 10) pa_nil))) (pe_lst (pa_cons pe_str pa_nil))) pa_nil)))))))
        (pss_one (ps_expr (C8.pe_c c__law_put hr (by first | decide | omega) rfl (pa_cons (pv 0) (pa_cons (pv 1) (pa_cons pe_str pa_nil)))))))))
        (pss_one (ps_if (pt_cmpR op_eq (pe_ix ix_tup (pv 8) pe_int (fun _ _ => rfl)) pe_str (nomark _))
          (pss_one (ps_expr (C8.pe_c c__law_put_all hr (by first | decide | omega) rfl (pa_cons (pv 0) (pa_cons (pv 1) (pa_cons (pe_lst (pa_cons pe_str (pa_cons (pe_callTy call_str_any (by rfl) T.b_str (by decide +kernel) (pa_cons (pe_ix ix_tup (pv 8) pe_int (fun _ _ => rfl)) pa_nil)) (pa_cons pe_str (pa_cons (pe_ix ix_tup (pv 8) pe_int (fun _ _ => rfl)) (pa_cons pe_str pa_nil)))))) pa_nil))))))
          (pss_one (ps_if (pt_cmpR op_eq (pe_ix ix_tup (pv 8) pe_int (fun _ _ => rfl)) pe_str (nomark _))
            (pss_one (ps_expr (C8.pe_c c__law_put_all hr (by first | decide | omega) rfl (pa_cons (pv 0) (pa_cons (pv 1) (pa_cons (pe_lst (pa_cons pe_str (pa_cons (pe_ix ix_tup (pv 8) pe_int (fun _ _ => rfl)) (pa_cons pe_str (pa_cons (pe_ix ix_tup (pv 8) pe_int (fun _ _ => rfl)) (pa_cons pe_str pa_nil)))))) pa_nil))))))
            (pss_one (ps_expr (C8.pe_c c__law_put_all hr (by first | decide | omega) rfl (pa_cons (pv 0) (pa_cons (pv 1) (pa_cons (pe_lst (pa_cons (pe_ix ix_tup (pv 8) pe_int (fun _ _ => rfl)) (pa_cons (pe_callTy call_str_any (by rfl) T.b_str (by decide +kernel) (pa_cons (pe_ix ix_tup (pv 8) pe_int (fun _ _ => rfl)) pa_nil)) (pa_cons pe_str pa_nil)))) pa_nil))))))))))))))), ?_⟩
    cases hd with
    | @tup a xs _ hs ha =>
    cases ha with | cons a1 a2 =>
    cases a2 with | cons a2 a3 =>
    cases a3
    cases a1 with
    | @tup ka kxs _ hks hka =>
    cases a2 with
    | @tup ia ixs _ his hia =>
    have hkl := dpAll_len hka
    have hil := dpAll_len hia
    rw [List.length_map] at hkl hil
    refine ⟨_, rfl, a, _, _, _, rfl, rfl, same_seqT wo_le hs, atI_nat (j := 0) rfl, ka, rfl, ⟨_, same_seqT wo_le hks⟩, for_tup (K := K) (a := ka) (xs := kxs) (fun i σ H' => ∃ (z : List Nat) (e3 e4 e5 e6 e7 e8 e9 e10 : Option V), σ = [some (.ref t), some (.ref o), some (.ref a), e3, e4, e5, e6, e7, e8, e9, e10] ∧ z.length ≤ 1500 * i ∧ (∃ ws, BtV z ws ∧ Tells (PM.Cat PM.KindT (tr.kinds.take i)) ws) ∧ PS t c cs S o z H' ∧ Out [t, o] H H')
      ⟨[], none, none, none, none, none, none, none, none, rfl, Nat.zero_le _, ⟨[], BtV.nil, Tells.cat_nil⟩, W, .refl⟩ (fun i σ H' _ ⟨_, _, _, _, _, _, _, _, _, _, _, _, _, o1⟩ => same_seqT wo_le (W.seqT o1 hks)) ?_ ?_⟩
    · rintro i y σ H1 hi ⟨z, e3, e4, e5, e6, e7, e8, e9, e10, rfl, hz, ⟨ws, B1, hT⟩, W1, o1⟩
      have hi3 : i < 3 := by
        have := (List.getElem?_eq_some_iff.mp hi).1
        have := hok.fewK
        omega
      obtain ⟨kd, hkd, hy⟩ := item_of (D := Kd.d) (W.ds o1 hka) hi
      have kok := hok.kinds kd (List.mem_of_getElem? hkd)
      cases hy with
      | @tup q ys _ hq hqa =>
      cases hqa with | cons b1 b2 =>
      cases b2 with | cons b2 b3 =>
      cases b3; cases b1
      cases b2 with
      | @tup fa fxs _ hfs hfa =>
      refine ⟨q, _, rfl, same_seqT wo_le hq, rfl, _, _, rfl, _, _, rfl, rfl, ?_⟩
      refine ⟨_, rfl, _, rfl, _, rfl, by show 3 ≤ sizeLine; decide, fun l nl => ?_⟩
      refine ⟨t, c, cs, S, o, l, z, ws, ["kind", kd.name, "{"], rfl, W1.new nl, B1, upd_same, voc_cons (vl _) (voc_cons (v_name (nm_kind kok.name)) (voc_cons (vl _) voc_nil)), by show z.length + 30 * 3 ≤ 40000; omega, fun z2 H2 hz2 B2 W2 o2 => ?_⟩
      have hz2 : z2.length ≤ z.length + 90 := hz2
      have o12 : Out [t, o] H1 H2 := (Out.upd_new nl).trans o2
      have hfl := dpAll_len hfa
      rw [List.length_map] at hfl
      refine ⟨_, rfl, fa, rfl, ⟨_, same_seqT wo_le (W1.seqT o12 hfs)⟩, for_tup (K := K) (a := fa) (xs := fxs) (fun j σ H' => ∃ (z' : List Nat) (e5 e6 e7 : Option V), σ = [some (.ref t), some (.ref o), some (.ref a), some (.str kd.name), some (.ref fa), e5, e6, e7, e8, e9, e10] ∧ z'.length ≤ 1500 * i + 90 + 400 * j ∧ (∃ fs, BtV z' (ws ++ (["kind", kd.name, "{"] : List Str) ++ fs) ∧ Tells (PM.Cat PM.FieldT (kd.fields.take j)) fs) ∧ PS t c cs S o z' H' ∧ Out [t, o] H1 H')
        ⟨z2, e5, e6, e7, rfl, by omega, ⟨[], by rw [List.append_nil]; exact B2, Tells.cat_nil⟩, W2, o12⟩ (fun j σ H' _ ⟨_, _, _, _, _, _, _, _, o3⟩ => same_seqT wo_le (W1.seqT o3 hfs)) ?_ ?_⟩
      · rintro j y σ H3 hj ⟨z3, e5, e6, e7, rfl, hz3, ⟨fs, B3, hF⟩, W3, o3⟩
        have hj3 : j < 3 := by
          have := (List.getElem?_eq_some_iff.mp hj).1
          have := kok.few
          omega
        obtain ⟨fd, hfd, hy⟩ := item_of (D := Fd.d) (W1.ds o3 hfa) hj
        have fok := kok.fields fd (List.mem_of_getElem? hfd)
        cases hy with
        | @tup q ys _ hq hqa =>
        cases hqa with | cons b1 b2 =>
        cases b2 with | cons b2 b3 =>
        cases b3 with | cons b3 b4 =>
        cases b4; cases b1; cases b2
        cases b3 with
        | @tup ma mxs _ hms hma =>
        have em : mxs = fd.marks.map V.str := ds_strs hma
        subst em
        have hml : fd.marks.length ≤ 3 := fok.marks.length_le
        have hmm : ∀ s ∈ fd.marks, s ∈ vocL := fun s hs => v_lit (mark_lit (fok.marks.subset hs))
        refine ⟨q, _, rfl, same_seqT wo_le hq, rfl, _, _, rfl, _, _, rfl, _, _, rfl, rfl, ?_⟩
        refine ⟨fun σ' H' => σ' = [some (.ref t), some (.ref o), some (.ref a), some (.str kd.name), some (.ref fa), some (.str fd.name), some (.str fd.target), some (.ref ma), e8, e9, e10] ∧ ∃ z4 : List Nat, z4.length ≤ z3.length + 120 ∧ BtV z4 (ws ++ (["kind", kd.name, "{"] : List Str) ++ fs ++ (([fd.name, ":"] : List Str) ++ sortWs fd.target)) ∧ PS t c cs S o z4 H' ∧ Out [t, o] H3 H', ?_, ?_⟩
        · refine ⟨_, rfl, _, rfl, _, rfl, by show 2 ≤ sizeLine; decide, fun l1 n1 => ?_⟩
          have W4 := W3.new (u := .lst [.str fd.name, .str ":"]) n1
          have s1 := same_upd (o := .lst [.str fd.name, .str ":"]) n1
          refine ⟨_, rfl, rfl, _, rfl, ite2 (fun hg => ?_) (fun hg => ?_)⟩
          · have hg : fd.target = ("" : Str) := V.str.inj (of_decide_eq_true hg)
            refine ⟨by show 1 ≤ sizeLine; decide, fun l2 n2 => ?_⟩
            have s2 := same_upd (o := .lst [.str "number"]) n2
            refine ⟨l1, l2, _, _, rfl, rfl, s2 _ _ upd_same, upd_same, by show 3 ≤ sizeLine; decide, fun l3 n3 => ?_⟩
            refine ⟨t, c, cs, S, o, l3, z3, _, [fd.name, ":", "number"], rfl, (W4.new n2).new n3, B3, upd_same, voc_cons (v_name (nm_field fok.name)) (voc_cons (vl _) (voc_cons (vl _) voc_nil)), by show z3.length + 30 * 3 ≤ 40000; omega, fun z5 H5 hz5 B5 W5 o5 => ?_⟩
            have hz5 : z5.length ≤ z3.length + 90 := hz5
            exact ⟨rfl, z5, by omega, by unfold sortWs; rw [if_pos hg]; exact B5, W5, (Out.of_same ((s1.trans s2).trans (same_upd n3))).trans o5⟩
          · have hg : ¬ fd.target = ("" : Str) := fun q => absurd (by rw [q]) (of_decide_eq_false (nt hg))
            refine ⟨_, rfl, by show 2 ≤ sizeLine; decide, fun l2 n2 => ?_⟩
            have s2 := same_upd (o := .lst [.str "ref", .str fd.target]) n2
            refine ⟨l1, l2, _, _, rfl, rfl, s2 _ _ upd_same, upd_same, by show 4 ≤ sizeLine; decide, fun l3 n3 => ?_⟩
            refine ⟨t, c, cs, S, o, l3, z3, _, [fd.name, ":", "ref", fd.target], rfl, (W4.new n2).new n3, B3, upd_same, voc_cons (v_name (nm_field fok.name)) (voc_cons (vl _) (voc_cons (vl _) (voc_cons (v_name (nm_target fok.target hg)) voc_nil))), by show z3.length + 30 * 4 ≤ 40000; omega, fun z5 H5 hz5 B5 W5 o5 => ?_⟩
            have hz5 : z5.length ≤ z3.length + 120 := hz5
            exact ⟨rfl, z5, by omega, by unfold sortWs; rw [if_neg hg]; exact B5, W5, (Out.of_same ((s1.trans s2).trans (same_upd n3))).trans o5⟩
        · rintro σ' H4 ⟨rfl, z4, hz4, B4, W4, o4⟩
          have hms4 := W3.seqT o4 hms
          refine ⟨_, rfl, _, rfl, _, rfl, ma, _, rfl, same_seqT wo_le hms4, by rw [List.length_map]; exact hml, fun p np => ?_⟩
          have s1 := same_upd (o := .tup (fd.marks.map V.str).reverse) np
          refine ⟨p, _, rfl, .inr (SqT.of upd_same), fun l1 n1 => ?_⟩
          have s2 := same_upd (o := .lst (fd.marks.map V.str).reverse) n1
          have W5 := (W4.new (u := .tup (fd.marks.map V.str).reverse) np).new (u := .lst (fd.marks.map V.str).reverse) n1
          refine ⟨_, rfl, _, rfl, t, c, cs, 2, rfl, W5.live.tape, by decide, by decide, fun r kvs h0 h1 hk => ?_⟩
          have W6 := W5.take hk
          have o6 : Out [t, o] H4 (upd (upd (upd H4 p (.tup (fd.marks.map V.str).reverse)) l1 (.lst (fd.marks.map V.str).reverse)) t (.dK kvs)) := (Out.of_same (s1.trans s2)).trans PS.t_in
          have l1t : l1 ≠ t := by
            obtain ⟨kv, e, _⟩ := W5.live.tape.dc
            exact ne_of upd_same e (by intro z; cases z)
          have hl1 : (upd (upd (upd H4 p (.tup (fd.marks.map V.str).reverse)) l1 (.lst (fd.marks.map V.str).reverse)) t (.dK kvs)) l1 = some (.lst (fd.marks.map V.str).reverse) := by rw [upd_ne l1t]; exact upd_same
          generalize upd (upd (upd H4 p (.tup (fd.marks.map V.str).reverse)) l1 (.lst (fd.marks.map V.str).reverse)) t (.dK kvs) = H6 at W6 o6 hl1 ⊢
          refine ⟨_, rfl, ?_⟩
          refine sl_any (same_seqT wo_le (W4.seqT o6 hms4)) rfl fun b H7 hb h7 => ?_
          obtain ⟨W7, s7⟩ := ps_alt W6 h7
          obtain ⟨ys, ey, hyl, hym⟩ := cut_len (xs := fd.marks) (hi := some r)
          rw [ey] at hb
          refine ⟨b, _, rfl, .inr hb, fun l2 n2 => ?_⟩
          have s8 := same_upd (o := .lst (ys.map V.str)) n2
          refine ⟨l1, l2, _, _, rfl, rfl, s8 _ _ (s7 _ _ hl1), upd_same, ?_, fun l3 n3 => ?_⟩
          · rw [List.length_reverse, List.length_map, List.length_map]
            exact szl (by omega)
          have s9 := same_upd (o := .lst ((fd.marks.map V.str).reverse ++ ys.map V.str)) n3
          refine ⟨by show 1 ≤ sizeLine; decide, fun l4 n4 => ?_⟩
          have s10 := same_upd (o := .lst [.str ";"]) n4
          refine ⟨l3, l4, _, _, rfl, rfl, s10 _ _ upd_same, upd_same, ?_, fun l5 n5 => ?_⟩
          · rw [List.length_append, List.length_reverse, List.length_map, List.length_map]
            exact szl (by show _ + 1 ≤ _; omega)
          have s11 := same_upd (o := .lst ((fd.marks.map V.str).reverse ++ ys.map V.str ++ [.str ";"])) n5
          refine ⟨t, c, cs, S, o, l5, z4, _, fd.marks.reverse ++ ys ++ ([";"] : List Str), rfl, (((W7.new n2).new n3).new n4).new n5, B4, ?_, ?_, ?_, fun z8 H8 hz8 B8 W8 o8 => ?_⟩
          · rw [upd_same, List.map_append, List.map_append, List.map_reverse]
            rfl
          · exact voc_app (voc_app (fun s hs => hmm s (List.mem_reverse.mp hs)) (fun s hs => hmm s (hym s hs))) (voc_cons (vl _) voc_nil)
          · rw [List.length_append, List.length_append, List.length_reverse]
            show z4.length + 30 * (fd.marks.length + ys.length + 1) ≤ 40000
            omega
          · have hz8 : z8.length ≤ z4.length + 30 * (fd.marks.length + ys.length + 1) := by
              rw [List.length_append, List.length_append, List.length_reverse] at hz8
              exact hz8
            have hmi : ∀ x, x ∈ fd.marks.reverse ++ ys ↔ x ∈ fd.marks := fun x => ⟨fun h => (List.mem_append.mp h).elim (fun h => List.mem_reverse.mp h) (hym x), fun h => List.mem_append_left _ (List.mem_reverse.mpr h)⟩
            have hF2 := Tells.cat_snoc hF (Tells.field (ms := fd.marks.reverse ++ ys) fok (by rw [List.length_append, List.length_reverse]; omega) hmi)
            rw [← take_snoc hfd] at hF2
            refine ⟨z8, _, _, _, rfl, by omega, ⟨_, ?_, hF2⟩, W8, ((o3.trans o4).trans o6).trans ((Out.of_same ((((s7.trans s8).trans s9).trans s10).trans s11)).trans o8)⟩
            simpa only [List.append_assoc] using B8
      · rintro σ H3 ⟨z3, e5, e6, e7, rfl, hz3, ⟨fs, B3, hF⟩, W3, o3⟩
        have hf3 : fxs.length ≤ 3 := by have := kok.few; omega
        have := Nat.mul_le_mul_left 400 hf3
        rw [hfl, List.take_length] at hF
        have hT2 := Tells.cat_snoc hT (Tells.kind kok.name hF)
        rw [← take_snoc hkd] at hT2
        refine ⟨_, rfl, _, rfl, t, c, cs, S, o, z3, _, "}", rfl, W3, B3, vl _, by omega, fun z4 H4 hz4 B4 W4 o4 => ?_⟩
        refine ⟨z4, _, _, e5, e6, e7, e8, e9, e10, rfl, by omega, ⟨_, ?_, hT2⟩, W4, (o1.trans o3).trans o4⟩
        simpa only [List.append_assoc] using B4
    · rintro σ H1 ⟨z, e3, e4, e5, e6, e7, e8, e9, e10, rfl, hz, ⟨ws, B1, hT⟩, W1, o1⟩
      rw [hkl, List.take_length] at hT
      have hz : z.length ≤ 4500 := by
        have := hok.fewK
        have := Nat.mul_le_mul_left 1500 (show kxs.length ≤ 3 by omega)
        omega
      refine ⟨_, rfl, a, _, _, _, rfl, rfl, same_seqT wo_le (W.seqT o1 hs), atI_nat (j := 1) rfl, ia, rfl, ⟨_, same_seqT wo_le (W.seqT o1 his)⟩, for_tup (K := K) (a := ia) (xs := ixs) (fun i σ H' => ∃ (z' : List Nat) (e3 e4 e5 e6 e7 e8 e9 e10 : Option V), σ = [some (.ref t), some (.ref o), some (.ref a), e3, e4, e5, e6, e7, e8, e9, e10] ∧ z'.length ≤ 4500 + 1500 * i ∧ (∃ is, BtV z' (ws ++ is) ∧ Tells (PM.Cat PM.ItemT (tr.items.take i)) is) ∧ PS t c cs S o z' H' ∧ Out [t, o] H H')
        ⟨z, e3, e4, e5, e6, e7, e8, e9, e10, rfl, by omega, ⟨[], by rw [List.append_nil]; exact B1, Tells.cat_nil⟩, W1, o1⟩ (fun i σ H' _ ⟨_, _, _, _, _, _, _, _, _, _, _, _, _, o1⟩ => same_seqT wo_le (W.seqT o1 his)) ?_ ?_⟩
      · rintro i y σ H2 hi ⟨z2, e3, e4, e5, e6, e7, e8, e9, e10, rfl, hz2, ⟨is, B2, hI⟩, W2, o2⟩
        have hi5 : i < 5 := by
          have := (List.getElem?_eq_some_iff.mp hi).1
          have := hok.fewI
          omega
        obtain ⟨im, him, hy⟩ := item_of (D := Im.d) (W.ds o2 hia) hi
        have iok := hok.items im (List.mem_of_getElem? him)
        have fin : ∀ {x : Im} {b : List Str}, tr.items[i]? = some x → Tells (PM.ItemT x) b → Tells (PM.Cat PM.ItemT (tr.items.take (i + 1))) (is ++ b) := fun {x b} hx hb => by
          rw [take_snoc hx]
          exact Tells.cat_snoc hI hb
        have d1 : decide (V.str (Str.ofString "keep") = V.str "thing") = false := by decide +kernel
        have d2 : decide (V.str (Str.ofString "most") = V.str "thing") = false := by decide +kernel
        have d3 : decide (V.str (Str.ofString "adopt") = V.str "thing") = false := by decide +kernel
        have d4 : decide (V.str (Str.ofString "move") = V.str "thing") = false := by decide +kernel
        have f1 : decide (V.str (Str.ofString "keep") = V.str "adopt") = false := by decide +kernel
        have f2 : decide (V.str (Str.ofString "most") = V.str "adopt") = false := by decide +kernel
        have f4 : decide (V.str (Str.ofString "move") = V.str "adopt") = false := by decide +kernel
        have g1 : decide (V.str (Str.ofString "keep") = V.str "move") = false := by decide +kernel
        have g2 : decide (V.str (Str.ofString "most") = V.str "move") = false := by decide +kernel
        cases im with
        | thing nm cn kn vs =>
          cases hy with
          | @tup q ys _ hq hqa =>
          cases hqa with | cons b1 b2 =>
          cases b2 with | cons b2 b3 =>
          cases b3 with | cons b3 b4 =>
          cases b4 with | cons b4 b5 =>
          cases b5 with | cons b5 b6 =>
          cases b6; cases b1; cases b2; cases b4
          cases b5 with
          | @tup va vxs _ hvs hva =>
          rename_i cv
          have hcv : cv = cntV cn ∧ ∀ k, cn = some k → 0 ≤ k ∧ k < 10000000000 := by
            obtain ⟨_, hcn, _⟩ := iok
            have hall : ∀ k ∈ cntL, ∀ j, k = some j → 0 ≤ j ∧ j < 10000000000 := by decide +kernel
            refine ⟨?_, hall cn hcn⟩
            cases cn with
            | none => cases b3; rfl
            | some k => cases b3; rfl
          obtain ⟨rfl, hcn⟩ := hcv
          have hq' : ∀ {H'}, Out [t, o] H2 H' → SqT K H' q _ := fun o' => same_seqT wo_le (W2.seqT o' hq)
          refine ⟨_, rfl, q, _, _, _, rfl, rfl, hq' .refl, atI_nat (j := 0) rfl, rfl, _, rfl, ?_⟩
          rw [dec_self]
          refine iteT ?_
          refine ⟨fun σ' H' => ∃ (tl : Addr) (ts : List Str), σ' = [some (.ref t), some (.ref o), some (.ref a), e3, e4, e5, e6, e7, some (.ref q), some (.ref tl), e10] ∧ PS t c cs S o z2 H' ∧ Out [t, o] H2 H' ∧ H' tl = some (.lst (ts.map V.str)) ∧ ts.length ≤ 2 ∧ (∀ s ∈ ts, s ∈ vocL) ∧ Sys ts (PM.cntW cn), ?_, ?_⟩
          · refine ⟨_, rfl, q, _, _, _, rfl, rfl, hq' .refl, atI_nat (j := 2) rfl, rfl, _, rfl, ?_⟩
            cases cn with
            | none =>
              refine iteT ⟨Nat.zero_le _, fun l nl => ⟨l, [], rfl, W2.new nl, .upd_new nl, upd_same, by decide, voc_nil, .nil⟩⟩
            | some k =>
              have hk := hcn k rfl
              refine iteF ⟨_, rfl, q, _, _, _, rfl, rfl, hq' .refl, atI_nat (j := 2) rfl, _, rfl, num_log hk.1 hk.2, by show 2 ≤ sizeLine; decide, fun l nl => ⟨l, ["*", Str.ofString (toString k)], rfl, W2.new nl, .upd_new nl, upd_same, by show 2 ≤ 2; decide, voc_cons (vl _) (voc_cons (v_num (num_cnt iok.2.1 rfl)) voc_nil), .cons (sy_lit (lw _)) (.cons (sy_num (num_cnt iok.2.1 rfl)) .nil)⟩⟩
          · rintro σ' H3 ⟨tl, ts, rfl, W3, o3, htl, hts, hts20, hsys⟩
            refine ⟨_, rfl, _, rfl, _, rfl, q, _, _, _, rfl, rfl, hq' o3, atI_nat (j := 1) rfl, by show 2 ≤ sizeLine; decide, fun l1 n1 => ?_⟩
            have s1 := same_upd (o := .lst [.str "thing", .str nm]) n1
            refine ⟨_, rfl, l1, tl, _, _, rfl, rfl, upd_same, s1 _ _ htl, ?_, fun l2 n2 => ?_⟩
            · rw [List.length_map]; exact szl (by show 2 + _ ≤ _; omega)
            have s2 := same_upd (o := .lst ([.str "thing", .str nm] ++ ts.map V.str)) n2
            have o5 : Out [t, o] H2 _ := o3.trans (.of_same (s1.trans s2))
            refine ⟨_, rfl, q, _, _, _, rfl, rfl, hq' o5, atI_nat (j := 3) rfl, by show 3 ≤ sizeLine; decide, fun l3 n3 => ?_⟩
            have s3 := same_upd (o := .lst [.str ":", .str kn, .str "{"]) n3
            refine ⟨l2, l3, _, _, rfl, rfl, s3 _ _ upd_same, upd_same, ?_, fun l4 n4 => ?_⟩
            · rw [List.length_append, List.length_map]; exact szl (by show 2 + _ + 3 ≤ _; omega)
            have s4 := same_upd (o := .lst ([.str "thing", .str nm] ++ ts.map V.str ++ [.str ":", .str kn, .str "{"])) n4
            refine ⟨t, c, cs, S, o, l4, z2, _, (["thing", nm] : List Str) ++ ts ++ ([":", kn, "{"] : List Str), rfl, (((W3.new n1).new n2).new n3).new n4, B2, ?_, ?_, ?_, fun z6 H6 hz6 B6 W6 o6 => ?_⟩
            · rw [upd_same, List.map_append, List.map_append]; rfl
            · exact voc_app (voc_app (voc_cons (vl _) (voc_cons (v_name (nm_names iok.1)) voc_nil)) hts20) (voc_cons (vl _) (voc_cons (v_name (nm_kind iok.2.2.1)) (voc_cons (vl _) voc_nil)))
            · rw [List.length_append, List.length_append]
              show z2.length + 30 * (2 + ts.length + 3) ≤ 40000
              omega
            have hz6 : z6.length ≤ z2.length + 210 := by
              rw [List.length_append, List.length_append] at hz6
              have hz6 : z6.length ≤ z2.length + 30 * (2 + ts.length + 3) := hz6
              omega
            have o26 : Out [t, o] H2 H6 := (o5.trans (.of_same (s3.trans s4))).trans o6
            have hvl := dpAll_len hva
            rw [List.length_map] at hvl
            have hv3 : vxs.length ≤ 3 := by have := iok.2.2.2.2; omega
            refine ⟨_, rfl, q, _, _, _, rfl, rfl, hq' o26, atI_nat (j := 4) rfl, va, rfl, ⟨_, same_seqT wo_le (W2.seqT o26 hvs)⟩, for_tup (K := K) (a := va) (xs := vxs) (fun j σ H' => ∃ (z' : List Nat) (e5 e10 : Option V), σ = [some (.ref t), some (.ref o), some (.ref a), e3, e4, e5, e6, e7, some (.ref q), some (.ref tl), e10] ∧ z'.length ≤ z2.length + 210 + 210 * j ∧ (∃ vws, BtV z' (ws ++ is ++ ((["thing", nm] : List Str) ++ ts ++ ([":", kn, "{"] : List Str)) ++ vws) ∧ Tells (PM.Cat (fun p t => PM.Are (PM.pairW p) t) (vs.take j)) vws) ∧ PS t c cs S o z' H' ∧ Out [t, o] H2 H')
              ⟨z6, e5, e10, rfl, by omega, ⟨[], by rw [List.append_nil]; exact B6, Tells.cat_nil⟩, W6, o26⟩ (fun j σ H' _ ⟨_, _, _, _, _, _, _, o7⟩ => same_seqT wo_le (W2.seqT o7 hvs)) ?_ ?_⟩
            · rintro j y σ H7 hj ⟨z7, e5, e10, rfl, hz7, ⟨vws, B7, hV⟩, W7, o7⟩
              have hj3 : j < 3 := by
                have := (List.getElem?_eq_some_iff.mp hj).1
                omega
              obtain ⟨pv, hpv, hy⟩ := item_of (D := valD) (W2.ds o7 hva) hj
              have pok := iok.2.2.2.1 pv (List.mem_of_getElem? hpv)
              cases hy with
              | @tup q2 ys _ hq2 hqa =>
              cases hqa with | cons b1 b2 =>
              cases b2 with | cons b2 b3 =>
              cases b3; cases b1
              rename_i vv
              refine ⟨q2, _, rfl, same_seqT wo_le hq2, rfl, _, _, rfl, _, _, rfl, rfl, ?_⟩
              refine ⟨_, rfl, _, rfl, _, rfl, by show 2 ≤ sizeLine; decide, fun l1 n1 => ?_⟩
              have s1 := same_upd (o := .lst [.str pv.1, .str "="]) n1
              refine ⟨_, rfl, vv, pv.2, rfl, pok.2, dp_mono s1 _ _ (dpS_in b2), fun l2 ss H8 hss hss20 hsy s8 n2 hl2 => ?_⟩
              have W8 : PS t c cs S o z7 H8 := by
                have W := W7.new (u := .lst [.str pv.1, .str "="]) n1
                exact ⟨⟨W.live.tape.out (T := []) (.of_same s8) List.not_mem_nil List.not_mem_nil, W.live.al.out (T := []) (.of_same s8) (fun b hb => absurd hb List.not_mem_nil), W.live.tS, W.live.cS⟩, W.oS, W.ot, s8 _ _ W.at_⟩
              refine ⟨l1, l2, _, _, rfl, rfl, s8 _ _ upd_same, hl2, ?_, fun l3 n3 => ?_⟩
              · rw [List.length_map]; exact szl (by show 2 + _ ≤ _; omega)
              have s3 := same_upd (o := .lst ([.str pv.1, .str "="] ++ ss.map V.str)) n3
              refine ⟨by show 1 ≤ sizeLine; decide, fun l4 n4 => ?_⟩
              have s4 := same_upd (o := .lst [.str ";"]) n4
              refine ⟨l3, l4, _, _, rfl, rfl, s4 _ _ upd_same, upd_same, ?_, fun l5 n5 => ?_⟩
              · rw [List.length_append, List.length_map]; exact szl (by show 2 + _ + 1 ≤ _; omega)
              have s5 := same_upd (o := .lst ([.str pv.1, .str "="] ++ ss.map V.str ++ [.str ";"])) n5
              refine ⟨t, c, cs, S, o, l5, z7, _, ([pv.1, "="] : List Str) ++ ss ++ ([";"] : List Str), rfl, ((W8.new n3).new n4).new n5, B7, ?_, ?_, ?_, fun z9 H9 hz9 B9 W9 o9 => ?_⟩
              · rw [upd_same, List.map_append, List.map_append]; rfl
              · exact voc_app (voc_app (voc_cons (v_name (nm_field pok.1)) (voc_cons (vl _) voc_nil)) hss20) (voc_cons (vl _) voc_nil)
              · rw [List.length_append, List.length_append]
                show z7.length + 30 * (2 + ss.length + 1) ≤ 40000
                omega
              · have hz9 : z9.length ≤ z7.length + 30 * (2 + ss.length + 1) := by
                  rw [List.length_append, List.length_append] at hz9
                  exact hz9
                have hV2 := Tells.cat_snoc hV (Tells.pair pok.1 hsy)
                rw [← take_snoc hpv] at hV2
                refine ⟨z9, _, _, rfl, by omega, ⟨_, ?_, hV2⟩, W9, o7.trans ((Out.of_same (((s1.trans s8).trans s3).trans (s4.trans s5))).trans o9)⟩
                simpa only [List.append_assoc] using B9
            · rintro σ H7 ⟨z7, e5, e10, rfl, hz7, ⟨vws, B7, hV⟩, W7, o7⟩
              rw [hvl, List.take_length] at hV
              have := Nat.mul_le_mul_left 210 hv3
              refine ⟨_, rfl, _, rfl, t, c, cs, S, o, z7, _, "}", rfl, W7, B7, vl _, by omega, fun z8 H8 hz8 B8 W8 o8 => ?_⟩
              refine ⟨z8, _, _, _, _, _, _, _, _, rfl, by omega, ⟨_, ?_, fin him (Tells.thing iok hsys hV)⟩, W8, (o2.trans o7).trans o8⟩
              simpa only [List.append_assoc] using B8
        | keep x =>
          cases hy with
          | @tup q ys _ hq hqa =>
          cases hqa with | cons b1 b2 =>
          cases b2 with | cons b2 b3 =>
          cases b3; cases b1; cases b2
          have hq0 := same_seqT wo_le hq
          refine ⟨_, rfl, q, _, _, _, rfl, rfl, hq0, atI_nat (j := 0) rfl, rfl, _, rfl, ?_⟩
          rw [d1]
          refine iteF ?_
          refine ⟨_, rfl, q, _, _, _, rfl, rfl, hq0, atI_nat (j := 0) rfl, rfl, _, rfl, ?_⟩
          rw [f1]
          refine iteF ?_
          refine ⟨_, rfl, q, _, _, _, rfl, rfl, hq0, atI_nat (j := 0) rfl, rfl, _, rfl, ?_⟩
          rw [g1]
          refine iteF ⟨_, rfl, _, rfl, _, rfl, q, _, _, _, rfl, rfl, hq0, atI_nat (j := 0) rfl, _, rfl, q, _, _, _, rfl, rfl, hq0, atI_nat (j := 1) rfl, .inr ⟨x, rfl, by show 3 ≤ sizeLine; decide, fun l nl => ?_⟩⟩
          refine ⟨t, c, cs, S, o, l, z2, _, ["keep", x, ";"], rfl, W2.new nl, B2, upd_same, voc_cons (vl _) (voc_cons (v_name (nm_names iok)) (voc_cons (vl _) voc_nil)), by show z2.length + 30 * 3 ≤ 40000; omega, fun z6 H6 hz6 B6 W6 o6 => ?_⟩
          have hz6 : z6.length ≤ z2.length + 90 := hz6
          exact ⟨z6, _, _, _, _, _, _, _, _, rfl, by omega, ⟨_, by rw [← List.append_assoc]; exact B6, fin him (Tells.keep iok)⟩, W6, o2.trans ((Out.upd_new nl).trans o6)⟩
        | most n =>
          cases hy with
          | @tup q ys _ hq hqa =>
          cases hqa with | cons b1 b2 =>
          cases b2 with | cons b2 b3 =>
          cases b3; cases b1; cases b2
          have hq0 := same_seqT wo_le hq
          refine ⟨_, rfl, q, _, _, _, rfl, rfl, hq0, atI_nat (j := 0) rfl, rfl, _, rfl, ?_⟩
          rw [d2]
          refine iteF ?_
          refine ⟨_, rfl, q, _, _, _, rfl, rfl, hq0, atI_nat (j := 0) rfl, rfl, _, rfl, ?_⟩
          rw [f2]
          refine iteF ?_
          refine ⟨_, rfl, q, _, _, _, rfl, rfl, hq0, atI_nat (j := 0) rfl, rfl, _, rfl, ?_⟩
          rw [g2]
          have h0 := iok.1
          have h1 := iok.2
          refine iteF ⟨_, rfl, _, rfl, _, rfl, q, _, _, _, rfl, rfl, hq0, atI_nat (j := 0) rfl, _, rfl, q, _, _, _, rfl, rfl, hq0, atI_nat (j := 1) rfl, .inl ⟨n, rfl, num_log (by omega) (by omega), by show 3 ≤ sizeLine; decide, fun l nl => ?_⟩⟩
          refine ⟨t, c, cs, S, o, l, z2, _, ["most", Str.ofString (toString n), ";"], rfl, W2.new nl, B2, upd_same, voc_cons (vl _) (voc_cons (v_num (num_small h0 h1)) (voc_cons (vl _) voc_nil)), by show z2.length + 30 * 3 ≤ 40000; omega, fun z6 H6 hz6 B6 W6 o6 => ?_⟩
          have hz6 : z6.length ≤ z2.length + 90 := hz6
          exact ⟨z6, _, _, _, _, _, _, _, _, rfl, by omega, ⟨_, by rw [← List.append_assoc]; exact B6, fin him (Tells.most (num_small h0 h1))⟩, W6, o2.trans ((Out.upd_new nl).trans o6)⟩
        | adopt n x =>
          cases hy with
          | @tup q ys _ hq hqa =>
          cases hqa with | cons b1 b2 =>
          cases b2 with | cons b2 b3 =>
          cases b3 with | cons b3 b4 =>
          cases b4; cases b1; cases b2; cases b3
          have hq0 := same_seqT wo_le hq
          refine ⟨_, rfl, q, _, _, _, rfl, rfl, hq0, atI_nat (j := 0) rfl, rfl, _, rfl, ?_⟩
          rw [d3]
          refine iteF ?_
          refine ⟨_, rfl, q, _, _, _, rfl, rfl, hq0, atI_nat (j := 0) rfl, rfl, _, rfl, ?_⟩
          rw [dec_self]
          have h0 := iok.1
          have h1 := iok.2.1
          refine iteT ⟨_, rfl, _, rfl, _, rfl, q, _, _, _, rfl, rfl, hq0, atI_nat (j := 1) rfl, .inl ⟨n, rfl, num_log (by omega) (by omega), _, rfl, q, _, _, _, rfl, rfl, hq0, atI_nat (j := 2) rfl, by show 5 ≤ sizeLine; decide, fun l nl => ?_⟩⟩
          refine ⟨t, c, cs, S, o, l, z2, _, ["adopt", Str.ofString (toString n), "as", x, ";"], rfl, W2.new nl, B2, upd_same, voc_cons (vl _) (voc_cons (v_num (num_small h0 (by omega))) (voc_cons (vl _) (voc_cons (v_name (nm_names iok.2.2)) (voc_cons (vl _) voc_nil)))), by show z2.length + 30 * 5 ≤ 40000; omega, fun z6 H6 hz6 B6 W6 o6 => ?_⟩
          have hz6 : z6.length ≤ z2.length + 150 := hz6
          exact ⟨z6, _, _, _, _, _, _, _, _, rfl, by omega, ⟨_, by rw [← List.append_assoc]; exact B6, fin him (Tells.adopt (num_small h0 (by omega)) iok.2.2)⟩, W6, o2.trans ((Out.upd_new nl).trans o6)⟩
        | move x y =>
          cases hy with
          | @tup q ys _ hq hqa =>
          cases hqa with | cons b1 b2 =>
          cases b2 with | cons b2 b3 =>
          cases b3 with | cons b3 b4 =>
          cases b4; cases b1; cases b2; cases b3
          have hq0 := same_seqT wo_le hq
          refine ⟨_, rfl, q, _, _, _, rfl, rfl, hq0, atI_nat (j := 0) rfl, rfl, _, rfl, ?_⟩
          rw [d4]
          refine iteF ?_
          refine ⟨_, rfl, q, _, _, _, rfl, rfl, hq0, atI_nat (j := 0) rfl, rfl, _, rfl, ?_⟩
          rw [f4]
          refine iteF ?_
          refine ⟨_, rfl, q, _, _, _, rfl, rfl, hq0, atI_nat (j := 0) rfl, rfl, _, rfl, ?_⟩
          rw [dec_self]
          refine iteT ⟨_, rfl, _, rfl, _, rfl, q, _, _, _, rfl, rfl, hq0, atI_nat (j := 1) rfl, _, rfl, q, _, _, _, rfl, rfl, hq0, atI_nat (j := 2) rfl, by show 5 ≤ sizeLine; decide, fun l nl => ?_⟩
          refine ⟨t, c, cs, S, o, l, z2, _, ["move", x, "to", y, ";"], rfl, W2.new nl, B2, upd_same, voc_cons (vl _) (voc_cons (v_name (nm_names iok.1)) (voc_cons (vl _) (voc_cons (v_name (nm_names iok.2)) (voc_cons (vl _) voc_nil)))), by show z2.length + 30 * 5 ≤ 40000; omega, fun z6 H6 hz6 B6 W6 o6 => ?_⟩
          have hz6 : z6.length ≤ z2.length + 150 := hz6
          exact ⟨z6, _, _, _, _, _, _, _, _, rfl, by omega, ⟨_, by rw [← List.append_assoc]; exact B6, fin him (Tells.move iok.1 iok.2)⟩, W6, o2.trans ((Out.upd_new nl).trans o6)⟩
      · rintro σ H2 ⟨z2, e3, e4, e5, e6, e7, e8, e9, e10, rfl, hz2, ⟨is, B2, hI⟩, W2, o2⟩
        rw [hil, List.take_length] at hI
        have := hok.fewI
        have := Nat.mul_le_mul_left 1500 (show ixs.length ≤ 5 by omega)
        exact k z2 _ H2 (by omega) B2.1 (Tells.tree hT hI) W2 o2

end
end K02
namespace K02
open PySem PySem.Spec PyProof.Rows L2 LB
section
variable {P : Program} {w : World} {K : PySem.W.Frag} {mg : Str → Option Value} {base : Heap}
theorem ok__pieces_of_addition {f : Addr} {fd : FuncData} (F : Fun K "_pieces_of_addition" "_pieces_of_addition" s__pieces_of_addition f fd) (T : Blt mg) : FnOk P w K mg base CX0 1 f fd ["number"] spPAdd := by
  refine F.ok sc__pieces_of_addition (fun vs H Q E h => ?_) (fun cdv A outer s H vs Q E hr h => ?_)
  · obtain ⟨n, rfl, _⟩ := h
    rfl
  · obtain ⟨n, rfl, h0, h1, k⟩ := h
    refine ⟨_, (pss_one (ps_ret (pe_ifExp (pt_cmpR op_eq (pv 0) pe_int (nomark _)) (pe_lst pa_nil) (pe_lst (pa_cons pe_str (pa_cons (pe_callTy call_str_int (by rfl) T.b_str (by decide +kernel) (pa_cons (pv 0) pa_nil)) pa_nil)))))), ?_⟩
    refine ⟨_, rfl, rfl, _, rfl, ite2 (fun hz => ?_) (fun hz => ?_)⟩
    · have hz : n = 0 := V.int.inj (of_decide_eq_true hz)
      exact ⟨Nat.zero_le _, fun p np => k p [] _ (by decide) voc_nil (sys_add0 (by omega)) rfl (fun _ _ e => by cases e) (same_upd np) np upd_same⟩
    · have hz : ¬ n = 0 := fun q => of_decide_eq_false (nt hz) (by rw [q])
      exact ⟨_, rfl, _, rfl, num_log h0 (by omega), by show 2 ≤ sizeLine; decide, fun p np => k p ["+", decS n] _ (by show 2 ≤ 2; decide) (voc_cons (vl _) (voc_cons (v_num (num_small h0 h1)) voc_nil)) (sys_add h0 h1 (by omega)) (nn_cons (ndl _) rfl) (fun s t e => by
        injection e with e1 _
        rw [← e1]
        exact ndl _) (same_upd np) np upd_same⟩
theorem ok__pieces_of_value {f : Addr} {fd : FuncData} (F : Fun K "_pieces_of_value" "_pieces_of_value" s__pieces_of_value f fd) (T : Blt mg) (c__pieces_of_addition : C8.Cal P w K mg base 1 "_pieces_of_addition" spPAdd []) : FnOk P w K mg base CX0 2 f fd ["value"] (spPVal K) := by
  refine F.ok sc__pieces_of_value (fun vs H Q E h => ?_) (fun cdv A outer s H vs Q E hr h => ?_)
  · obtain ⟨v, x, rfl, _⟩ := h
    rfl
  · obtain ⟨v, x, rfl, hx, hd, k⟩ := h
    refine ⟨_, (pss_cons (ps_if (pt_cmpR op_in_seq (pe_ix ix_tup (pv 0) pe_int (fun _ _ => rfl)) (pe_tup (pa_cons pe_str (pa_cons pe_str pa_nil))) (by rfl))
      (pss_one (ps_ret (pe_lst (pa_cons (pe_callTy call_str_any (by rfl) T.b_str (by decide +kernel) (pa_cons (pe_ix ix_tup (pv 0) pe_int (fun _ _ => rfl)) pa_nil)) pa_nil))))
      pss_nil)
    (pss_cons (ps_if (pt_cmpR op_eq (pe_ix ix_tup (pv 0) pe_int (fun _ _ => rfl)) pe_str (nomark _))
      (pss_one (ps_ret (pe_lst (pa_cons pe_str pa_nil))))
      pss_nil)
    (pss_cons (ps_if (pt_cmpR op_eq (pe_ix ix_tup (pv 0) pe_int (fun _ _ => rfl)) pe_str (nomark _))
      (pss_one (ps_ret (pe_op op_cat (pe_lst (pa_cons pe_str pa_nil)) (C8.pe_c c__pieces_of_addition hr (by first | decide | omega) rfl (pa_cons (pe_ix ix_tup (pv 0) pe_int (fun _ _ => rfl)) pa_nil)))))
      pss_nil)
    (pss_one (ps_ret (pe_op op_cat (pe_lst (pa_cons pe_str (pa_cons (pe_ix ix_tup (pv 0) pe_int (fun _ _ => rfl)) pa_nil))) (C8.pe_c c__pieces_of_addition hr (by first | decide | omega) rfl (pa_cons (pe_ix ix_tup (pv 0) pe_int (fun _ _ => rfl)) pa_nil)))))))), ?_⟩
    have d1 : inV (V.str (Str.ofString "none")) ([.str "number", .str "name"] : List V) = false := by decide +kernel
    have d2 : inV (V.str (Str.ofString "index")) ([.str "number", .str "name"] : List V) = false := by decide +kernel
    have d3 : inV (V.str (Str.ofString "told")) ([.str "number", .str "name"] : List V) = false := by decide +kernel
    have d4 : inV (V.str (Str.ofString "number")) ([.str "number", .str "name"] : List V) = true := by decide +kernel
    have d5 : inV (V.str (Str.ofString "name")) ([.str "number", .str "name"] : List V) = true := by decide +kernel
    have e2 : decide (V.str (Str.ofString "index") = V.str "none") = false := by decide +kernel
    have e4 : decide (V.str (Str.ofString "told") = V.str "none") = false := by decide +kernel
    have g2 : decide (V.str (Str.ofString "told") = V.str "index") = false := by decide +kernel
    have fl : ([.str "number", .str "name"] : List V).all flatV = true := by decide +kernel
    cases x with
    | number n =>
      cases hd with
      | @tup a xs _ hs ha =>
      cases ha with | cons a1 a2 =>
      cases a2 with | cons a2 a3 =>
      cases a3; cases a1; cases a2
      have hn := numL_range n hx
      refine ⟨_, rfl, a, _, _, _, rfl, rfl, hs, atI_nat (j := 0) rfl, by show 2 ≤ sizeLine; decide, fun q nq => ?_⟩
      refine ⟨q, _, rfl, Or.inr (SqT.of upd_same), rfl, fl, _, rfl, ?_⟩
      have sq := same_upd (o := .tup [.str "number", .str "name"]) nq
      show (if inV _ _ = true then _ else _ : Prop)
      rw [d4]
      refine iteT ⟨_, rfl, a, _, _, _, rfl, rfl, same_seqT sq hs, atI_nat (j := 1) rfl, .inl ⟨n, rfl, num_log hn.1 hn.2, by show 1 ≤ sizeLine; decide, fun p np => ?_⟩⟩
      exact k p [decS n] _ (by show 1 ≤ 4; decide) (voc_cons (v_num (num_numL hx)) voc_nil) (.cons (sy_num (num_numL hx)) .nil) rfl (sq.trans (same_upd np)) (sq.free np) upd_same
    | name x =>
      cases hd with
      | @tup a xs _ hs ha =>
      cases ha with | cons a1 a2 =>
      cases a2 with | cons a2 a3 =>
      cases a3; cases a1; cases a2
      refine ⟨_, rfl, a, _, _, _, rfl, rfl, hs, atI_nat (j := 0) rfl, by show 2 ≤ sizeLine; decide, fun q nq => ?_⟩
      refine ⟨q, _, rfl, Or.inr (SqT.of upd_same), rfl, fl, _, rfl, ?_⟩
      have sq := same_upd (o := .tup [.str "number", .str "name"]) nq
      show (if inV _ _ = true then _ else _ : Prop)
      rw [d5]
      refine iteT ⟨_, rfl, a, _, _, _, rfl, rfl, same_seqT sq hs, atI_nat (j := 1) rfl, .inr ⟨x, rfl, by show 1 ≤ sizeLine; decide, fun p np => ?_⟩⟩
      exact k p [x] _ (by show 1 ≤ 4; decide) (voc_cons (v_name (nm_names hx)) voc_nil) (.cons (sy_name (nm_names hx)) .nil) rfl (sq.trans (same_upd np)) (sq.free np) upd_same
    | none =>
      cases hd with
      | @tup a xs _ hs ha =>
      cases ha with | cons a1 a2 =>
      cases a2; cases a1
      refine ⟨_, rfl, a, _, _, _, rfl, rfl, hs, atI_nat (j := 0) rfl, by show 2 ≤ sizeLine; decide, fun q nq => ?_⟩
      refine ⟨q, _, rfl, Or.inr (SqT.of upd_same), rfl, fl, _, rfl, ?_⟩
      have sq := same_upd (o := .tup [.str "number", .str "name"]) nq
      show (if inV _ _ = true then _ else _ : Prop)
      rw [d1]
      refine iteF ⟨_, rfl, a, _, _, _, rfl, rfl, same_seqT sq hs, atI_nat (j := 0) rfl, rfl, _, rfl, ?_⟩
      rw [dec_self]
      refine iteT ⟨by show 1 ≤ sizeLine; decide, fun p np => ?_⟩
      exact k p ["none"] _ (by decide) (voc_cons (vl _) voc_nil) (.cons (sy_lit (lw _)) .nil) rfl (sq.trans (same_upd np)) (sq.free np) upd_same
    | index n =>
      cases hd with
      | @tup a xs _ hs ha =>
      cases ha with | cons a1 a2 =>
      cases a2 with | cons a2 a3 =>
      cases a3; cases a1; cases a2
      refine ⟨_, rfl, a, _, _, _, rfl, rfl, hs, atI_nat (j := 0) rfl, by show 2 ≤ sizeLine; decide, fun q nq => ?_⟩
      refine ⟨q, _, rfl, Or.inr (SqT.of upd_same), rfl, fl, _, rfl, ?_⟩
      have sq := same_upd (o := .tup [.str "number", .str "name"]) nq
      show (if inV _ _ = true then _ else _ : Prop)
      rw [d2]
      refine iteF ⟨_, rfl, a, _, _, _, rfl, rfl, same_seqT sq hs, atI_nat (j := 0) rfl, rfl, _, rfl, ?_⟩
      rw [e2]
      refine iteF ⟨_, rfl, a, _, _, _, rfl, rfl, same_seqT sq hs, atI_nat (j := 0) rfl, rfl, _, rfl, ?_⟩
      rw [dec_self]
      refine iteT ⟨by show 1 ≤ sizeLine; decide, fun p np => ?_⟩
      have sp := sq.trans (same_upd (o := .lst [.str "index"]) np)
      refine ⟨_, rfl, a, _, _, _, rfl, rfl, same_seqT sp hs, atI_nat (j := 1) rfl, n, rfl, hx.1, by have := hx.2; omega, fun l ss H' hl hv hy hn _ s1 nl e1 => ?_⟩
      refine ⟨p, l, _, _, rfl, rfl, s1 _ _ upd_same, e1, ?_, fun u nu => ?_⟩
      · rw [List.length_map]; exact szl (by show 1 + _ ≤ _; omega)
      · exact k u ("index" :: ss) _ (by show ss.length + 1 ≤ 4; omega) (voc_cons (vl _) hv) (.cons (sy_lit (lw _)) hy) (nn_cons (ndl _) hn) ((sp.trans s1).trans (same_upd nu)) ((sp.trans s1).free nu) upd_same
    | told x n =>
      cases hd with
      | @tup a xs _ hs ha =>
      cases ha with | cons a1 a2 =>
      cases a2 with | cons a2 a3 =>
      cases a3 with | cons a3 a4 =>
      cases a4; cases a1; cases a2; cases a3
      refine ⟨_, rfl, a, _, _, _, rfl, rfl, hs, atI_nat (j := 0) rfl, by show 2 ≤ sizeLine; decide, fun q nq => ?_⟩
      refine ⟨q, _, rfl, Or.inr (SqT.of upd_same), rfl, fl, _, rfl, ?_⟩
      have sq := same_upd (o := .tup [.str "number", .str "name"]) nq
      show (if inV _ _ = true then _ else _ : Prop)
      rw [d3]
      refine iteF ⟨_, rfl, a, _, _, _, rfl, rfl, same_seqT sq hs, atI_nat (j := 0) rfl, rfl, _, rfl, ?_⟩
      rw [e4]
      refine iteF ⟨_, rfl, a, _, _, _, rfl, rfl, same_seqT sq hs, atI_nat (j := 0) rfl, rfl, _, rfl, ?_⟩
      rw [g2]
      refine iteF ⟨_, rfl, a, _, _, _, rfl, rfl, same_seqT sq hs, atI_nat (j := 1) rfl, by show 2 ≤ sizeLine; decide, fun p np => ?_⟩
      have sp := sq.trans (same_upd (o := .lst [.str "told", .str x]) np)
      refine ⟨_, rfl, a, _, _, _, rfl, rfl, same_seqT sp hs, atI_nat (j := 2) rfl, n, rfl, hx.2.1, by have := hx.2.2; omega, fun l ss H' hl hv hy hn _ s1 nl e1 => ?_⟩
      refine ⟨p, l, _, _, rfl, rfl, s1 _ _ upd_same, e1, ?_, fun u nu => ?_⟩
      · rw [List.length_map]; exact szl (by show 2 + _ ≤ _; omega)
      · exact k u ("told" :: x :: ss) _ (by show ss.length + 1 + 1 ≤ 4; omega) (voc_cons (vl _) (voc_cons (v_name (nm_names hx.1)) hv)) (.cons (sy_lit (lw _)) (.cons (sy_name (nm_names hx.1)) hy)) (nn_cons (ndl _) (nn_cons (nd_name (nm_names hx.1)) hn)) ((sp.trans s1).trans (same_upd nu)) ((sp.trans s1).free nu) upd_same
theorem ok__pieces_of_thing {f : Addr} {fd : FuncData} (F : Fun K "_pieces_of_thing" "_pieces_of_thing" s__pieces_of_thing f fd) (T : Blt mg) (c__pieces_of_value : C8.Cal P w K mg base 2 "_pieces_of_value" (spPVal K) []) : FnOk P w K mg base CX0 3 f fd ["item"] (spPThing K) := by
  refine F.ok sc__pieces_of_thing (fun vs H Q E h => ?_) (fun cdv A outer s H vs Q E hr h => ?_)
  · obtain ⟨v, nm, kn, c, xs, rfl, _⟩ := h
    rfl
  · obtain ⟨v, nm, kn, c, vs, rfl, iok, hd, k⟩ := h
    refine ⟨_, (pss_cons (ps_asg (pv 0) (pg_tup (by rfl) (pgs_cons (pg_name (i := 1) sc__pieces_of_thing.nd rfl (Or.inl rfl)) (pgs_cons (pg_name (i := 2) sc__pieces_of_thing.nd rfl (Or.inl rfl)) (pgs_cons (pg_name (i := 3) sc__pieces_of_thing.nd rfl (Or.inl rfl)) (pgs_cons (pg_name (i := 4) sc__pieces_of_thing.nd rfl (Or.inl rfl)) (pgs_cons (pg_name (i := 5) sc__pieces_of_thing.nd rfl (Or.inl rfl)) pgs_nil)))))))
    (C8.pss_cut (ps_set (i := 6) sc__pieces_of_thing.nd rfl (Or.inl rfl) (pe_ifExp (pt_cmpR op_isN (pv 3) pe_non (nomark _)) (pe_lst pa_nil) (pe_lst (pa_cons pe_str (pa_cons (pe_callTy call_str_int (by rfl) T.b_str (by decide +kernel) (pa_cons (pv 3) pa_nil)) pa_nil)))))
    (pss_cons (ps_set (i := 7) sc__pieces_of_thing.nd rfl (Or.inl rfl) (pe_op op_cat (pe_op op_cat (pe_lst (pa_cons pe_str (pa_cons (pv 2) pa_nil))) (pv 6)) (pe_lst (pa_cons pe_str (pa_cons (pv 4) (pa_cons pe_str pa_nil))))))
    (pss_cons (ps_for PassesOwn.never rfl (pi_tup (pv 5)) (pg_tup (by rfl) (pgs_cons (pg_name (i := 8) sc__pieces_of_thing.nd rfl (Or.inl rfl)) (pgs_cons (pg_name (i := 9) sc__pieces_of_thing.nd rfl (Or.inl rfl)) pgs_nil)))
      (pss_one (ps_expr (pe_bm PySem.F.plainAttrs_list PySem.F.slot_list_extend PySem.F.type_list_extend mt_extend (pv 7) (pa_cons (pe_op op_cat (pe_op op_cat (pe_lst (pa_cons (pv 8) (pa_cons pe_str pa_nil))) (C8.pe_c c__pieces_of_value hr (by first | decide | omega) rfl (pa_cons (pv 9) pa_nil))) (pe_lst (pa_cons pe_str pa_nil))) pa_nil)))))
    (pss_one (ps_ret (pe_op op_cat (pv 7) (pe_lst (pa_cons pe_str pa_nil))))))))), ?_⟩
    cases hd with
    | @tup a ys _ hs hqa =>
    cases hqa with | cons b1 b2 =>
    cases b2 with | cons b2 b3 =>
    cases b3 with | cons b3 b4 =>
    cases b4 with | cons b4 b5 =>
    cases b5 with | cons b5 b6 =>
    cases b6; cases b1; cases b2; cases b4
    cases b5 with
    | @tup va vxs _ hvs hva =>
    rename_i cv
    have hcv : cv = cntV c ∧ ∀ k, c = some k → 0 ≤ k ∧ k < 10000000000 := by
      obtain ⟨_, hcn, _⟩ := iok
      have hall : ∀ k ∈ cntL, ∀ j, k = some j → 0 ≤ j ∧ j < 10000000000 := by decide +kernel
      refine ⟨?_, hall c hcn⟩
      cases c with
      | none => cases b3; rfl
      | some k => cases b3; rfl
    obtain ⟨rfl, hcn⟩ := hcv
    refine ⟨_, rfl, a, _, rfl, hs, rfl, _, _, rfl, _, _, rfl, _, _, rfl, _, _, rfl, _, _, rfl, rfl, ?_⟩
    refine ⟨fun σ' H' => ∃ (ml : Addr) (ts : List Str), σ' = [some (.ref a), some (.str "thing"), some (.str nm), some (cntV c), some (.str kn), some (.ref va), some (.ref ml), none, none, none] ∧ Same H H' ∧ H' ml = some (.lst (ts.map V.str)) ∧ ts.length ≤ 2 ∧ (∀ s ∈ ts, s ∈ vocL) ∧ Sys ts (PM.cntW c) ∧ NN ts = true ∧ ∀ s t, ts = s :: t → dg s = false, ?_, ?_⟩
    · cases c with
      | none =>
        refine ⟨_, rfl, rfl, _, rfl, ?_⟩
        exact iteT ⟨Nat.zero_le _, fun l nl => ⟨l, [], rfl, same_upd nl, upd_same, by decide, voc_nil, .nil, rfl, fun _ _ e => by cases e⟩⟩
      | some n =>
        have hk := hcn n rfl
        refine ⟨_, rfl, rfl, _, rfl, ?_⟩
        exact iteF ⟨_, rfl, _, rfl, num_log hk.1 hk.2, by show 2 ≤ sizeLine; decide, fun l nl => ⟨l, ["*", decS n], rfl, same_upd nl, upd_same, by show 2 ≤ 2; decide, voc_cons (vl _) (voc_cons (v_num (num_cnt iok.2.1 rfl)) voc_nil), .cons (sy_lit (lw _)) (.cons (sy_num (num_cnt iok.2.1 rfl)) .nil), nn_cons (ndl _) rfl, fun s t e => by
          injection e with e1 _
          rw [← e1]
          exact ndl _⟩⟩
    · rintro σ' H3 ⟨ml, ts, rfl, s3, hml, htl, htv, hsys, htn, hth⟩
      refine ⟨_, rfl, by show 2 ≤ sizeLine; decide, fun l1 n1 => ?_⟩
      have s4 := same_upd (o := .lst [.str "thing", .str nm]) n1
      refine ⟨_, rfl, l1, ml, _, _, rfl, rfl, upd_same, s4 _ _ hml, ?_, fun l2 n2 => ?_⟩
      · rw [List.length_map]; exact szl (by show 2 + _ ≤ _; omega)
      have s5 := same_upd (o := .lst ([.str "thing", .str nm] ++ ts.map V.str)) n2
      refine ⟨_, rfl, by show 3 ≤ sizeLine; decide, fun l3 n3 => ?_⟩
      have s6 := same_upd (o := .lst [.str ":", .str kn, .str "{"]) n3
      refine ⟨l2, l3, _, _, rfl, rfl, s6 _ _ upd_same, upd_same, ?_, fun pl np => ?_⟩
      · rw [List.length_append, List.length_map]; exact szl (by show 2 + _ + 3 ≤ _; omega)
      have s7 := ((s3.trans s4).trans (s5.trans s6))
      have npl : H pl = none := s7.free np
      have s8 := s7.trans (same_upd (o := .lst ([.str "thing", .str nm] ++ ts.map V.str ++ [.str ":", .str kn, .str "{"])) np)
      have hpre : Blk ((["thing", nm] : List Str) ++ ts ++ ([":", kn, "{"] : List Str)) 7 := by
        have h1 : Blk (([":", kn, "{"] : List Str)) 3 := ((blk1 (lw ":")).app (blkN (nm_kind iok.2.2.1))).app (blk1 (lw "{"))
        have h2 : Blk (["thing", nm] : List Str) 2 := (blk1 (lw "thing")).app (blkN (nm_names iok.1))
        exact (h2.app ⟨htv, htn, hth, htl⟩).app h1
      have hpl : (upd (upd (upd (upd H3 l1 (.lst [.str "thing", .str nm])) l2 (.lst ([.str "thing", .str nm] ++ ts.map V.str))) l3 (.lst [.str ":", .str kn, .str "{"])) pl (.lst ([.str "thing", .str nm] ++ ts.map V.str ++ [.str ":", .str kn, .str "{"]))) pl = some (.lst (((["thing", nm] : List Str) ++ ts ++ ([":", kn, "{"] : List Str)).map V.str)) := by
        rw [upd_same, List.map_append, List.map_append]; rfl
      generalize upd (upd (upd (upd H3 l1 (.lst [.str "thing", .str nm])) l2 (.lst ([.str "thing", .str nm] ++ ts.map V.str))) l3 (.lst [.str ":", .str kn, .str "{"])) pl (.lst ([.str "thing", .str nm] ++ ts.map V.str ++ [.str ":", .str kn, .str "{"])) = H4 at s8 hpl ⊢
      have hvl := dpAll_len hva
      rw [List.length_map] at hvl
      have hv3 : vxs.length ≤ 3 := by have := iok.2.2.2.2; omega
      refine ⟨_, rfl, va, rfl, ⟨_, same_seqT s8 hvs⟩, for_tup (K := K) (a := va) (xs := vxs) (fun j σ H' => ∃ (vws : List Str) (e8 e9 : Option V), σ = [some (.ref a), some (.str "thing"), some (.str nm), some (cntV c), some (.str kn), some (.ref va), some (.ref ml), some (.ref pl), e8, e9] ∧ Same H H' ∧ H' pl = some (.lst (((["thing", nm] : List Str) ++ ts ++ ([":", kn, "{"] : List Str) ++ vws).map V.str)) ∧ Blk vws (7 * j) ∧ Tells (PM.Cat (fun p t => PM.Are (PM.pairW p) t) (vs.take j)) vws)
        ⟨[], none, none, rfl, s8, by rw [List.append_nil]; exact hpl, Blk.nil, Tells.cat_nil⟩ (fun j σ H' _ ⟨_, _, _, _, h, _⟩ => same_seqT h hvs) ?_ ?_⟩
      · rintro j y σ H5 hj ⟨vws, e8, e9, rfl, h5, hp5, hb5, ht5⟩
        have hj3 : j < 3 := by
          have := (List.getElem?_eq_some_iff.mp hj).1
          omega
        obtain ⟨pv, hpv, hy⟩ := item_ofD (D := valD) hva hj
        have pok := iok.2.2.2.1 pv (List.mem_of_getElem? hpv)
        cases hy with
        | @tup q2 ys _ hq2 hqa =>
        cases hqa with | cons b1 b2 =>
        cases b2 with | cons b2 b3 =>
        cases b3; cases b1
        rename_i vv
        refine ⟨q2, _, rfl, same_seqT h5 hq2, rfl, _, _, rfl, _, _, rfl, rfl, ?_⟩
        refine ⟨_, rfl, .inl ⟨rfl, _, SqL.of hp5⟩, ?_⟩
        refine ⟨_, rfl, by show 2 ≤ sizeLine; decide, fun l1 n1 => ?_⟩
        have s1 := same_upd (o := .lst [.str pv.1, .str "="]) n1
        refine ⟨_, rfl, vv, pv.2, rfl, pok.2, dp_mono (h5.trans s1) _ _ b2, fun l2 ss H6 hss hsv hsy hsn s6 n2 hl2 => ?_⟩
        refine ⟨l1, l2, _, _, rfl, rfl, s6 _ _ upd_same, hl2, ?_, fun l3 n3 => ?_⟩
        · rw [List.length_map]; exact szl (by show 2 + _ ≤ _; omega)
        have s7 := same_upd (o := .lst ([.str pv.1, .str "="] ++ ss.map V.str)) n3
        refine ⟨by show 1 ≤ sizeLine; decide, fun l4 n4 => ?_⟩
        have s9 := same_upd (o := .lst [.str ";"]) n4
        refine ⟨l3, l4, _, _, rfl, rfl, s9 _ _ upd_same, upd_same, ?_, fun l5 n5 => ?_⟩
        · rw [List.length_append, List.length_map]; exact szl (by show 2 + _ + 1 ≤ _; omega)
        have s10 := same_upd (o := .lst ([.str pv.1, .str "="] ++ ss.map V.str ++ [.str ";"])) n5
        have hpb : Blk ((([pv.1, "="] : List Str) ++ ss ++ ([";"] : List Str))) 7 := ⟨voc_app (voc_app (voc_cons (v_name (nm_field pok.1)) (voc_cons (vl _) voc_nil)) hsv) (voc_cons (vl _) voc_nil),
          nn_cons (nd_name (nm_field pok.1)) (nn_cons (ndl _) (nn_r hsn rfl fun s t e => by
            injection e with e1 _
            rw [← e1]
            exact ndl _)), fun s t e => by
            injection e with e1 _
            rw [← e1]
            exact nd_name (nm_field pok.1), by
            rw [List.length_append, List.length_append]
            show 2 + ss.length + 1 ≤ 7
            omega⟩
        have hb := hb5.app hpb
        refine ⟨pl, l5, _, _, rfl, rfl, (((s1.trans s6).trans s7).trans (s9.trans s10)) _ _ hp5, upd_same, ?_, ?_⟩
        · have q1 := hb5.len
          have q2 := hpre.len
          simp only [List.length_append, List.length_cons, List.length_nil] at q2
          refine szl ?_
          simp only [List.length_map, List.length_append, List.length_cons, List.length_nil]
          omega
        · have ht := Tells.cat_snoc ht5 (Tells.pair pok.1 hsy)
          rw [← take_snoc hpv] at ht
          refine ⟨_, _, _, rfl, same_put (h5.trans (((s1.trans s6).trans s7).trans (s9.trans s10))) npl, ?_, by rw [Nat.mul_succ]; exact hb, ht⟩
          rw [upd_same]
          simp only [List.map_append, List.append_assoc]
          rfl
      · rintro σ H5 ⟨vws, e8, e9, rfl, h5, hp5, hb5, ht5⟩
        rw [hvl, List.take_length] at ht5
        refine ⟨_, rfl, by show 1 ≤ sizeLine; decide, fun l1 n1 => ?_⟩
        have s1 := same_upd (o := .lst [.str "}"]) n1
        have h7 : Blk vws 21 := hb5.mono (by omega)
        refine ⟨pl, l1, _, _, rfl, rfl, s1 _ _ hp5, upd_same, ?_, fun l2 n2 => ?_⟩
        · have q1 := h7.len
          have q2 := hpre.len
          simp only [List.length_append, List.length_cons, List.length_nil] at q2
          refine szl ?_
          simp only [List.length_map, List.length_append, List.length_cons, List.length_nil]
          omega
        · refine k l2 _ _ (((hpre.app h7).app (blk1 (lw "}"))).mono (by decide)) (Tells.thing iok hsys ht5) ((h5.trans s1).trans (same_upd n2)) ((h5.trans s1).free n2) ?_
          rw [upd_same]
          simp only [List.map_append, List.append_assoc]
          rfl
theorem ok__pieces_of_item {f : Addr} {fd : FuncData} (F : Fun K "_pieces_of_item" "_pieces_of_item" s__pieces_of_item f fd) (T : Blt mg) (c__pieces_of_thing : C8.Cal P w K mg base 3 "_pieces_of_thing" (spPThing K) []) : FnOk P w K mg base CX0 4 f fd ["item"] (spPItem K) := by
  refine F.ok sc__pieces_of_item (fun vs H Q E h => ?_) (fun cdv A outer s H vs Q E hr h => ?_)
  · obtain ⟨v, x, rfl, _⟩ := h
    rfl
  · obtain ⟨v, im, rfl, iok, hd, k⟩ := h
    refine ⟨_, (pss_cons (ps_if (pt_cmpR op_eq (pe_ix ix_tup (pv 0) pe_int (fun _ _ => rfl)) pe_str (nomark _))
      (pss_one (ps_ret (C8.pe_c c__pieces_of_thing hr (by first | decide | omega) rfl (pa_cons (pv 0) pa_nil))))
      pss_nil)
    (pss_cons (ps_if (pt_cmpR op_eq (pe_ix ix_tup (pv 0) pe_int (fun _ _ => rfl)) pe_str (nomark _))
      (pss_one (ps_ret (pe_lst (pa_cons pe_str (pa_cons (pe_callTy call_str_any (by rfl) T.b_str (by decide +kernel) (pa_cons (pe_ix ix_tup (pv 0) pe_int (fun _ _ => rfl)) pa_nil)) (pa_cons pe_str (pa_cons (pe_ix ix_tup (pv 0) pe_int (fun _ _ => rfl)) (pa_cons pe_str pa_nil))))))))
      pss_nil)
    (pss_cons (ps_if (pt_cmpR op_eq (pe_ix ix_tup (pv 0) pe_int (fun _ _ => rfl)) pe_str (nomark _))
      (pss_one (ps_ret (pe_lst (pa_cons pe_str (pa_cons (pe_ix ix_tup (pv 0) pe_int (fun _ _ => rfl)) (pa_cons pe_str (pa_cons (pe_ix ix_tup (pv 0) pe_int (fun _ _ => rfl)) (pa_cons pe_str pa_nil))))))))
      pss_nil)
    (pss_one (ps_ret (pe_lst (pa_cons (pe_ix ix_tup (pv 0) pe_int (fun _ _ => rfl)) (pa_cons (pe_callTy call_str_any (by rfl) T.b_str (by decide +kernel) (pa_cons (pe_ix ix_tup (pv 0) pe_int (fun _ _ => rfl)) pa_nil)) (pa_cons pe_str pa_nil))))))))), ?_⟩
    have d1 : decide (V.str (Str.ofString "keep") = V.str "thing") = false := by decide +kernel
    have d2 : decide (V.str (Str.ofString "most") = V.str "thing") = false := by decide +kernel
    have d3 : decide (V.str (Str.ofString "adopt") = V.str "thing") = false := by decide +kernel
    have d4 : decide (V.str (Str.ofString "move") = V.str "thing") = false := by decide +kernel
    have f1 : decide (V.str (Str.ofString "keep") = V.str "adopt") = false := by decide +kernel
    have f2 : decide (V.str (Str.ofString "most") = V.str "adopt") = false := by decide +kernel
    have f4 : decide (V.str (Str.ofString "move") = V.str "adopt") = false := by decide +kernel
    have g1 : decide (V.str (Str.ofString "keep") = V.str "move") = false := by decide +kernel
    have g2 : decide (V.str (Str.ofString "most") = V.str "move") = false := by decide +kernel
    cases im with
    | thing nm cn kn vs =>
      have hd0 := hd
      cases hd with
      | @tup q ys _ hq hqa =>
      cases hqa with | cons b1 b2 =>
      cases b1
      refine ⟨_, rfl, q, _, _, _, rfl, rfl, hq, atI_nat (j := 0) rfl, rfl, _, rfl, ?_⟩
      rw [dec_self]
      exact iteT ⟨_, rfl, .ref q, nm, kn, cn, vs, rfl, iok, hd0, k⟩
    | keep x =>
      cases hd with
      | @tup q ys _ hq hqa =>
      cases hqa with | cons b1 b2 =>
      cases b2 with | cons b2 b3 =>
      cases b3; cases b1; cases b2
      refine ⟨_, rfl, q, _, _, _, rfl, rfl, hq, atI_nat (j := 0) rfl, rfl, _, rfl, ?_⟩
      rw [d1]
      refine iteF ⟨_, rfl, q, _, _, _, rfl, rfl, hq, atI_nat (j := 0) rfl, rfl, _, rfl, ?_⟩
      rw [f1]
      refine iteF ⟨_, rfl, q, _, _, _, rfl, rfl, hq, atI_nat (j := 0) rfl, rfl, _, rfl, ?_⟩
      rw [g1]
      refine iteF ⟨_, rfl, q, _, _, _, rfl, rfl, hq, atI_nat (j := 0) rfl, _, rfl, q, _, _, _, rfl, rfl, hq, atI_nat (j := 1) rfl, .inr ⟨x, rfl, by show 3 ≤ sizeLine; decide, fun l nl => ?_⟩⟩
      exact k l ["keep", x, ";"] _ ((((blk1 (lw "keep")).app (blkN (nm_names iok))).app (blk1 (lw ";"))).mono (by decide)) (Tells.keep iok) (same_upd nl) nl upd_same
    | most n =>
      cases hd with
      | @tup q ys _ hq hqa =>
      cases hqa with | cons b1 b2 =>
      cases b2 with | cons b2 b3 =>
      cases b3; cases b1; cases b2
      have h0 := iok.1
      have h1 := iok.2
      have hn := num_small h0 h1
      refine ⟨_, rfl, q, _, _, _, rfl, rfl, hq, atI_nat (j := 0) rfl, rfl, _, rfl, ?_⟩
      rw [d2]
      refine iteF ⟨_, rfl, q, _, _, _, rfl, rfl, hq, atI_nat (j := 0) rfl, rfl, _, rfl, ?_⟩
      rw [f2]
      refine iteF ⟨_, rfl, q, _, _, _, rfl, rfl, hq, atI_nat (j := 0) rfl, rfl, _, rfl, ?_⟩
      rw [g2]
      refine iteF ⟨_, rfl, q, _, _, _, rfl, rfl, hq, atI_nat (j := 0) rfl, _, rfl, q, _, _, _, rfl, rfl, hq, atI_nat (j := 1) rfl, .inl ⟨n, rfl, num_log (by omega) (by omega), by show 3 ≤ sizeLine; decide, fun l nl => ?_⟩⟩
      exact k l ["most", decS n, ";"] _ ((blk_num (k := 2) (lw "most") (voc_cons (v_num hn) (voc_cons (vl ";") voc_nil)) (nn_num (ndl ";") rfl) (Nat.le_refl _)).mono (by decide)) (Tells.most hn) (same_upd nl) nl upd_same
    | adopt n x =>
      cases hd with
      | @tup q ys _ hq hqa =>
      cases hqa with | cons b1 b2 =>
      cases b2 with | cons b2 b3 =>
      cases b3 with | cons b3 b4 =>
      cases b4; cases b1; cases b2; cases b3
      have h0 := iok.1
      have h1 := iok.2.1
      have hn := num_small h0 (by omega)
      refine ⟨_, rfl, q, _, _, _, rfl, rfl, hq, atI_nat (j := 0) rfl, rfl, _, rfl, ?_⟩
      rw [d3]
      refine iteF ⟨_, rfl, q, _, _, _, rfl, rfl, hq, atI_nat (j := 0) rfl, rfl, _, rfl, ?_⟩
      rw [dec_self]
      refine iteT ⟨_, rfl, q, _, _, _, rfl, rfl, hq, atI_nat (j := 1) rfl, .inl ⟨n, rfl, num_log (by omega) (by omega), _, rfl, q, _, _, _, rfl, rfl, hq, atI_nat (j := 2) rfl, by show 5 ≤ sizeLine; decide, fun l nl => ?_⟩⟩
      exact k l ["adopt", decS n, "as", x, ";"] _ ((blk_num (k := 4) (lw "adopt") (voc_cons (v_num hn) (voc_cons (vl "as") (voc_cons (v_name (nm_names iok.2.2)) (voc_cons (vl ";") voc_nil)))) (nn_num (ndl "as") (nn_cons (ndl "as") (nn_cons (nd_name (nm_names iok.2.2)) rfl))) (Nat.le_refl _)).mono (by decide)) (Tells.adopt hn iok.2.2) (same_upd nl) nl upd_same
    | move x y =>
      cases hd with
      | @tup q ys _ hq hqa =>
      cases hqa with | cons b1 b2 =>
      cases b2 with | cons b2 b3 =>
      cases b3 with | cons b3 b4 =>
      cases b4; cases b1; cases b2; cases b3
      refine ⟨_, rfl, q, _, _, _, rfl, rfl, hq, atI_nat (j := 0) rfl, rfl, _, rfl, ?_⟩
      rw [d4]
      refine iteF ⟨_, rfl, q, _, _, _, rfl, rfl, hq, atI_nat (j := 0) rfl, rfl, _, rfl, ?_⟩
      rw [f4]
      refine iteF ⟨_, rfl, q, _, _, _, rfl, rfl, hq, atI_nat (j := 0) rfl, rfl, _, rfl, ?_⟩
      rw [dec_self]
      refine iteT ⟨_, rfl, q, _, _, _, rfl, rfl, hq, atI_nat (j := 1) rfl, _, rfl, q, _, _, _, rfl, rfl, hq, atI_nat (j := 2) rfl, by show 5 ≤ sizeLine; decide, fun l nl => ?_⟩
      exact k l ["move", x, "to", y, ";"] _ ((((((blk1 (lw "move")).app (blkN (nm_names iok.1))).app (blk1 (lw "to"))).app (blkN (nm_names iok.2))).app (blk1 (lw ";"))).mono (by decide)) (Tells.move iok.1 iok.2) (same_upd nl) nl upd_same
theorem ok__pieces_of_kind {f : Addr} {fd : FuncData} (F : Fun K "_pieces_of_kind" "_pieces_of_kind" s__pieces_of_kind f fd) (T : Blt mg) : FnOk P w K mg base CX0 1 f fd ["name", "fields"] (spPKind K) := by
  refine F.ok sc__pieces_of_kind (fun vs H Q E h => ?_) (fun cdv A outer s H vs Q E hr h => ?_)
  · obtain ⟨a, kd, rfl, _⟩ := h
    rfl
  · obtain ⟨fa, kd, rfl, kok, hd, k⟩ := h
    refine ⟨_, (pss_cons (ps_set (i := 2) sc__pieces_of_kind.nd rfl (Or.inl rfl) (pe_lst (pa_cons pe_str (pa_cons (pv 0) (pa_cons pe_str pa_nil)))))
    (pss_cons (ps_for PassesOwn.never rfl (pi_tup (pv 1)) (pg_tup (by rfl) (pgs_cons (pg_name (i := 3) sc__pieces_of_kind.nd rfl (Or.inl rfl)) (pgs_cons (pg_name (i := 4) sc__pieces_of_kind.nd rfl (Or.inl rfl)) (pgs_cons (pg_name (i := 5) sc__pieces_of_kind.nd rfl (Or.inl rfl)) pgs_nil))))
      (C8.pss_cut (ps_set (i := 6) sc__pieces_of_kind.nd rfl (Or.inl rfl) (pe_ifExp (pt_cmpR op_eq (pv 4) pe_str (nomark _)) (pe_lst (pa_cons pe_str pa_nil)) (pe_lst (pa_cons pe_str (pa_cons (pv 4) pa_nil)))))
      (pss_one (ps_expr (pe_bm PySem.F.plainAttrs_list PySem.F.slot_list_extend PySem.F.type_list_extend mt_extend (pv 2) (pa_cons (pe_op op_cat (pe_op op_cat (pe_op op_cat (pe_lst (pa_cons (pv 3) (pa_cons pe_str pa_nil))) (pv 6)) (pe_callTy call_list_of (by rfl) T.b_list (by decide +kernel) (pa_cons (pv 5) pa_nil))) (pe_lst (pa_cons pe_str pa_nil))) pa_nil))))))
    (pss_one (ps_ret (pe_op op_cat (pv 2) (pe_lst (pa_cons pe_str pa_nil))))))), ?_⟩
    cases hd with
    | @tup _ fxs _ hfs hfa =>
    refine ⟨_, rfl, by show 3 ≤ sizeLine; decide, fun pl np => ?_⟩
    have hfl := dpAll_len hfa
    rw [List.length_map] at hfl
    have hf3 : fxs.length ≤ 3 := by have := kok.few; omega
    refine ⟨_, rfl, fa, rfl, ⟨_, same_seqT (same_upd np) hfs⟩, for_tup (K := K) (a := fa) (xs := fxs) (fun j σ H' => ∃ (fs : List Str) (e3 e4 e5 e6 : Option V), σ = [some (.str kd.name), some (.ref fa), some (.ref pl), e3, e4, e5, e6] ∧ Same H H' ∧ H' pl = some (.lst ((([("kind" : Str), kd.name, ("{" : Str)] : List Str) ++ fs).map V.str)) ∧ Blk fs (8 * j) ∧ Tells (PM.Cat PM.FieldT (kd.fields.take j)) fs)
      ⟨[], none, none, none, none, rfl, same_upd np, upd_same, Blk.nil, Tells.cat_nil⟩ (fun j σ H' _ ⟨_, _, _, _, _, _, h, _⟩ => same_seqT h hfs) ?_ ?_⟩
    · rintro j y σ H3 hj ⟨fs, e3, e4, e5, e6, rfl, s3, hp3, hb3, ht3⟩
      have hj3 : j < 3 := by
        have := (List.getElem?_eq_some_iff.mp hj).1
        omega
      obtain ⟨fd, hfd, hy⟩ := item_ofD (D := Fd.d) hfa hj
      have fok := kok.fields fd (List.mem_of_getElem? hfd)
      cases hy with
      | @tup q ys _ hq hqa =>
      cases hqa with | cons b1 b2 =>
      cases b2 with | cons b2 b3 =>
      cases b3 with | cons b3 b4 =>
      cases b4; cases b1; cases b2
      cases b3 with
      | @tup ma mxs _ hms hma =>
      have em : mxs = fd.marks.map V.str := ds_strs hma
      subst em
      have hml : fd.marks.length ≤ 3 := fok.marks.length_le
      have hmm : ∀ s ∈ fd.marks, s ∈ litW := fun s hs => mark_lit (fok.marks.subset hs)
      refine ⟨q, _, rfl, same_seqT s3 hq, rfl, _, _, rfl, _, _, rfl, _, _, rfl, rfl, ?_⟩
      refine ⟨fun σ' H' => ∃ sl : Addr, σ' = [some (.str kd.name), some (.ref fa), some (.ref pl), some (.str fd.name), some (.str fd.target), some (.ref ma), some (.ref sl)] ∧ Same H3 H' ∧ H' sl = some (.lst ((sortWs fd.target).map V.str)) ∧ (sortWs fd.target).length ≤ 2 ∧ ∀ s ∈ sortWs fd.target, dg s = false ∧ s ∈ vocL, ?_, ?_⟩
      · refine ⟨_, rfl, rfl, _, rfl, ite2 (fun hg => ?_) (fun hg => ?_)⟩
        · have hg : fd.target = ("" : Str) := V.str.inj (of_decide_eq_true hg)
          refine ⟨by show 1 ≤ sizeLine; decide, fun l nl => ⟨l, rfl, same_upd nl, ?_, ?_, ?_⟩⟩
          · unfold sortWs; rw [if_pos hg]; exact upd_same
          · unfold sortWs; rw [if_pos hg]; decide
          · unfold sortWs; rw [if_pos hg]
            intro s hs
            rw [List.mem_singleton.mp hs]
            exact ⟨ndl _, vl _⟩
        · have hg : ¬ fd.target = ("" : Str) := fun q => absurd (by rw [q]) (of_decide_eq_false (nt hg))
          have hnm := nm_target fok.target hg
          refine ⟨_, rfl, by show 2 ≤ sizeLine; decide, fun l nl => ⟨l, rfl, same_upd nl, ?_, ?_, ?_⟩⟩
          · unfold sortWs; rw [if_neg hg]; exact upd_same
          · unfold sortWs; rw [if_neg hg]; show 2 ≤ 2; decide
          · unfold sortWs; rw [if_neg hg]
            intro s hs
            rcases List.mem_cons.mp hs with rfl | hs
            · exact ⟨ndl _, vl _⟩
            · rw [List.mem_singleton.mp hs]
              exact ⟨nd_name hnm, v_name hnm⟩
      · rintro σ' H4 ⟨sl, rfl, s4, hsl, hs2, hsd⟩
        have hp4 := s4 _ _ hp3
        refine ⟨_, rfl, .inl ⟨rfl, _, SqL.of hp4⟩, ?_⟩
        refine ⟨_, rfl, by show 2 ≤ sizeLine; decide, fun l1 n1 => ?_⟩
        have s5 := same_upd (o := .lst [.str fd.name, .str ":"]) n1
        refine ⟨_, rfl, l1, sl, _, _, rfl, rfl, upd_same, s5 _ _ hsl, ?_, fun l2 n2 => ?_⟩
        · rw [List.length_map]; exact szl (by show 2 + _ ≤ _; omega)
        have s6 := same_upd (o := .lst ([.str fd.name, .str ":"] ++ (sortWs fd.target).map V.str)) n2
        refine ⟨_, rfl, ma, _, rfl, .inr (same_seqT (((s3.trans s4).trans s5).trans s6) hms), fun l3 n3 => ?_⟩
        have s7 := same_upd (o := .lst (fd.marks.map V.str)) n3
        refine ⟨l2, l3, _, _, rfl, rfl, s7 _ _ upd_same, upd_same, ?_, fun l4 n4 => ?_⟩
        · simp only [List.length_append, List.length_map]; exact szl (by show 2 + _ + _ ≤ _; omega)
        have s8 := same_upd (o := .lst ([.str fd.name, .str ":"] ++ (sortWs fd.target).map V.str ++ fd.marks.map V.str)) n4
        refine ⟨by show 1 ≤ sizeLine; decide, fun l5 n5 => ?_⟩
        have s9 := same_upd (o := .lst [.str ";"]) n5
        refine ⟨l4, l5, _, _, rfl, rfl, s9 _ _ upd_same, upd_same, ?_, fun l6 n6 => ?_⟩
        · simp only [List.length_append, List.length_map]; exact szl (by show 2 + _ + _ + 1 ≤ _; omega)
        have s10 := same_upd (o := .lst ([.str fd.name, .str ":"] ++ (sortWs fd.target).map V.str ++ fd.marks.map V.str ++ [.str ";"])) n6
        have s11 := ((s5.trans s6).trans (s7.trans s8)).trans (s9.trans s10)
        have hnd : ∀ s ∈ ([fd.name, ":"] : List Str) ++ sortWs fd.target ++ fd.marks ++ ([";"] : List Str), dg s = false ∧ s ∈ vocL := fun s hs => by
          rcases List.mem_append.mp hs with hs | hs
          · rcases List.mem_append.mp hs with hs | hs
            · rcases List.mem_append.mp hs with hs | hs
              · rcases List.mem_cons.mp hs with rfl | hs
                · exact ⟨nd_name (nm_field fok.name), v_name (nm_field fok.name)⟩
                · rw [List.mem_singleton.mp hs]
                  exact ⟨ndl _, vl _⟩
              · exact hsd s hs
            · exact ⟨nd_lit (hmm s hs), v_lit (hmm s hs)⟩
          · rw [List.mem_singleton.mp hs]
            exact ⟨ndl _, vl _⟩
        have hbf : Blk (([fd.name, ":"] : List Str) ++ sortWs fd.target ++ fd.marks ++ ([";"] : List Str)) 8 := ⟨fun s hs => (hnd s hs).2, nn_all fun s hs => (hnd s hs).1, fun s t e => (hnd s (by rw [e]; exact List.mem_cons_self)).1, by
          simp only [List.length_append, List.length_cons, List.length_nil]
          omega⟩
        have hb := hb3.app hbf
        refine ⟨pl, l6, _, _, rfl, rfl, s11 _ _ hp4, upd_same, ?_, ?_⟩
        · have q1 := hb3.len
          refine szl ?_
          simp only [List.length_map, List.length_append, List.length_cons, List.length_nil]
          omega
        · have ht := Tells.cat_snoc ht3 (Tells.field (ms := fd.marks) fok (by omega) fun _ => Iff.rfl)
          rw [← take_snoc hfd] at ht
          refine ⟨_, _, _, _, _, rfl, same_put ((s3.trans s4).trans s11) np, ?_, by rw [Nat.mul_succ]; exact hb, ht⟩
          rw [upd_same]
          simp only [List.map_append, List.append_assoc]
          rfl
    · rintro σ H3 ⟨fs, e3, e4, e5, e6, rfl, s3, hp3, hb3, ht3⟩
      rw [hfl, List.take_length] at ht3
      have h24 : Blk fs 24 := hb3.mono (by omega)
      refine ⟨_, rfl, by show 1 ≤ sizeLine; decide, fun l1 n1 => ?_⟩
      have s1 := same_upd (o := .lst [.str "}"]) n1
      refine ⟨pl, l1, _, _, rfl, rfl, s1 _ _ hp3, upd_same, ?_, fun l2 n2 => ?_⟩
      · have q1 := h24.len
        refine szl ?_
        simp only [List.length_map, List.length_append, List.length_cons, List.length_nil]
        omega
      · refine k l2 _ _ ((((((blk1 (lw "kind")).app (blkN (nm_kind kok.name))).app (blk1 (lw "{"))).app h24).app (blk1 (lw "}"))).mono (by decide)) (Tells.kind kok.name ht3) ((s3.trans s1).trans (same_upd n2)) ((s3.trans s1).free n2) ?_
        rw [upd_same]
        simp only [List.map_append, List.append_assoc]
        rfl
theorem ok__joined {a_WORDS : Addr} {f : Addr} {fd : FuncData} (F : Fun K "_joined" "_joined" s__joined f fd) (T : TTxt K mg a_WORDS) : FnOk P w K mg base CX0 1 f fd ["pieces"] spPJoin := by
  refine F.ok sc__joined (fun vs H Q E h => ?_) (fun cdv A outer s H vs Q E hr h => ?_)
  · obtain ⟨l, ws, rfl, _⟩ := h
    rfl
  · obtain ⟨l, ws, rfl, hl, hb, k⟩ := h
    refine ⟨_, (pss_cons (ps_set (i := 1) sc__joined.nd rfl (Or.inl rfl) (pe_lst pa_nil))
    (pss_cons (ps_set (i := 2) sc__joined.nd rfl (Or.inl rfl) pe_str)
    (pss_cons (ps_for PassesOwn.never rfl (pi_list (pv 0)) (pg_name (i := 3) sc__joined.nd rfl (Or.inl rfl))
      (C8.pss_cut (ps_if (PW.pt (pw_and (pt_cmpR op_in_sign (pe_ix ix_str (pv 2) pe_int (fun _ _ => rfl)) (C8.pe_gc rfl T.g_LETTERS) (by rfl)) (pw_and1 (pt_cmpR op_in_sign (pe_ix ix_str (pv 3) pe_int (fun _ _ => rfl)) (C8.pe_gc rfl T.g_NAME_CHARACTERS) (by rfl)))))
        (pss_one (ps_expr (pe_bm PySem.F.plainAttrs_list PySem.F.slot_list_append PySem.F.type_list_append mt_append (pv 1) (pa_cons pe_str pa_nil))))
        pss_nil)
      (pss_cons (ps_expr (pe_bm PySem.F.plainAttrs_list PySem.F.slot_list_append PySem.F.type_list_append mt_append (pv 1) (pa_cons (pv 3) pa_nil)))
      (pss_one (ps_set (i := 2) sc__joined.nd rfl (Or.inl rfl) (pv 3))))))
    (pss_one (ps_ret (pe_join pe_str (pv 1))))))), ?_⟩
    refine ⟨Nat.zero_le _, fun p np => ?_⟩
    have hpl : l ≠ p := ne_of_none hl np
    have hlen := hb.len
    refine ⟨_, rfl, l, rfl, ⟨_, SqL.of (same_upd np _ _ hl)⟩, for_list (K := K) (a := l) (xs := ws.map V.str) (fun i σ H' => ∃ (ps : List Str) (last : Str) (e3 : Option V), σ = [some (.ref l), some (.ref p), some (.str last), e3] ∧ Same H H' ∧ H' p = some (.lst (ps.map V.str)) ∧ ps.length ≤ 2 * i ∧ ((i = 0 ∧ last = (";" : Str)) ∨ ∃ u, ws.take i = u ++ [last]) ∧ last ∈ vocL ∧ Bt (ps.map cds).flatten (ws.take i) ∧ (ps.map (·.length)).sum ≤ 21 * i)
      ⟨[], ";", none, rfl, same_upd np, upd_same, Nat.le_refl _, .inl ⟨rfl, rfl⟩, vl _, Bt.nil, Nat.le_refl _⟩ (fun i σ H' _ ⟨_, _, _, _, h, _⟩ => SqL.of (h _ _ hl)) ?_ ?_⟩
    · rintro i y σ H1 hi ⟨ps, last, e3, rfl, s1, hp1, hps, hlast, hlv, hB, hsum⟩
      have hi' := (List.getElem?_eq_some_iff.mp hi).1
      rw [List.length_map] at hi'
      rw [List.getElem?_map] at hi
      cases e : ws[i]? with
      | none => rw [e] at hi; cases hi
      | some x =>
      rw [e] at hi
      have hi : V.str x = y := Option.some.inj hi
      subst hi
      have hxv := hb.voc x (List.mem_of_getElem? e)
      obtain ⟨c, hc⟩ := word_head hlv
      obtain ⟨d, hd⟩ := word_head hxv
      have hlx := voc_len hxv
      have hll := voc_len hlv
      have hadj : ∀ u, ws.take i = u ++ [last] → (dg last && dg x) = false := fun u hu => by
        refine nn_adj (u := u) (r := ws.drop (i + 1)) ?_
        have : ws = u ++ last :: x :: ws.drop (i + 1) := by
          have h1 := List.take_append_drop i ws
          rw [drop_get e, hu] at h1
          exact h1.symm.trans (by simp)
        rw [← this]
        exact hb.nn
      have sizeOk : ∀ {s : Str}, s.length ≤ 20 → s.length ≤ sizeLine := fun h => szl (by omega)
      -- is a blank put between?
      refine ⟨fun σ' H' => ∃ ps' : List Str, σ' = [some (.ref l), some (.ref p), some (.str last), some (.str x)] ∧ Same H H' ∧ H' p = some (.lst (ps'.map V.str)) ∧ ps'.length ≤ 2 * i + 1 ∧ Bt ((ps'.map cds).flatten ++ cds x) (ws.take i ++ [x]) ∧ (ps'.map (·.length)).sum ≤ 21 * i + 1, ?_, ?_⟩
      · have stay : (Tk.letter c = true → Tk.inner d = false) → ∃ ps' : List Str, [some (V.ref l), some (V.ref p), some (V.str last), some (V.str x)] = [some (.ref l), some (.ref p), some (.str last), some (.str x)] ∧ Same H H1 ∧ H1 p = some (.lst (ps'.map V.str)) ∧ ps'.length ≤ 2 * i + 1 ∧ Bt ((ps'.map cds).flatten ++ cds x) (ws.take i ++ [x]) ∧ (ps'.map (·.length)).sum ≤ 21 * i + 1 := fun hq => by
          refine ⟨ps, rfl, s1, hp1, by omega, ?_, by omega⟩
          have := hB.snoc (s := x) (g := []) (voc_word hxv) (by decide) fun u s' hu => by
            have hs' : s' = last := by
              rcases hlast with ⟨rfl, _⟩ | ⟨u', hu'⟩
              · simp at hu
              · rw [hu] at hu'
                have := List.append_inj_right' hu' rfl
                injection this with h1 _
            subst hs'
            exact stops_free hc hd hq (hadj u hu)
          simpa using this
        have ln : (⟨#[c]⟩ : Str).length ≤ 20 := by show 1 ≤ 20; decide
        refine ⟨_, rfl, _, _, c, rfl, rfl, sizeOk hll, atI_nat (j := 0) hc, _, _, rfl, rfl, _, rfl, ?_⟩
        rw [in_letters]
        cases hL : Tk.letter c with
        | false => exact iteF (iteF (stay fun q => by rw [hL] at q; cases q))
        | true =>
          refine iteT ⟨_, rfl, _, _, d, rfl, rfl, sizeOk hlx, atI_nat (j := 0) hd, _, _, rfl, rfl, _, rfl, ?_⟩
          rw [in_names]
          cases hI : Tk.inner d with
          | false => exact iteF (stay fun _ => hI)
          | true =>
            refine iteT ⟨_, rfl, .inl ⟨rfl, _, SqL.of hp1⟩, p, _, _, rfl, rfl, hp1, ?_, ?_⟩
            · rw [List.length_map]; exact Nat.lt_of_le_of_lt (show ps.length ≤ 2000 by omega) (by decide)
            · refine ⟨ps ++ ([" "] : List Str), rfl, same_put s1 np, by rw [upd_same, List.map_append]; rfl, by rw [List.length_append]; exact Nat.succ_le_succ hps, ?_, ?_⟩
              · have := hB.snoc (s := x) (g := [32]) (voc_word hxv) (by decide) fun u s' hu => stops_gap (by decide) (by decide)
                have e2 : ((ps ++ [(" " : Str)]).map cds).flatten = (ps.map cds).flatten ++ [32] := by
                  rw [List.map_append, List.flatten_append]
                  have : ([(" " : Str)].map cds).flatten = [32] := by decide +kernel
                  rw [this]
                rw [e2]
                exact this
              · rw [List.map_append, List.sum_append]
                have : ([(" " : Str)].map (·.length)).sum = 1 := by decide +kernel
                rw [this]
                omega
      · rintro σ' H2 ⟨ps', rfl, s2, hp2, hps', hB', hsum'⟩
        refine ⟨_, rfl, .inl ⟨rfl, _, SqL.of hp2⟩, _, rfl, p, _, _, rfl, rfl, hp2, ?_, ?_⟩
        · rw [List.length_map]; exact Nat.lt_of_le_of_lt (show ps'.length ≤ 2001 by omega) (by decide)
        · refine ⟨_, rfl, ps' ++ [x], x, _, rfl, same_put s2 np, by rw [upd_same, List.map_append]; rfl, by rw [List.length_append]; show ps'.length + 1 ≤ _; omega, .inr ⟨_, take_snoc e⟩, hxv, ?_, ?_⟩
          · rw [take_snoc e, List.map_append, List.flatten_append]
            have : ([x].map cds).flatten = cds x := by simp
            rw [this]
            exact hB'
          · rw [List.map_append, List.sum_append]
            show _ + (x.length + 0) ≤ _
            omega
    · rintro σ H1 ⟨ps, last, e3, rfl, s1, hp1, hps, hlast, hlv, hB, hsum⟩
      rw [List.length_map, List.take_length] at hB
      rw [List.length_map] at hps hsum
      refine ⟨⟨_, rfl⟩, _, rfl, _, p, ps, rfl, rfl, .inl (SqL.of hp1), ?_, ?_⟩
      · rw [empty_eq]
        show (ps.map (·.length)).sum + ps.length * 0 ≤ _
        omega
      · have e : (⟨(Txt.join (Str.ofString "") ps).cps.toList.toArray⟩ : Str) = Txt.join (Str.ofString "") ps := rfl
        have ej := cds_join ps _ empty_eq
        rw [← e]
        refine k _ H1 ?_ (by rw [show (Txt.join (Str.ofString "") ps).cps.toList = (ps.map cds).flatten from ej]; exact hB) s1
        have : (Txt.join (Str.ofString "") ps).cps.toList.length = (Txt.join (Str.ofString "") ps).length := by simp [Str.length]
        rw [this, join_len ps _ empty_eq]
        exact hsum
theorem ok_print_tree {f : Addr} {fd : FuncData} (F : Fun K "print_tree" "print_tree" s_print_tree f fd) (T : Blt mg) (c__pieces_of_kind : C8.Cal P w K mg base 1 "_pieces_of_kind" (spPKind K) []) (c__pieces_of_item : C8.Cal P w K mg base 4 "_pieces_of_item" (spPItem K) []) (c__joined : C8.Cal P w K mg base 1 "_joined" spPJoin []) : FnOk P w K mg base CX0 5 f fd ["tree"] (spPrint K) := by
  refine F.ok sc_print_tree (fun vs H Q E h => ?_) (fun cdv A outer s H vs Q E hr h => ?_)
  · obtain ⟨v, T, rfl, _⟩ := h
    rfl
  · obtain ⟨v, tr, rfl, hok, hd, k⟩ := h
    refine ⟨_, (pss_cons (ps_asg (pv 0) (pg_tup (by rfl) (pgs_cons (pg_name (i := 1) sc_print_tree.nd rfl (Or.inl rfl)) (pgs_cons (pg_name (i := 2) sc_print_tree.nd rfl (Or.inl rfl)) pgs_nil))))
    (pss_cons (ps_set (i := 3) sc_print_tree.nd rfl (Or.inl rfl) (pe_lst pa_nil))
    (pss_cons (ps_for PassesOwn.never rfl (pi_tup (pv 1)) (pg_tup (by rfl) (pgs_cons (pg_name (i := 4) sc_print_tree.nd rfl (Or.inl rfl)) (pgs_cons (pg_name (i := 5) sc_print_tree.nd rfl (Or.inl rfl)) pgs_nil)))
      (pss_one (ps_expr (pe_bm PySem.F.plainAttrs_list PySem.F.slot_list_extend PySem.F.type_list_extend mt_extend (pv 3) (pa_cons (C8.pe_c c__pieces_of_kind hr (by first | decide | omega) rfl (pa_cons (pv 4) (pa_cons (pv 5) pa_nil))) pa_nil)))))
    (pss_cons (ps_for PassesOwn.never rfl (pi_tup (pv 2)) (pg_name (i := 6) sc_print_tree.nd rfl (Or.inl rfl))
      (pss_one (ps_expr (pe_bm PySem.F.plainAttrs_list PySem.F.slot_list_extend PySem.F.type_list_extend mt_extend (pv 3) (pa_cons (C8.pe_c c__pieces_of_item hr (by first | decide | omega) rfl (pa_cons (pv 6) pa_nil)) pa_nil)))))
    (pss_one (ps_ret (C8.pe_c c__joined hr (by first | decide | omega) rfl (pa_cons (pv 3) pa_nil)))))))), ?_⟩
    cases hd with
    | @tup a xs _ hs ha =>
    cases ha with | cons a1 a2 =>
    cases a2 with | cons a2 a3 =>
    cases a3
    cases a1 with
    | @tup ka kxs _ hks hka =>
    cases a2 with
    | @tup ia ixs _ his hia =>
    have hkl := dpAll_len hka
    have hil := dpAll_len hia
    rw [List.length_map] at hkl hil
    have hk3 : kxs.length ≤ 3 := by have := hok.fewK; omega
    have hi5 : ixs.length ≤ 5 := by have := hok.fewI; omega
    refine ⟨_, rfl, a, _, rfl, hs, rfl, _, _, rfl, _, _, rfl, rfl, ?_⟩
    refine ⟨Nat.zero_le _, fun p np => ?_⟩
    refine ⟨_, rfl, ka, rfl, ⟨_, same_seqT (same_upd np) hks⟩, for_tup (K := K) (a := ka) (xs := kxs) (fun i σ H' => ∃ (ws : List Str) (e4 e5 : Option V), σ = [some (.ref a), some (.ref ka), some (.ref ia), some (.ref p), e4, e5, none] ∧ Same H H' ∧ H' p = some (.lst (ws.map V.str)) ∧ Blk ws (40 * i) ∧ Tells (PM.Cat PM.KindT (tr.kinds.take i)) ws)
      ⟨[], none, none, rfl, same_upd np, upd_same, Blk.nil, Tells.cat_nil⟩ (fun i σ H' _ ⟨_, _, _, _, h, _⟩ => same_seqT h hks) ?_ ?_⟩
    · rintro i y σ H1 hi ⟨ws, e4, e5, rfl, s1, hp1, hb1, ht1⟩
      have hi3 := (List.getElem?_eq_some_iff.mp hi).1
      obtain ⟨kd, hkd, hy⟩ := item_ofD (D := Kd.d) hka hi
      have kok := hok.kinds kd (List.mem_of_getElem? hkd)
      cases hy with
      | @tup q ys _ hq hqa =>
      cases hqa with | cons b1 b2 =>
      cases b2 with | cons b2 b3 =>
      cases b3; cases b1
      have b2' := b2
      cases b2 with
      | @tup fa fxs _ hfs hfa =>
      refine ⟨q, _, rfl, same_seqT s1 hq, rfl, _, _, rfl, _, _, rfl, rfl, ?_⟩
      refine ⟨_, rfl, .inl ⟨rfl, _, SqL.of hp1⟩, _, rfl, _, rfl, fa, kd, rfl, kok, dp_mono s1 _ _ b2', fun l bs H2 hb2 ht2 s2 nl hl2 => ?_⟩
      refine ⟨p, l, _, _, rfl, rfl, s2 _ _ hp1, hl2, ?_, ?_⟩
      · have q1 := hb1.len
        have q2 := hb2.len
        refine szl ?_
        simp only [List.length_map]
        omega
      · have ht := Tells.cat_snoc ht1 ht2
        rw [← take_snoc hkd] at ht
        exact ⟨_, _, _, rfl, same_put (s1.trans s2) np, by rw [upd_same, List.map_append], by rw [Nat.mul_succ]; exact hb1.app hb2, ht⟩
    · rintro σ H1 ⟨ws, e4, e5, rfl, s1, hp1, hb1, ht1⟩
      rw [hkl, List.take_length] at ht1
      have hb1 : Blk ws 120 := hb1.mono (by omega)
      refine ⟨_, rfl, ia, rfl, ⟨_, same_seqT s1 his⟩, for_tup (K := K) (a := ia) (xs := ixs) (fun i σ H' => ∃ (is : List Str) (e6 : Option V), σ = [some (.ref a), some (.ref ka), some (.ref ia), some (.ref p), e4, e5, e6] ∧ Same H H' ∧ H' p = some (.lst ((ws ++ is).map V.str)) ∧ Blk is (40 * i) ∧ Tells (PM.Cat PM.ItemT (tr.items.take i)) is)
        ⟨[], none, rfl, s1, by rw [List.append_nil]; exact hp1, Blk.nil, Tells.cat_nil⟩ (fun i σ H' _ ⟨_, _, _, h, _⟩ => same_seqT h his) ?_ ?_⟩
      · rintro i y σ H2 hi ⟨is, e6, rfl, s2, hp2, hb2, ht2⟩
        have hi5' := (List.getElem?_eq_some_iff.mp hi).1
        obtain ⟨im, him, hy⟩ := item_ofD (D := Im.d) hia hi
        have iok := hok.items im (List.mem_of_getElem? him)
        refine ⟨_, rfl, .inl ⟨rfl, _, SqL.of hp2⟩, _, rfl, y, im, rfl, iok, dp_mono s2 _ _ hy, fun l bs H3 hb3 ht3 s3 nl hl3 => ?_⟩
        refine ⟨p, l, _, _, rfl, rfl, s3 _ _ hp2, hl3, ?_, ?_⟩
        · have q1 := hb1.len
          have q2 := hb2.len
          have q3 := hb3.len
          refine szl ?_
          simp only [List.length_map, List.length_append]
          omega
        · have ht := Tells.cat_snoc ht2 ht3
          rw [← take_snoc him] at ht
          exact ⟨_, _, rfl, same_put (s2.trans s3) np, by rw [upd_same, ← List.append_assoc, List.map_append (l₁ := ws ++ is)], by rw [Nat.mul_succ]; exact hb2.app hb3, ht⟩
      · rintro σ H2 ⟨is, e6, rfl, s2, hp2, hb2, ht2⟩
        rw [hil, List.take_length] at ht2
        have hb2 : Blk is 200 := hb2.mono (by omega)
        have hb := hb1.app hb2
        refine ⟨_, rfl, p, _, rfl, hp2, hb.mono (by decide), fun z H3 hz hB s3 => ?_⟩
        refine k z _ H3 ?_ hB (Tells.tree ht1 ht2) (s2.trans s3)
        have := hb.len
        omega

end
end K02
namespace K02
open PySem PySem.Spec PyProof.Rows L2 LB
theorem okD_vl {x : Vl} : okD 1 x.d := by
  cases x <;> exact ⟨by simp, fun d hd => by simp at hd; rcases hd with rfl | hd <;> first | exact True.intro | (rcases hd with rfl | rfl <;> exact True.intro) | (subst hd; exact True.intro)⟩
theorem okD_val {p : Str × Vl} : okD 2 (valD p) := by
  refine ⟨by simp, fun d hd => ?_⟩
  rcases List.mem_cons.mp hd with rfl | hd
  · exact True.intro
  rw [List.mem_singleton.mp hd]
  exact okD_vl
theorem okD_im {i : Im} (h : i.ok) : okD 4 i.d := by
  cases i with
  | thing n c k vs =>
    have h5 := h.2.2.2.2
    refine ⟨by simp, fun d hd => ?_⟩
    rcases List.mem_cons.mp hd with rfl | hd
    · exact True.intro
    rcases List.mem_cons.mp hd with rfl | hd
    · exact True.intro
    rcases List.mem_cons.mp hd with rfl | hd
    · cases c <;> exact True.intro
    rcases List.mem_cons.mp hd with rfl | hd
    · exact True.intro
    rw [List.mem_singleton.mp hd]
    refine ⟨by rw [List.length_map]; omega, fun d hd => ?_⟩
    obtain ⟨p, _, rfl⟩ := List.mem_map.mp hd
    exact okD_val
  | keep x =>
    refine ⟨by simp, fun d hd => ?_⟩
    rcases List.mem_cons.mp hd with rfl | hd
    · exact True.intro
    rw [List.mem_singleton.mp hd]
    exact True.intro
  | most x =>
    refine ⟨by simp, fun d hd => ?_⟩
    rcases List.mem_cons.mp hd with rfl | hd
    · exact True.intro
    rw [List.mem_singleton.mp hd]
    exact True.intro
  | adopt x y =>
    refine ⟨by simp, fun d hd => ?_⟩
    rcases List.mem_cons.mp hd with rfl | hd
    · exact True.intro
    rcases List.mem_cons.mp hd with rfl | hd
    · exact True.intro
    rw [List.mem_singleton.mp hd]
    exact True.intro
  | move x y =>
    refine ⟨by simp, fun d hd => ?_⟩
    rcases List.mem_cons.mp hd with rfl | hd
    · exact True.intro
    rcases List.mem_cons.mp hd with rfl | hd
    · exact True.intro
    rw [List.mem_singleton.mp hd]
    exact True.intro
theorem okD_fd {f : Fd} (h : f.ok) : okD 2 f.d := by
  have hl : f.marks.length ≤ 3 := h.marks.length_le
  refine ⟨by simp, fun d hd => ?_⟩
  rcases List.mem_cons.mp hd with rfl | hd
  · exact True.intro
  rcases List.mem_cons.mp hd with rfl | hd
  · exact True.intro
  rw [List.mem_singleton.mp hd]
  refine ⟨by unfold strD; rw [List.length_map]; omega, fun d hd => ?_⟩
  obtain ⟨p, _, rfl⟩ := List.mem_map.mp hd
  exact True.intro
theorem okD_kd {k : Kd} (h : k.ok) : okD 4 k.d := by
  have hl := h.few
  refine ⟨by simp, fun d hd => ?_⟩
  rcases List.mem_cons.mp hd with rfl | hd
  · exact True.intro
  rw [List.mem_singleton.mp hd]
  refine ⟨by rw [List.length_map]; omega, fun d hd => ?_⟩
  obtain ⟨f, hf, rfl⟩ := List.mem_map.mp hd
  exact okD_fd (h.fields f hf)
theorem okD_tree {T : LB.Tree} (h : T.ok) : okD 6 T.d := by
  have h1 := h.fewK
  have h2 := h.fewI
  refine ⟨by simp, fun d hd => ?_⟩
  rcases List.mem_cons.mp hd with rfl | hd
  · refine ⟨by rw [List.length_map]; omega, fun d hd => ?_⟩
    obtain ⟨f, hf, rfl⟩ := List.mem_map.mp hd
    exact okD_kd (h.kinds f hf)
  rw [List.mem_singleton.mp hd]
  refine ⟨by rw [List.length_map]; omega, fun d hd => ?_⟩
  obtain ⟨f, hf, rfl⟩ := List.mem_map.mp hd
  exact okD_im (h.items f hf)
/-! ### where a text fails -/
def moreL : List Str := ["x", "}", "7", "fixed", "?", ";"]
def formS (s : Str) : Str := match Tk.sortOf isWord (cds s) with | .name => "NAME" | .number => "NUMBER" | _ => s
theorem tf_form {s : Str} {t : PM.Tok} (h : TF s t) : t.form = formS s := by
  unfold PM.Tok.form formS
  rw [h.2, h.str]
  try (cases Tk.sortOf isWord (cds s) <;> rfl)
theorem more_ok : ∀ s ∈ moreL, wordB (cds s) = true ∧ formS s ∉ (["thing", "keep", "most", "adopt", "move"] : List Str) ∧ ¬ formS s = ("kind" : Str) ∧ ¬ formS s = ("" : Str) ∧ (cds s).length ≤ 10 := by decide +kernel
theorem tree_fine {T : LB.Tree} {N : Nat} {z : List Nat} {ws : List Str} (hN : 50000 < N) (h : T.ok) (hB : Bt z ws) (hT : Tells (PM.TreeT T) ws) : PM.tree N (ts z 0) = .ok T [] :=
  PM.tree_ok (by omega) (by have := h.fewK; omega) (by have := h.fewI; omega) (fun k hk => by have := (h.kinds k hk).few; omega) (hT _ (ts_bt hB))
/-- the text with this word more fails there -/
def Fails (N : Nat) (z : List Nat) (s : Str) (d : Int) : Prop := ∃ R, PM.tree N (ts (z ++ [32] ++ cds s) 0) = .bad R ∧ (place (z ++ [32] ++ cds s) R : Int) = (z.length : Int) + d
theorem fails_more {T : LB.Tree} {N : Nat} {z : List Nat} {ws : List Str} {s : Str} (hN : 50000 < N) (h : T.ok) (hB : Bt z ws) (hT : Tells (PM.TreeT T) ws) (hs : s ∈ moreL) : Fails N z s 1 := by
  obtain ⟨hw, h1, h2, h3, _⟩ := more_ok s hs
  obtain ⟨A, t, e, hA, ht, hst⟩ := ts_more hB (word_of hw)
  have hf := tf_form ht
  refine ⟨[t], ?_, ?_⟩
  · rw [e]
    exact PM.tree_bad (by omega) (by have := h.fewK; omega) (by have := h.fewI; omega) (fun k hk => by have := (h.kinds k hk).few; omega) (hT _ hA) (by show ¬ t.form = _; rw [hf]; exact h2) (by show ¬ t.form = _; rw [hf]; exact h3) (PM.item_bad (by rw [hf]; exact h1))
  · show ((t.start : Nat) : Int) = _
    rw [hst]
    omega
theorem fails_keep {T : LB.Tree} {N : Nat} {z : List Nat} {ws : List Str} (hN : 50000 < N) (h : T.ok) (hB : Bt z ws) (hT : Tells (PM.TreeT T) ws) : Fails N z "keep a" 7 := by
  have w1 : Word (cds ("keep" : Str)) := word_of (by decide +kernel)
  have w2 : Word (cds ("a" : Str)) := word_of (by decide +kernel)
  obtain ⟨hB2, hend⟩ := end_more hB w1 w2
  have e : z ++ [32] ++ cds ("keep a" : Str) = z ++ [32] ++ cds ("keep" : Str) ++ [32] ++ cds ("a" : Str) := by
    have : cds ("keep a" : Str) = cds ("keep" : Str) ++ [32] ++ cds ("a" : Str) := by decide +kernel
    rw [this]
    simp [List.append_assoc]
  have l1 : (cds ("keep" : Str)).length = 4 := by decide +kernel
  have l2 : (cds ("a" : Str)).length = 1 := by decide +kernel
  unfold Fails
  rw [e]
  obtain ⟨A', y, ey, hA', hy⟩ := TFs.split (ts_bt hB2)
  obtain ⟨A, x, rfl, hA, hx⟩ := TFs.split hA'
  cases hx with
  | @cons _ t1 _ _ a1 b1 =>
  cases b1
  cases hy with
  | @cons _ t2 _ _ a2 b2 =>
  cases b2
  have f1 := sy_lit (lw "keep") t1 a1
  have f2 := sy_name (s := "a") (by decide +kernel) t2 a2
  refine ⟨[], ?_, ?_⟩
  · rw [ey, List.append_assoc]
    have k1 : ¬ ("keep" : Str) = ("kind" : Str) := by decide +kernel
    have k2 : ¬ ("keep" : Str) = ("" : Str) := by decide +kernel
    exact PM.tree_bad (by omega) (by have := h.fewK; omega) (by have := h.fewI; omega) (fun k hk => by have := (h.kinds k hk).few; omega) (hT _ hA) (by show ¬ t1.form = _; rw [f1.1]; exact k1) (by show ¬ t1.form = _; rw [f1.1]; exact k2) (PM.item_cut f1 f2)
  · show ((endOf _ : Nat) : Int) = _
    rw [hend, l1, l2]
    omega
def spFails (N : Nat) : Sp := fun vs H Q _ => ∃ (l : List Nat) (R : List PM.Tok), vs = [txt l, .int (place l R : Int)] ∧ l.length ≤ 50000 ∧ PM.tree N (ts l 0) = .bad R ∧ ∀ H', Same H H' → Q (.bl true) H'
def spLaw (K : PySem.W.Frag) : Sp := fun vs H Q _ => ∃ (a : Addr) (ns : List Int), vs = [.ref a] ∧ SqL K H a (ns.map V.int) ∧ ns.length ≤ 63 ∧ ∀ H', Q (.bl true) H'
section
variable {P : Program} {w : World} {K : PySem.W.Frag} {mg : Str → Option Value} {base : Heap} {a_WORDS a_FORMS C CE fE LE : Addr} {es : Array DictEntry} {n : Nat}
theorem ok__law_fails {N : Nat} {f : Addr} {fd : FuncData} (F : Fun K "_law_fails" "_law_fails" s__law_fails f fd) (T : RTxt P w K mg a_WORDS a_FORMS C CE fE es n) (IT : IsTxt K mg CE LE) (c_read_tree : CalX P w K mg base 10 "read_tree" (spTree K CE N)) (c__law_same : LW.CalW P w K mg base 2 "_law_same" spSameI) : FnOk P w K mg base CX0 11 f fd ["text", "place"] (spFails N) := by
  refine F.ok sc__law_fails (fun vs H Q E h => ?_) (fun cdv A outer s H vs Q E hr h => ?_)
  · obtain ⟨l, R, rfl, _⟩ := h
    rfl
  · obtain ⟨l, R, rfl, hl, hbad, k⟩ := h
    refine ⟨_, (pss_cons (ps_try_as (i := 2) (tb := fun W => tDrop (tCallS (spTree K CE N) (WE W) (tCons (tVar 0) tNil))) (ts := fun a cls d => tRet (tAndV (tCB (rIsSup CE a cls d LE) (tCons (tVar 2) (tCons (tC (.ref LE)) tNil))) (tCall spSameI [] C8.E0 (tCons (tBySup CE a cls d (tVar 2)) (tCons (tVar 1) tNil))))) (Wout := fun _ _ _ _ => False) rfl rfl sc__law_fails.nd rfl rfl ⟨rfl, by decide, Or.inl T.sup.gC⟩ takes0
      (fun W pn xe tk _ => (pss_one (ps_expr (pe_cxS c_read_tree hr (by first | decide | omega) rfl (fun q => passAt tk q) (pa_cons (pv 0) pa_nil)))))
      (fun a oe cls d pn hz hf => (pss_one (ps_ret (pe_and (pe_callB (call_isSup IT hz hf) (by rfl) IT.b_isinstance (by decide +kernel) (pa_cons (pv 2) (pa_cons (C8.pe_gc rfl IT.g) pa_nil))) (pe_one (LW.pe_cw c__law_same (LW.roomW hr) (by first | decide | omega) rfl (pa_cons (pe_bySup T.sup hz hf (pv 2)) (pa_cons (pv 1) pa_nil)))))))))
    (pss_one (ps_ret pe_bl))), ?_⟩
    refine ⟨_, rfl, l, rfl, hl, ?_⟩
    unfold PM.Wp
    rw [hbad]
    refine fun d H' nd s hd => ⟨true, T.sup.te, fun _ a ha => ?_, fun q => Bool.noConfusion q⟩
    refine ⟨_, rfl, ⟨rfl, rfl, ⟨d, _, rfl, hd⟩, _, rfl, ?_⟩⟩
    refine ⟨_, rfl, rfl, rfl, d, _, rfl, hd, _, rfl, _, rfl, k H' s⟩
theorem ok_law {N : Nat} (hN : 50000 < N) {f : Addr} {fd : FuncData} (F : Fun K "law" "law" s_law f fd) (T : Blt mg) (c__law_tape : C8.Cal P w K mg base 1 "_law_tape" (spTape K) []) (c__law_take : C8.Cal P w K mg base 1 "_law_take" spTake []) (c__law_any_tree : C8.Cal P w K mg base 3 "_law_any_tree" (spAnyTree K) [])
    (c__law_put_tree : C8.Cal P w K mg base 4 "_law_put_tree" (spPutTree2 K) []) (c_read_tree : CalX P w K mg base 10 "read_tree" (spTree K CE N)) (c_print_tree : C8.Cal P w K mg base 5 "print_tree" (spPrint K) []) (c__law_fails : C8.Cal P w K mg base 11 "_law_fails" (spFails N) [])
    (c__law_same : C8.Cal P w K mg base 14 "_law_same" (spSame K 6) []) : FnOk P w K mg base CX0 15 f fd ["script"] (spLaw K) := by
  refine F.ok sc_law (fun vs H Q E h => ?_) (fun cdv A outer s H vs Q E hr h => ?_)
  · obtain ⟨a, ns, rfl, _⟩ := h
    rfl
  · obtain ⟨a, ns, rfl, hS, hlen, k⟩ := h
    have hu := hu_of hr
    refine ⟨_, (pss_cons (ps_set (i := 1) sc_law.nd rfl (Or.inl rfl) (C8.pe_c c__law_tape hr (by first | decide | omega) rfl (pa_cons (pv 0) pa_nil)))
    (pss_cons (ps_set (i := 2) sc_law.nd rfl (Or.inl rfl) (C8.pe_c c__law_any_tree hr (by first | decide | omega) rfl (pa_cons (pv 1) pa_nil)))
    (pss_cons (ps_set (i := 3) sc_law.nd rfl (Or.inl rfl) (pe_disp (pps_cons pe_str pe_str pps_nil) (by rfl) (by rfl) (fun z => by cases z) (by decide)))
    (pss_cons (ps_expr (C8.pe_c c__law_put_tree hr (by first | decide | omega) rfl (pa_cons (pv 1) (pa_cons (pv 3) (pa_cons (pv 2) pa_nil)))))
    (pss_cons (ps_if (PW.pt (pw_or (pt_not (pt_val (C8.pe_c c__law_same hr (by first | decide | omega) rfl (pa_cons (pe_cx c_read_tree hr (by first | decide | omega) rfl pass_no (pa_cons (pe_dget hu (pv 3) pe_str (fun _ _ => rfl)) pa_nil)) (pa_cons (pv 2) pa_nil))))) (pw_or1 (pt_not (pt_val (C8.pe_c c__law_same hr (by first | decide | omega) rfl (pa_cons (pe_cx c_read_tree hr (by first | decide | omega) rfl pass_no (pa_cons (C8.pe_c c_print_tree hr (by first | decide | omega) rfl (pa_cons (pv 2) pa_nil)) pa_nil)) (pa_cons (pv 2) pa_nil))))))))
      (pss_one (ps_ret pe_bl))
      pss_nil)
    (pss_cons (ps_set (i := 4) sc_law.nd rfl (Or.inl rfl) (pe_ix ix_list (pe_lst (pa_cons pe_str (pa_cons pe_str (pa_cons pe_str (pa_cons pe_str (pa_cons pe_str (pa_cons pe_str pa_nil))))))) (C8.pe_c c__law_take hr (by first | decide | omega) rfl (pa_cons (pv 1) (pa_cons pe_int pa_nil))) (fun _ _ => rfl)))
    (pss_cons (ps_for PassesOwn.never rfl (pi_list (pe_lst (pa_cons (pe_tup (pa_cons (pv 4) (pa_cons pe_int pa_nil))) (pa_cons (pe_tup (pa_cons pe_str (pa_cons pe_int pa_nil))) pa_nil)))) (pg_tup (by rfl) (pgs_cons (pg_name (i := 5) sc_law.nd rfl (Or.inl rfl)) (pgs_cons (pg_name (i := 6) sc_law.nd rfl (Or.inl rfl)) pgs_nil)))
      (pss_one (ps_if (pt_not (pt_val (C8.pe_c c__law_fails hr (by first | decide | omega) rfl (pa_cons (pe_op op_add_str (pe_op op_add_str (pe_dget hu (pv 3) pe_str (fun _ _ => rfl)) pe_str) (pv 5)) (pa_cons (pe_op op_add (pe_callB call_len_str (by rfl) T.b_len (by decide +kernel) (pa_cons (pe_dget hu (pv 3) pe_str (fun _ _ => rfl)) pa_nil)) (pv 6)) pa_nil)))))
        (pss_one (ps_ret pe_bl))
        pss_nil)))
    (pss_one (ps_ret pe_bl))))))))), ?_⟩
    refine ⟨_, rfl, a, ns, rfl, hS, hlen, fun t c cs H1 s1 nt nc W => ?_⟩
    have L1 : Live t c cs [t] H1 := ⟨W, fun b hb => by
      obtain ⟨kv, e, _⟩ := W.dc
      rw [List.mem_singleton.mp hb, e]
      simp, List.mem_singleton.mpr rfl, fun q => W.ne (List.mem_singleton.mp q)⟩
    refine ⟨_, rfl, t, c, cs, [t], rfl, L1, fun v tr H3 tok L3 o3 d3 => ?_⟩
    refine fun o no => ⟨upd_same, [(kText, txt [])], ?_, by show 1 ≤ 15; decide, ?_⟩
    · show [(V.str (Str.ofString "text"), V.str (Str.ofString ""))] = [(V.str (Str.ofString "text"), V.str ⟨([] : List Nat).toArray⟩)]
      rw [empty_eq]
    have ot : o ≠ t := by
      obtain ⟨kv, e, _⟩ := L3.tape.dc
      exact (ne_of_none e no).symm
    have P4 : PS t c cs [o, t] o [] (upd (upd H3 o (.dK [])) o (.dK (mergeK [] [(kText, txt [])]))) := by
      rw [upd_upd]
      exact ⟨L3.open_ no, by simp, ot, by rw [upd_same]; rfl⟩
    have d4 : DpS K [o, t] (upd (upd H3 o (.dK [])) o (.dK (mergeK [] [(kText, txt [])]))) v tr.d := by
      rw [upd_upd]
      exact dp_mono (wo_open no) _ _ d3
    generalize upd (upd H3 o (.dK [])) o (.dK (mergeK [] [(kText, txt [])])) = H4 at P4 d4 ⊢
    refine ⟨_, rfl, _, rfl, _, rfl, t, c, cs, [o, t], o, v, tr, rfl, P4, tok, d4, fun z ws H5 hz hB hT P5 o5 => ?_⟩
    have d5 := dpS_in (P4.dp o5 d4)
    have hfine := tree_fine hN tok hB hT
    -- the law's text is read as the tree
    refine ⟨_, rfl, o, _, rfl, dg_text P5.at_, z, rfl, by omega, ?_⟩
    unfold PM.Wp
    rw [hfine]
    refine fun v1 H6 s6 e6 => ⟨_, rfl, v1, v, tr.d, rfl, e6, dp_mono s6 _ _ d5, okD_tree tok, _, rfl, ?_⟩
    refine iteF ?_
    -- the program's text, too
    refine ⟨_, rfl, v, tr, rfl, tok, dp_mono s6 _ _ d5, fun z2 ws2 H7 hz2 hB2 hT2 s7 => ?_⟩
    refine ⟨z2, rfl, by omega, ?_⟩
    unfold PM.Wp
    rw [tree_fine hN tok hB2 hT2]
    refine fun v2 H8 s8 e8 => ⟨_, rfl, v2, v, tr.d, rfl, e8, dp_mono ((s6.trans s7).trans s8) _ _ d5, okD_tree tok, _, rfl, ?_⟩
    refine iteF ?_
    have s58 := (s6.trans s7).trans s8
    have W8 : Tape t c cs H8 := P5.live.tape.out (T := []) (.of_same s58) List.not_mem_nil List.not_mem_nil
    have ho8 := s58 _ _ P5.at_
    refine ⟨by show 6 ≤ sizeLine; decide, fun g ng => ?_⟩
    have s9 := same_upd (o := .lst (moreL.map V.str)) ng
    have W9 : Tape t c cs (upd H8 g (.lst (moreL.map V.str))) := W8.out (T := []) (.of_same s9) List.not_mem_nil List.not_mem_nil
    refine ⟨_, rfl, t, c, cs, 6, rfl, W9, by decide, by decide, fun r kvs h0 h1 hk => ?_⟩
    obtain ⟨wd, hwd, hwm, hwe⟩ := drawn (l := moreL) (r := r) h0 h1
    have hwd2 : (moreL.map V.str)[r.toNat]? = some (.str wd) := by rw [List.getElem?_map, hwd]; rfl
    have gt : g ≠ t := by
      obtain ⟨kv, e, _⟩ := W9.dc
      exact ne_of upd_same e (by intro z; cases z)
    have ho9 : (upd (upd H8 g (.lst (moreL.map V.str))) t (.dK kvs)) o = some (.dK (outK z)) := by rw [upd_ne ot]; exact s9 _ _ ho8
    refine ⟨g, _, _, _, rfl, rfl, SqL.of (by rw [upd_ne gt]; exact upd_same), drawn_at hwe hwd2, ?_⟩
    have gen9 : ∃ H9, H9 = upd (upd H8 g (.lst (moreL.map V.str))) t (.dK kvs) := ⟨_, rfl⟩
    obtain ⟨H9, e9⟩ := gen9
    rw [← e9] at ho9
    have e9' : upd (upd H8 g (.lst [.str "x", .str "}", .str "7", .str "fixed", .str "?", .str ";"])) t (.dK kvs) = H9 := e9.symm
    rw [e9']
    refine ⟨_, rfl, by show 2 ≤ sizeLine; decide, fun p1 q1 => ?_⟩
    have s10 := same_upd (o := .tup [.str wd, .int 1]) q1
    refine ⟨by show 2 ≤ sizeLine; decide, fun p2 q2 => ?_⟩
    have s11 := same_upd (o := .tup [.str "keep a", .int 7]) q2
    refine ⟨by show 2 ≤ sizeLine; decide, fun L qL => ?_⟩
    have s12 := same_upd (o := .lst [.ref p1, .ref p2]) qL
    have hp1 : (upd (upd (upd H9 p1 (.tup [.str wd, .int 1])) p2 (.tup [.str "keep a", .int 7])) L (.lst [.ref p1, .ref p2])) p1 = some (.tup [.str wd, .int 1]) := s12 _ _ (s11 _ _ upd_same)
    have hp2 : (upd (upd (upd H9 p1 (.tup [.str wd, .int 1])) p2 (.tup [.str "keep a", .int 7])) L (.lst [.ref p1, .ref p2])) p2 = some (.tup [.str "keep a", .int 7]) := s12 _ _ upd_same
    have hL : (upd (upd (upd H9 p1 (.tup [.str wd, .int 1])) p2 (.tup [.str "keep a", .int 7])) L (.lst [.ref p1, .ref p2])) L = some (.lst [.ref p1, .ref p2]) := upd_same
    have ho := s12 _ _ (s11 _ _ (s10 _ _ ho9))
    generalize upd (upd (upd H9 p1 (.tup [.str wd, .int 1])) p2 (.tup [.str "keep a", .int 7])) L (.lst [.ref p1, .ref p2]) = H10 at hp1 hp2 hL ho ⊢
    refine ⟨L, rfl, ⟨_, SqL.of hL⟩, for_list (K := K) (a := L) (xs := [.ref p1, .ref p2]) (fun i σ H' => ∃ (e5 e6 : Option V), σ = [some (.ref a), some (.ref t), some v, some (.ref o), some (.str wd), e5, e6] ∧ Same H10 H')
      ⟨none, none, rfl, fun _ _ e => e⟩ (fun i σ H' _ ⟨_, _, _, h⟩ => SqL.of (h _ _ hL)) ?_ ?_⟩
    · rintro i y σ H11 hi ⟨e5, e6, rfl, s13⟩
      have key : ∃ (p : Addr) (x : Str) (d : Int), y = .ref p ∧ H10 p = some (.tup [.str x, .int d]) ∧ Fails N z x d ∧ (cds x).length ≤ 10 := by
        match i, hi with
        | 0, hi =>
          have hi : V.ref p1 = y := Option.some.inj hi
          exact ⟨p1, wd, 1, hi.symm, hp1, fails_more hN tok hB hT hwm, (more_ok wd hwm).2.2.2.2⟩
        | 1, hi =>
          have hi : V.ref p2 = y := Option.some.inj hi
          exact ⟨p2, "keep a", 7, hi.symm, hp2, fails_keep hN tok hB hT, by decide +kernel⟩
      obtain ⟨p, x, d, rfl, hp, ⟨R, hbad, hpl⟩, hxl⟩ := key
      have hoo := s13 _ _ ho
      have hxl' : x.length = (cds x).length := (tl_len x).symm
      have al : ∀ a b : Str, (a ++ b).length = a.length + b.length := fun a b => by
        have h := congrArg List.length (TL.tl_append a b)
        rw [List.length_append] at h
        simpa [Str.length, TL.tl] using h
      have hzl : (⟨z.toArray⟩ : Str).length = z.length := slen z
      have l1 : (Str.ofString " ").length = 1 := by decide +kernel
      refine ⟨p, _, rfl, SqT.of (s13 _ _ hp), rfl, _, _, rfl, _, _, rfl, rfl, ?_⟩
      refine ⟨_, rfl, o, _, rfl, dg_text hoo, _, _, rfl, rfl, szl (by rw [hzl, l1]; omega), _, rfl, _, _, rfl, rfl, szl (by rw [al, hzl, l1, hxl']; omega), ?_⟩
      have ecd : (⟨z.toArray⟩ ++ (" " : Str) ++ x : Str).cps.toList = z ++ [32] ++ cds x := by
        have h1 := cds_app (⟨z.toArray⟩ ++ (" " : Str)) x
        have h3 := cds_app (⟨z.toArray⟩ : Str) (" " : Str)
        have h2 : cds (⟨z.toArray⟩ : Str) = z := stl z
        have h4 : cds (" " : Str) = [32] := by decide +kernel
        rw [h3, h2, h4] at h1
        exact h1
      have e : (⟨z.toArray⟩ ++ (" " : Str) ++ x : Str) = ⟨((⟨z.toArray⟩ ++ (" " : Str) ++ x : Str).cps.toList).toArray⟩ := rfl
      rw [ecd] at e
      rw [e]
      refine ⟨_, rfl, o, _, rfl, dg_text hoo, _, rfl, szl (by rw [hzl]; omega), _, rfl, _, _, rfl, rfl, ?_⟩
      refine ⟨z ++ [32] ++ cds x, R, by rw [hpl, hzl]; rfl, by rw [List.length_append, List.length_append]; show z.length + 1 + _ ≤ _; omega, hbad, fun H12 s14 => ?_⟩
      refine ⟨_, rfl, iteF ?_⟩
      exact ⟨_, _, rfl, s13.trans s14⟩
    · rintro σ H11 ⟨e5, e6, rfl, s13⟩
      exact k _
end
end K02
namespace K02
open PySem PySem.Spec PyProof.Rows L2 LB
theorem exm_self {K : PySem.W.Frag} {S : Addr} (h1 : PySem.W.subIn K (.ref S) (.type "BaseException") = some true) (h2 : PySem.W.isClsIn K S = true) (h3 : PySem.W.typeIn K (.ref S) = some (.type "type")) (h4 : PySem.W.subIn K (.ref S) (.ref S) = some true) :
    PySem.W.exmOne K (.ref S) (.ref S) = some true := by
  have e1 : (PySem.W.subIn K (.ref S) (.type "BaseException") == some true) = true := by rw [h1] <;> rfl
  have e2 : ((PySem.W.clsIn K S).isSome && PySem.W.typeIn K (.ref S) == some (.type "type")) = true := by
    have h2' : (PySem.W.clsIn K S).isSome = true := h2
    rw [h2', h3] <;> rfl
  show (if (PySem.W.subIn K (.ref S) (.type "BaseException") == some true) = true then (if ((PySem.W.clsIn K S).isSome && PySem.W.typeIn K (.ref S) == some (.type "type")) = true then PySem.W.subIn K (.ref S) (.ref S) else none) else none) = some true
  rw [if_pos e1, if_pos e2]
  exact h4
theorem all_mk {l : PySem.W.OpenLaw} {w : World} {K : PySem.W.Frag} {h : Heap} {mg : Str → Option Value} {fa : Addr} (X : K.In h) (G : h.Ns mainGlobals mg) (hfa : mg "law" = some (.ref fa))
    {f0 : Addr} {od0 an0 : Option Addr} {sl0 : Array (Option Value)} {oc0 kV0 dc0 pm0 cd0 ct0 : Value}
    (a0 : PySem.W.nsIn K mainGlobals "tokens" = some (some (.ref f0))) (l0 : K.lookup f0 = some ⟨oc0, od0, .func (PySem.W.fnOf "tokens" "tokens" (defArgs s_tokens) (defBody s_tokens) (defScope s_tokens) .none kV0 dc0 pm0 an0 cd0 ct0), sl0⟩) (c0 : PySem.W.codeIn K cd0 "tokens" = true) (k0 : PySem.W.keepIn K (.ref f0) = true)
    {f1 : Addr} {od1 an1 : Option Addr} {sl1 : Array (Option Value)} {oc1 kV1 dc1 pm1 cd1 ct1 : Value}
    (a1 : PySem.W.nsIn K mainGlobals "_end_of_note" = some (some (.ref f1))) (l1 : K.lookup f1 = some ⟨oc1, od1, .func (PySem.W.fnOf "_end_of_note" "_end_of_note" (defArgs s__end_of_note) (defBody s__end_of_note) (defScope s__end_of_note) .none kV1 dc1 pm1 an1 cd1 ct1), sl1⟩) (c1 : PySem.W.codeIn K cd1 "_end_of_note" = true) (k1 : PySem.W.keepIn K (.ref f1) = true)
    {f2 : Addr} {od2 an2 : Option Addr} {sl2 : Array (Option Value)} {oc2 kV2 dc2 pm2 cd2 ct2 : Value}
    (a2 : PySem.W.nsIn K mainGlobals "_end_of_token" = some (some (.ref f2))) (l2 : K.lookup f2 = some ⟨oc2, od2, .func (PySem.W.fnOf "_end_of_token" "_end_of_token" (defArgs s__end_of_token) (defBody s__end_of_token) (defScope s__end_of_token) .none kV2 dc2 pm2 an2 cd2 ct2), sl2⟩) (c2 : PySem.W.codeIn K cd2 "_end_of_token" = true) (k2 : PySem.W.keepIn K (.ref f2) = true)
    {f3 : Addr} {od3 an3 : Option Addr} {sl3 : Array (Option Value)} {oc3 kV3 dc3 pm3 cd3 ct3 : Value}
    (a3 : PySem.W.nsIn K mainGlobals "_end_of_run" = some (some (.ref f3))) (l3 : K.lookup f3 = some ⟨oc3, od3, .func (PySem.W.fnOf "_end_of_run" "_end_of_run" (defArgs s__end_of_run) (defBody s__end_of_run) (defScope s__end_of_run) .none kV3 dc3 pm3 an3 cd3 ct3), sl3⟩) (c3 : PySem.W.codeIn K cd3 "_end_of_run" = true) (k3 : PySem.W.keepIn K (.ref f3) = true)
    {f4 : Addr} {od4 an4 : Option Addr} {sl4 : Array (Option Value)} {oc4 kV4 dc4 pm4 cd4 ct4 : Value}
    (a4 : PySem.W.nsIn K mainGlobals "_sort_of" = some (some (.ref f4))) (l4 : K.lookup f4 = some ⟨oc4, od4, .func (PySem.W.fnOf "_sort_of" "_sort_of" (defArgs s__sort_of) (defBody s__sort_of) (defScope s__sort_of) .none kV4 dc4 pm4 an4 cd4 ct4), sl4⟩) (c4 : PySem.W.codeIn K cd4 "_sort_of" = true) (k4 : PySem.W.keepIn K (.ref f4) = true)
    {f5 : Addr} {od5 an5 : Option Addr} {sl5 : Array (Option Value)} {oc5 kV5 dc5 pm5 cd5 ct5 : Value}
    (a5 : PySem.W.nsIn K mainGlobals "_value_of" = some (some (.ref f5))) (l5 : K.lookup f5 = some ⟨oc5, od5, .func (PySem.W.fnOf "_value_of" "_value_of" (defArgs s__value_of) (defBody s__value_of) (defScope s__value_of) .none kV5 dc5 pm5 an5 cd5 ct5), sl5⟩) (c5 : PySem.W.codeIn K cd5 "_value_of" = true) (k5 : PySem.W.keepIn K (.ref f5) = true)
    {f6 : Addr} {od6 an6 : Option Addr} {sl6 : Array (Option Value)} {oc6 kV6 dc6 pm6 cd6 ct6 : Value}
    (a6 : PySem.W.nsIn K mainGlobals "read_tree" = some (some (.ref f6))) (l6 : K.lookup f6 = some ⟨oc6, od6, .func (PySem.W.fnOf "read_tree" "read_tree" (defArgs s_read_tree) (defBody s_read_tree) (defScope s_read_tree) .none kV6 dc6 pm6 an6 cd6 ct6), sl6⟩) (c6 : PySem.W.codeIn K cd6 "read_tree" = true) (k6 : PySem.W.keepIn K (.ref f6) = true)
    {f7 : Addr} {od7 an7 : Option Addr} {sl7 : Array (Option Value)} {oc7 kV7 dc7 pm7 cd7 ct7 : Value}
    (a7 : PySem.W.nsIn K mainGlobals "_read_kind" = some (some (.ref f7))) (l7 : K.lookup f7 = some ⟨oc7, od7, .func (PySem.W.fnOf "_read_kind" "_read_kind" (defArgs s__read_kind) (defBody s__read_kind) (defScope s__read_kind) .none kV7 dc7 pm7 an7 cd7 ct7), sl7⟩) (c7 : PySem.W.codeIn K cd7 "_read_kind" = true) (k7 : PySem.W.keepIn K (.ref f7) = true)
    {f8 : Addr} {od8 an8 : Option Addr} {sl8 : Array (Option Value)} {oc8 kV8 dc8 pm8 cd8 ct8 : Value}
    (a8 : PySem.W.nsIn K mainGlobals "_read_field" = some (some (.ref f8))) (l8 : K.lookup f8 = some ⟨oc8, od8, .func (PySem.W.fnOf "_read_field" "_read_field" (defArgs s__read_field) (defBody s__read_field) (defScope s__read_field) .none kV8 dc8 pm8 an8 cd8 ct8), sl8⟩) (c8 : PySem.W.codeIn K cd8 "_read_field" = true) (k8 : PySem.W.keepIn K (.ref f8) = true)
    {f9 : Addr} {od9 an9 : Option Addr} {sl9 : Array (Option Value)} {oc9 kV9 dc9 pm9 cd9 ct9 : Value}
    (a9 : PySem.W.nsIn K mainGlobals "_read_item" = some (some (.ref f9))) (l9 : K.lookup f9 = some ⟨oc9, od9, .func (PySem.W.fnOf "_read_item" "_read_item" (defArgs s__read_item) (defBody s__read_item) (defScope s__read_item) .none kV9 dc9 pm9 an9 cd9 ct9), sl9⟩) (c9 : PySem.W.codeIn K cd9 "_read_item" = true) (k9 : PySem.W.keepIn K (.ref f9) = true)
    {f10 : Addr} {od10 an10 : Option Addr} {sl10 : Array (Option Value)} {oc10 kV10 dc10 pm10 cd10 ct10 : Value}
    (a10 : PySem.W.nsIn K mainGlobals "_read_thing" = some (some (.ref f10))) (l10 : K.lookup f10 = some ⟨oc10, od10, .func (PySem.W.fnOf "_read_thing" "_read_thing" (defArgs s__read_thing) (defBody s__read_thing) (defScope s__read_thing) .none kV10 dc10 pm10 an10 cd10 ct10), sl10⟩) (c10 : PySem.W.codeIn K cd10 "_read_thing" = true) (k10 : PySem.W.keepIn K (.ref f10) = true)
    {f11 : Addr} {od11 an11 : Option Addr} {sl11 : Array (Option Value)} {oc11 kV11 dc11 pm11 cd11 ct11 : Value}
    (a11 : PySem.W.nsIn K mainGlobals "_read_pair" = some (some (.ref f11))) (l11 : K.lookup f11 = some ⟨oc11, od11, .func (PySem.W.fnOf "_read_pair" "_read_pair" (defArgs s__read_pair) (defBody s__read_pair) (defScope s__read_pair) .none kV11 dc11 pm11 an11 cd11 ct11), sl11⟩) (c11 : PySem.W.codeIn K cd11 "_read_pair" = true) (k11 : PySem.W.keepIn K (.ref f11) = true)
    {f12 : Addr} {od12 an12 : Option Addr} {sl12 : Array (Option Value)} {oc12 kV12 dc12 pm12 cd12 ct12 : Value}
    (a12 : PySem.W.nsIn K mainGlobals "_read_value" = some (some (.ref f12))) (l12 : K.lookup f12 = some ⟨oc12, od12, .func (PySem.W.fnOf "_read_value" "_read_value" (defArgs s__read_value) (defBody s__read_value) (defScope s__read_value) .none kV12 dc12 pm12 an12 cd12 ct12), sl12⟩) (c12 : PySem.W.codeIn K cd12 "_read_value" = true) (k12 : PySem.W.keepIn K (.ref f12) = true)
    {f13 : Addr} {od13 an13 : Option Addr} {sl13 : Array (Option Value)} {oc13 kV13 dc13 pm13 cd13 ct13 : Value}
    (a13 : PySem.W.nsIn K mainGlobals "_read_addition" = some (some (.ref f13))) (l13 : K.lookup f13 = some ⟨oc13, od13, .func (PySem.W.fnOf "_read_addition" "_read_addition" (defArgs s__read_addition) (defBody s__read_addition) (defScope s__read_addition) .none kV13 dc13 pm13 an13 cd13 ct13), sl13⟩) (c13 : PySem.W.codeIn K cd13 "_read_addition" = true) (k13 : PySem.W.keepIn K (.ref f13) = true)
    {f14 : Addr} {od14 an14 : Option Addr} {sl14 : Array (Option Value)} {oc14 kV14 dc14 pm14 cd14 ct14 : Value}
    (a14 : PySem.W.nsIn K mainGlobals "print_tree" = some (some (.ref f14))) (l14 : K.lookup f14 = some ⟨oc14, od14, .func (PySem.W.fnOf "print_tree" "print_tree" (defArgs s_print_tree) (defBody s_print_tree) (defScope s_print_tree) .none kV14 dc14 pm14 an14 cd14 ct14), sl14⟩) (c14 : PySem.W.codeIn K cd14 "print_tree" = true) (k14 : PySem.W.keepIn K (.ref f14) = true)
    {f15 : Addr} {od15 an15 : Option Addr} {sl15 : Array (Option Value)} {oc15 kV15 dc15 pm15 cd15 ct15 : Value}
    (a15 : PySem.W.nsIn K mainGlobals "_joined" = some (some (.ref f15))) (l15 : K.lookup f15 = some ⟨oc15, od15, .func (PySem.W.fnOf "_joined" "_joined" (defArgs s__joined) (defBody s__joined) (defScope s__joined) .none kV15 dc15 pm15 an15 cd15 ct15), sl15⟩) (c15 : PySem.W.codeIn K cd15 "_joined" = true) (k15 : PySem.W.keepIn K (.ref f15) = true)
    {f16 : Addr} {od16 an16 : Option Addr} {sl16 : Array (Option Value)} {oc16 kV16 dc16 pm16 cd16 ct16 : Value}
    (a16 : PySem.W.nsIn K mainGlobals "_pieces_of_kind" = some (some (.ref f16))) (l16 : K.lookup f16 = some ⟨oc16, od16, .func (PySem.W.fnOf "_pieces_of_kind" "_pieces_of_kind" (defArgs s__pieces_of_kind) (defBody s__pieces_of_kind) (defScope s__pieces_of_kind) .none kV16 dc16 pm16 an16 cd16 ct16), sl16⟩) (c16 : PySem.W.codeIn K cd16 "_pieces_of_kind" = true) (k16 : PySem.W.keepIn K (.ref f16) = true)
    {f17 : Addr} {od17 an17 : Option Addr} {sl17 : Array (Option Value)} {oc17 kV17 dc17 pm17 cd17 ct17 : Value}
    (a17 : PySem.W.nsIn K mainGlobals "_pieces_of_item" = some (some (.ref f17))) (l17 : K.lookup f17 = some ⟨oc17, od17, .func (PySem.W.fnOf "_pieces_of_item" "_pieces_of_item" (defArgs s__pieces_of_item) (defBody s__pieces_of_item) (defScope s__pieces_of_item) .none kV17 dc17 pm17 an17 cd17 ct17), sl17⟩) (c17 : PySem.W.codeIn K cd17 "_pieces_of_item" = true) (k17 : PySem.W.keepIn K (.ref f17) = true)
    {f18 : Addr} {od18 an18 : Option Addr} {sl18 : Array (Option Value)} {oc18 kV18 dc18 pm18 cd18 ct18 : Value}
    (a18 : PySem.W.nsIn K mainGlobals "_pieces_of_thing" = some (some (.ref f18))) (l18 : K.lookup f18 = some ⟨oc18, od18, .func (PySem.W.fnOf "_pieces_of_thing" "_pieces_of_thing" (defArgs s__pieces_of_thing) (defBody s__pieces_of_thing) (defScope s__pieces_of_thing) .none kV18 dc18 pm18 an18 cd18 ct18), sl18⟩) (c18 : PySem.W.codeIn K cd18 "_pieces_of_thing" = true) (k18 : PySem.W.keepIn K (.ref f18) = true)
    {f19 : Addr} {od19 an19 : Option Addr} {sl19 : Array (Option Value)} {oc19 kV19 dc19 pm19 cd19 ct19 : Value}
    (a19 : PySem.W.nsIn K mainGlobals "_pieces_of_value" = some (some (.ref f19))) (l19 : K.lookup f19 = some ⟨oc19, od19, .func (PySem.W.fnOf "_pieces_of_value" "_pieces_of_value" (defArgs s__pieces_of_value) (defBody s__pieces_of_value) (defScope s__pieces_of_value) .none kV19 dc19 pm19 an19 cd19 ct19), sl19⟩) (c19 : PySem.W.codeIn K cd19 "_pieces_of_value" = true) (k19 : PySem.W.keepIn K (.ref f19) = true)
    {f20 : Addr} {od20 an20 : Option Addr} {sl20 : Array (Option Value)} {oc20 kV20 dc20 pm20 cd20 ct20 : Value}
    (a20 : PySem.W.nsIn K mainGlobals "_pieces_of_addition" = some (some (.ref f20))) (l20 : K.lookup f20 = some ⟨oc20, od20, .func (PySem.W.fnOf "_pieces_of_addition" "_pieces_of_addition" (defArgs s__pieces_of_addition) (defBody s__pieces_of_addition) (defScope s__pieces_of_addition) .none kV20 dc20 pm20 an20 cd20 ct20), sl20⟩) (c20 : PySem.W.codeIn K cd20 "_pieces_of_addition" = true) (k20 : PySem.W.keepIn K (.ref f20) = true)
    {f21 : Addr} {od21 an21 : Option Addr} {sl21 : Array (Option Value)} {oc21 kV21 dc21 pm21 cd21 ct21 : Value}
    (a21 : PySem.W.nsIn K mainGlobals "_law_tape" = some (some (.ref f21))) (l21 : K.lookup f21 = some ⟨oc21, od21, .func (PySem.W.fnOf "_law_tape" "_law_tape" (defArgs s__law_tape) (defBody s__law_tape) (defScope s__law_tape) .none kV21 dc21 pm21 an21 cd21 ct21), sl21⟩) (c21 : PySem.W.codeIn K cd21 "_law_tape" = true) (k21 : PySem.W.keepIn K (.ref f21) = true)
    {f22 : Addr} {od22 an22 : Option Addr} {sl22 : Array (Option Value)} {oc22 kV22 dc22 pm22 cd22 ct22 : Value}
    (a22 : PySem.W.nsIn K mainGlobals "_law_take" = some (some (.ref f22))) (l22 : K.lookup f22 = some ⟨oc22, od22, .func (PySem.W.fnOf "_law_take" "_law_take" (defArgs s__law_take) (defBody s__law_take) (defScope s__law_take) .none kV22 dc22 pm22 an22 cd22 ct22), sl22⟩) (c22 : PySem.W.codeIn K cd22 "_law_take" = true) (k22 : PySem.W.keepIn K (.ref f22) = true)
    {f23 : Addr} {od23 an23 : Option Addr} {sl23 : Array (Option Value)} {oc23 kV23 dc23 pm23 cd23 ct23 : Value}
    (a23 : PySem.W.nsIn K mainGlobals "_law_is_integer" = some (some (.ref f23))) (l23 : K.lookup f23 = some ⟨oc23, od23, .func (PySem.W.fnOf "_law_is_integer" "_law_is_integer" (defArgs s__law_is_integer) (defBody s__law_is_integer) (defScope s__law_is_integer) .none kV23 dc23 pm23 an23 cd23 ct23), sl23⟩) (c23 : PySem.W.codeIn K cd23 "_law_is_integer" = true) (k23 : PySem.W.keepIn K (.ref f23) = true)
    {f24 : Addr} {od24 an24 : Option Addr} {sl24 : Array (Option Value)} {oc24 kV24 dc24 pm24 cd24 ct24 : Value}
    (a24 : PySem.W.nsIn K mainGlobals "_law_same_items" = some (some (.ref f24))) (l24 : K.lookup f24 = some ⟨oc24, od24, .func (PySem.W.fnOf "_law_same_items" "_law_same_items" (defArgs s__law_same_items) (defBody s__law_same_items) (defScope s__law_same_items) .none kV24 dc24 pm24 an24 cd24 ct24), sl24⟩) (c24 : PySem.W.codeIn K cd24 "_law_same_items" = true) (k24 : PySem.W.keepIn K (.ref f24) = true)
    {f25 : Addr} {od25 an25 : Option Addr} {sl25 : Array (Option Value)} {oc25 kV25 dc25 pm25 cd25 ct25 : Value}
    (a25 : PySem.W.nsIn K mainGlobals "_law_same" = some (some (.ref f25))) (l25 : K.lookup f25 = some ⟨oc25, od25, .func (PySem.W.fnOf "_law_same" "_law_same" (defArgs s__law_same) (defBody s__law_same) (defScope s__law_same) .none kV25 dc25 pm25 an25 cd25 ct25), sl25⟩) (c25 : PySem.W.codeIn K cd25 "_law_same" = true) (k25 : PySem.W.keepIn K (.ref f25) = true)
    {f26 : Addr} {od26 an26 : Option Addr} {sl26 : Array (Option Value)} {oc26 kV26 dc26 pm26 cd26 ct26 : Value}
    (a26 : PySem.W.nsIn K mainGlobals "_law_letter" = some (some (.ref f26))) (l26 : K.lookup f26 = some ⟨oc26, od26, .func (PySem.W.fnOf "_law_letter" "_law_letter" (defArgs s__law_letter) (defBody s__law_letter) (defScope s__law_letter) .none kV26 dc26 pm26 an26 cd26 ct26), sl26⟩) (c26 : PySem.W.codeIn K cd26 "_law_letter" = true) (k26 : PySem.W.keepIn K (.ref f26) = true)
    {f27 : Addr} {od27 an27 : Option Addr} {sl27 : Array (Option Value)} {oc27 kV27 dc27 pm27 cd27 ct27 : Value}
    (a27 : PySem.W.nsIn K mainGlobals "_law_digit" = some (some (.ref f27))) (l27 : K.lookup f27 = some ⟨oc27, od27, .func (PySem.W.fnOf "_law_digit" "_law_digit" (defArgs s__law_digit) (defBody s__law_digit) (defScope s__law_digit) .none kV27 dc27 pm27 an27 cd27 ct27), sl27⟩) (c27 : PySem.W.codeIn K cd27 "_law_digit" = true) (k27 : PySem.W.keepIn K (.ref f27) = true)
    {f28 : Addr} {od28 an28 : Option Addr} {sl28 : Array (Option Value)} {oc28 kV28 dc28 pm28 cd28 ct28 : Value}
    (a28 : PySem.W.nsIn K mainGlobals "_law_value_of" = some (some (.ref f28))) (l28 : K.lookup f28 = some ⟨oc28, od28, .func (PySem.W.fnOf "_law_value_of" "_law_value_of" (defArgs s__law_value_of) (defBody s__law_value_of) (defScope s__law_value_of) .none kV28 dc28 pm28 an28 cd28 ct28), sl28⟩) (c28 : PySem.W.codeIn K cd28 "_law_value_of" = true) (k28 : PySem.W.keepIn K (.ref f28) = true)
    {f29 : Addr} {od29 an29 : Option Addr} {sl29 : Array (Option Value)} {oc29 kV29 dc29 pm29 cd29 ct29 : Value}
    (a29 : PySem.W.nsIn K mainGlobals "_law_any_tree" = some (some (.ref f29))) (l29 : K.lookup f29 = some ⟨oc29, od29, .func (PySem.W.fnOf "_law_any_tree" "_law_any_tree" (defArgs s__law_any_tree) (defBody s__law_any_tree) (defScope s__law_any_tree) .none kV29 dc29 pm29 an29 cd29 ct29), sl29⟩) (c29 : PySem.W.codeIn K cd29 "_law_any_tree" = true) (k29 : PySem.W.keepIn K (.ref f29) = true)
    {f30 : Addr} {od30 an30 : Option Addr} {sl30 : Array (Option Value)} {oc30 kV30 dc30 pm30 cd30 ct30 : Value}
    (a30 : PySem.W.nsIn K mainGlobals "_law_put" = some (some (.ref f30))) (l30 : K.lookup f30 = some ⟨oc30, od30, .func (PySem.W.fnOf "_law_put" "_law_put" (defArgs s__law_put) (defBody s__law_put) (defScope s__law_put) .none kV30 dc30 pm30 an30 cd30 ct30), sl30⟩) (c30 : PySem.W.codeIn K cd30 "_law_put" = true) (k30 : PySem.W.keepIn K (.ref f30) = true)
    {f31 : Addr} {od31 an31 : Option Addr} {sl31 : Array (Option Value)} {oc31 kV31 dc31 pm31 cd31 ct31 : Value}
    (a31 : PySem.W.nsIn K mainGlobals "_law_put_all" = some (some (.ref f31))) (l31 : K.lookup f31 = some ⟨oc31, od31, .func (PySem.W.fnOf "_law_put_all" "_law_put_all" (defArgs s__law_put_all) (defBody s__law_put_all) (defScope s__law_put_all) .none kV31 dc31 pm31 an31 cd31 ct31), sl31⟩) (c31 : PySem.W.codeIn K cd31 "_law_put_all" = true) (k31 : PySem.W.keepIn K (.ref f31) = true)
    {f32 : Addr} {od32 an32 : Option Addr} {sl32 : Array (Option Value)} {oc32 kV32 dc32 pm32 cd32 ct32 : Value}
    (a32 : PySem.W.nsIn K mainGlobals "_law_words" = some (some (.ref f32))) (l32 : K.lookup f32 = some ⟨oc32, od32, .func (PySem.W.fnOf "_law_words" "_law_words" (defArgs s__law_words) (defBody s__law_words) (defScope s__law_words) .none kV32 dc32 pm32 an32 cd32 ct32), sl32⟩) (c32 : PySem.W.codeIn K cd32 "_law_words" = true) (k32 : PySem.W.keepIn K (.ref f32) = true)
    {f33 : Addr} {od33 an33 : Option Addr} {sl33 : Array (Option Value)} {oc33 kV33 dc33 pm33 cd33 ct33 : Value}
    (a33 : PySem.W.nsIn K mainGlobals "_law_put_tree" = some (some (.ref f33))) (l33 : K.lookup f33 = some ⟨oc33, od33, .func (PySem.W.fnOf "_law_put_tree" "_law_put_tree" (defArgs s__law_put_tree) (defBody s__law_put_tree) (defScope s__law_put_tree) .none kV33 dc33 pm33 an33 cd33 ct33), sl33⟩) (c33 : PySem.W.codeIn K cd33 "_law_put_tree" = true) (k33 : PySem.W.keepIn K (.ref f33) = true)
    {f34 : Addr} {od34 an34 : Option Addr} {sl34 : Array (Option Value)} {oc34 kV34 dc34 pm34 cd34 ct34 : Value}
    (a34 : PySem.W.nsIn K mainGlobals "_law_fails" = some (some (.ref f34))) (l34 : K.lookup f34 = some ⟨oc34, od34, .func (PySem.W.fnOf "_law_fails" "_law_fails" (defArgs s__law_fails) (defBody s__law_fails) (defScope s__law_fails) .none kV34 dc34 pm34 an34 cd34 ct34), sl34⟩) (c34 : PySem.W.codeIn K cd34 "_law_fails" = true) (k34 : PySem.W.keepIn K (.ref f34) = true)
    {f35 : Addr} {od35 an35 : Option Addr} {sl35 : Array (Option Value)} {oc35 kV35 dc35 pm35 cd35 ct35 : Value}
    (a35 : PySem.W.nsIn K mainGlobals "law" = some (some (.ref f35))) (l35 : K.lookup f35 = some ⟨oc35, od35, .func (PySem.W.fnOf "law" "law" (defArgs s_law) (defBody s_law) (defScope s_law) .none kV35 dc35 pm35 an35 cd35 ct35), sl35⟩) (c35 : PySem.W.codeIn K cd35 "law" = true) (k35 : PySem.W.keepIn K (.ref f35) = true)
    {C : Addr}
    {f_Reader___init__ : Addr} {od_Reader___init__ an_Reader___init__ : Option Addr} {sl_Reader___init__ : Array (Option Value)} {oc_Reader___init__ kV_Reader___init__ dc_Reader___init__ pm_Reader___init__ cd_Reader___init__ ct_Reader___init__ : Value}
    (a_Reader___init__ : PySem.W.findIn K (.ref C) "__init__" = some (some (.ref f_Reader___init__))) (i_Reader___init__ : PySem.W.isFn K (.ref f_Reader___init__) = true) (l_Reader___init__ : K.lookup f_Reader___init__ = some ⟨oc_Reader___init__, od_Reader___init__, .func (PySem.W.fnOf "__init__" "Reader.__init__" (defArgs s_Reader___init__) (defBody s_Reader___init__) (defScope s_Reader___init__) .none kV_Reader___init__ dc_Reader___init__ pm_Reader___init__ an_Reader___init__ cd_Reader___init__ ct_Reader___init__), sl_Reader___init__⟩) (c_Reader___init__ : PySem.W.codeIn K cd_Reader___init__ "Reader.__init__" = true) (k_Reader___init__ : PySem.W.keepIn K (.ref f_Reader___init__) = true)
    {f_Reader_ahead : Addr} {od_Reader_ahead an_Reader_ahead : Option Addr} {sl_Reader_ahead : Array (Option Value)} {oc_Reader_ahead kV_Reader_ahead dc_Reader_ahead pm_Reader_ahead cd_Reader_ahead ct_Reader_ahead : Value}
    (a_Reader_ahead : PySem.W.findIn K (.ref C) "ahead" = some (some (.ref f_Reader_ahead))) (i_Reader_ahead : PySem.W.isFn K (.ref f_Reader_ahead) = true) (l_Reader_ahead : K.lookup f_Reader_ahead = some ⟨oc_Reader_ahead, od_Reader_ahead, .func (PySem.W.fnOf "ahead" "Reader.ahead" (defArgs s_Reader_ahead) (defBody s_Reader_ahead) (defScope s_Reader_ahead) .none kV_Reader_ahead dc_Reader_ahead pm_Reader_ahead an_Reader_ahead cd_Reader_ahead ct_Reader_ahead), sl_Reader_ahead⟩) (c_Reader_ahead : PySem.W.codeIn K cd_Reader_ahead "Reader.ahead" = true) (k_Reader_ahead : PySem.W.keepIn K (.ref f_Reader_ahead) = true)
    {f_Reader_take : Addr} {od_Reader_take an_Reader_take : Option Addr} {sl_Reader_take : Array (Option Value)} {oc_Reader_take kV_Reader_take dc_Reader_take pm_Reader_take cd_Reader_take ct_Reader_take : Value}
    (a_Reader_take : PySem.W.findIn K (.ref C) "take" = some (some (.ref f_Reader_take))) (i_Reader_take : PySem.W.isFn K (.ref f_Reader_take) = true) (l_Reader_take : K.lookup f_Reader_take = some ⟨oc_Reader_take, od_Reader_take, .func (PySem.W.fnOf "take" "Reader.take" (defArgs s_Reader_take) (defBody s_Reader_take) (defScope s_Reader_take) .none kV_Reader_take dc_Reader_take pm_Reader_take an_Reader_take cd_Reader_take ct_Reader_take), sl_Reader_take⟩) (c_Reader_take : PySem.W.codeIn K cd_Reader_take "Reader.take" = true) (k_Reader_take : PySem.W.keepIn K (.ref f_Reader_take) = true)
    {f_Reader_take_number : Addr} {od_Reader_take_number an_Reader_take_number : Option Addr} {sl_Reader_take_number : Array (Option Value)} {oc_Reader_take_number kV_Reader_take_number dc_Reader_take_number pm_Reader_take_number cd_Reader_take_number ct_Reader_take_number : Value}
    (a_Reader_take_number : PySem.W.findIn K (.ref C) "take_number" = some (some (.ref f_Reader_take_number))) (i_Reader_take_number : PySem.W.isFn K (.ref f_Reader_take_number) = true) (l_Reader_take_number : K.lookup f_Reader_take_number = some ⟨oc_Reader_take_number, od_Reader_take_number, .func (PySem.W.fnOf "take_number" "Reader.take_number" (defArgs s_Reader_take_number) (defBody s_Reader_take_number) (defScope s_Reader_take_number) .none kV_Reader_take_number dc_Reader_take_number pm_Reader_take_number an_Reader_take_number cd_Reader_take_number ct_Reader_take_number), sl_Reader_take_number⟩) (c_Reader_take_number : PySem.W.codeIn K cd_Reader_take_number "Reader.take_number" = true) (k_Reader_take_number : PySem.W.keepIn K (.ref f_Reader_take_number) = true)
    {f_Reader__place : Addr} {od_Reader__place an_Reader__place : Option Addr} {sl_Reader__place : Array (Option Value)} {oc_Reader__place kV_Reader__place dc_Reader__place pm_Reader__place cd_Reader__place ct_Reader__place : Value}
    (a_Reader__place : PySem.W.findIn K (.ref C) "_place" = some (some (.ref f_Reader__place))) (i_Reader__place : PySem.W.isFn K (.ref f_Reader__place) = true) (l_Reader__place : K.lookup f_Reader__place = some ⟨oc_Reader__place, od_Reader__place, .func (PySem.W.fnOf "_place" "Reader._place" (defArgs s_Reader__place) (defBody s_Reader__place) (defScope s_Reader__place) .none kV_Reader__place dc_Reader__place pm_Reader__place an_Reader__place cd_Reader__place ct_Reader__place), sl_Reader__place⟩) (c_Reader__place : PySem.W.codeIn K cd_Reader__place "Reader._place" = true) (k_Reader__place : PySem.W.keepIn K (.ref f_Reader__place) = true)
    (aC : PySem.W.nsIn K mainGlobals "Reader" = some (some (.ref C))) (pg : PySem.W.plainGet K C Str.empty = true) (hd : PySem.W.hasDictIn K C = true) (po : PySem.W.plainOver K C = true) (sa : PySem.W.findIn K (.ref C) "__setattr__" = some (some (.builtin "object.__setattr__"))) (mk : PySem.W.makesIn K C = true) (kc : PySem.W.keepIn K (.ref C) = true)
    (n1 : PySem.W.findIn K (.ref C) "_text" = some none) (n2 : PySem.W.findIn K (.ref C) "_tokens" = some none) (n3 : PySem.W.findIn K (.ref C) "_end" = some none) (n4 : PySem.W.findIn K (.ref C) "_at" = some none)
    {CE fE : Addr} {nmE qE : Str} {NE : Addr} {bsE bmE : List Value} {snE : List Str} {subE : List Value} {abE : Bool} {colE : Option Bool} {ddE : Option Addr} {m0 m1 m2 m3 m5 : Option Value}
    (aE : PySem.W.nsIn K mainGlobals "SyntaxProblem" = some (some (.ref CE))) (xE : K.lookup CE = some (excClassObj nmE qE CE NE bsE bmE true snE subE abE colE ddE m0 m1 m2 m3 m5 "ValueError.__new__")) (rE : PySem.HandSPX.refsVE bmE = true)
    (saE : PySem.W.findIn K (.ref CE) "__setattr__" = some (some (.builtin "object.__setattr__"))) (gaE : PySem.W.findIn K (.ref CE) "__getattribute__" = some (some (.builtin "BaseException.__getattribute__"))) (ggE : PySem.W.findIn K (.ref CE) "__getattr__" = some none) (nE : PySem.W.findIn K (.ref CE) "start" = some none)
    (iE : PySem.W.findIn K (.ref CE) "__init__" = some (some (.ref fE))) (tE : PySem.W.typeIn K (.ref fE) = some (.type "function")) (kE : PySem.W.keepIn K (.ref CE) = true) (bE : PySem.W.subIn K (.ref CE) (.type "BaseException") = some true) (tyE : PySem.W.typeIn K (.ref CE) = some (.type "type")) (hdE : PySem.W.hasDictIn K CE = true) (icE : PySem.W.isClsIn K CE = true) (scE : PySem.W.subIn K (.ref CE) (.ref CE) = some true)
    (suE : PySem.W.ks_superIn K CE CE "__init__" = some (some (.builtin "ValueError.__init__"))) (veE : PySem.W.subIn K (.ref CE) (.type "ValueError") = some true) (opE : PySem.W.nsIn K cStatics "thirdparty.any" = some none) (zsup : PySem.W.nsIn K mainGlobals "super" = some none) (mrE : PySem.W.mroIn K CE (.ref CE) = some true)
    {oc cl ccl doc pm ct : Value} {od cld cdd an : Option Addr} {cda cc : Addr} {osl csl ccs : Array (Option Value)} {cvs : Array Value} {file : Str} {tf : Tok}
    (lE : K.lookup fE = some ⟨oc, od, .func (PySem.W.ksFn "__init__" "SyntaxProblem.__init__" (PySem.SupX.iA ⟨6, 17, 6, 21⟩ ⟨6, 23, 6, 28⟩) (PySem.SupX.iB ⟨7, 8, 7, 13⟩ ⟨7, 8, 7, 15⟩ ⟨7, 8, 7, 24⟩ ⟨7, 27, 7, 69⟩ ⟨7, 70, 7, 75⟩ ⟨7, 69, 7, 76⟩ ⟨7, 25, 7, 77⟩ ⟨7, 8, 7, 78⟩ ⟨7, 8, 7, 78⟩ ⟨8, 8, 8, 12⟩ ⟨8, 8, 8, 18⟩ ⟨8, 21, 8, 26⟩ ⟨8, 8, 8, 26⟩) PySem.SupX.iS .none .none doc pm an (.ref cda) ct cc), osl⟩) (cE : PySem.W.codeIn K (.ref cda) "SyntaxProblem.__init__" = true) (lc : K.lookup cc = some ⟨cl, cld, .cell (some (.ref CE)), csl⟩) (ld : K.lookup cda = some ⟨ccl, cdd, .fields cvs, ccs⟩) (lv : cvs[2]? = some (.str file tf)) (lf : ((l.prog.main.file : Str) == file) = true) (ls : (l.prog.main.scope.names.lookup ("super" : Str)).isSome = false)
    {pF : Addr} {eF : Array DictEntry} {nF : Nat} {tF1 tF2 : Tok} (aF : PySem.W.nsIn K mainGlobals "FORMS" = some (some (.ref pF))) (xF : K.lookup pF = some { cls := .type "dict", data := .dict eF nF }) (yF : PySem.W.KeysLit w.params eF.toList) (zF : (pF == sysModules) = false)
    (w1 : PySem.W.nsIn K pF "name" = some (some (.str "NAME" tF1))) (w2 : PySem.W.nsIn K pF "number" = some (some (.str "NUMBER" tF2))) (w3 : PySem.W.nsIn K pF "word" = some none) (w4 : PySem.W.nsIn K pF "sign" = some none) (w5 : PySem.W.nsIn K pF "wrong" = some none)
    {LE : Addr} (aL : PySem.W.nsIn K mainGlobals "LandError" = some (some (.ref LE))) (iha : PySem.W.findIn K (.ref CE) "__class__" = some (some (.builtin "object.__class__"))) (ihn : PySem.W.specialIn K (.builtin "object.__class__") "__get__" = some (some (.builtin "getset_descriptor.__get__"))) (iht : PySem.W.takesIn K (.builtin "object.__class__") = some true) (ihm : PySem.W.mroIn K CE (.type "object") = some true) (ikt : PySem.W.kitOne K (.ref CE) (.ref LE) = some true)
    (z_len : PySem.W.nsIn K mainGlobals "len" = some none)
    (z_range : PySem.W.nsIn K mainGlobals "range" = some none)
    (z_abs : PySem.W.nsIn K mainGlobals "abs" = some none)
    (z_int : PySem.W.nsIn K mainGlobals "int" = some none)
    (z_str : PySem.W.nsIn K mainGlobals "str" = some none)
    (z_bool : PySem.W.nsIn K mainGlobals "bool" = some none)
    (z_tuple : PySem.W.nsIn K mainGlobals "tuple" = some none)
    (z_list : PySem.W.nsIn K mainGlobals "list" = some none)
    (z_dict : PySem.W.nsIn K mainGlobals "dict" = some none)
    (z_isinstance : PySem.W.nsIn K mainGlobals "isinstance" = some none)
    (z_set : PySem.W.nsIn K mainGlobals "set" = some none)
    (z_sorted : PySem.W.nsIn K mainGlobals "sorted" = some none)
    {t_BLANKS : Tok} (y_BLANKS : PySem.W.nsIn K mainGlobals "BLANKS" = some (some (.str sBLANKS t_BLANKS)))
    {t_DIGITS : Tok} (y_DIGITS : PySem.W.nsIn K mainGlobals "DIGITS" = some (some (.str sDIGITS t_DIGITS)))
    {t_LETTERS : Tok} (y_LETTERS : PySem.W.nsIn K mainGlobals "LETTERS" = some (some (.str sLETTERS t_LETTERS)))
    {t_NAME_CHARACTERS : Tok} (y_NAME_CHARACTERS : PySem.W.nsIn K mainGlobals "NAME_CHARACTERS" = some (some (.str sNAMES t_NAME_CHARACTERS)))
    {t_SIGNS : Tok} (y_SIGNS : PySem.W.nsIn K mainGlobals "SIGNS" = some (some (.str sSIGNS t_SIGNS)))
    {p_WORDS : Addr} {d_WORDS : Option Addr} {u_WORDS : List Value} {n_WORDS : Nat} {q_WORDS : Array (Option Value)} (y_WORDS : PySem.W.nsIn K mainGlobals "WORDS" = some (some (.ref p_WORDS))) (x_WORDS : K.lookup p_WORDS = some ⟨.type "tuple", d_WORDS, .seq u_WORDS.toArray n_WORDS, q_WORDS⟩) (v_WORDS : Vals (wordL.map V.str) u_WORDS) (w_WORDS : u_WORDS.length ≤ sizeLine)
    {t_NUMBERS : Tok} (y_NUMBERS : PySem.W.nsIn K mainGlobals "NUMBERS" = some (some (.int 4294967296 t_NUMBERS)))
    : ∃ fd : FuncData, (∀ (s : Shared) (v : Value), BindsTo s fd ⟨[v], []⟩ [("script", v)]) ∧ ∀ base : Heap, K.In base → base.Ns mainGlobals mg → FnOk l.prog w K mg base CX0 15 fa fd ["script"] (spLaw K) := by
  have e := hfa.symm.trans (PySem.W.mg_of X G a35)
  cases e
  have F_tokens := fun_mk (st := s_tokens) l0 c0 k0
  have b_tokens := F_tokens.binds (ps := ["text"]) fun _ _ _ _ _ _ us hl => match us, hl with | [_], _ => rfl
  have g_tokens := PySem.W.mg_of X G a0
  have F__end_of_note := fun_mk (st := s__end_of_note) l1 c1 k1
  have b__end_of_note := F__end_of_note.binds (ps := ["text", "start"]) fun _ _ _ _ _ _ us hl => match us, hl with | [_, _], _ => rfl
  have g__end_of_note := PySem.W.mg_of X G a1
  have F__end_of_token := fun_mk (st := s__end_of_token) l2 c2 k2
  have b__end_of_token := F__end_of_token.binds (ps := ["text", "start"]) fun _ _ _ _ _ _ us hl => match us, hl with | [_, _], _ => rfl
  have g__end_of_token := PySem.W.mg_of X G a2
  have F__end_of_run := fun_mk (st := s__end_of_run) l3 c3 k3
  have b__end_of_run := F__end_of_run.binds (ps := ["text", "start", "characters"]) fun _ _ _ _ _ _ us hl => match us, hl with | [_, _, _], _ => rfl
  have g__end_of_run := PySem.W.mg_of X G a3
  have F__sort_of := fun_mk (st := s__sort_of) l4 c4 k4
  have b__sort_of := F__sort_of.binds (ps := ["piece"]) fun _ _ _ _ _ _ us hl => match us, hl with | [_], _ => rfl
  have g__sort_of := PySem.W.mg_of X G a4
  have F__value_of := fun_mk (st := s__value_of) l5 c5 k5
  have b__value_of := F__value_of.binds (ps := ["digits"]) fun _ _ _ _ _ _ us hl => match us, hl with | [_], _ => rfl
  have g__value_of := PySem.W.mg_of X G a5
  have F_read_tree := fun_mk (st := s_read_tree) l6 c6 k6
  have b_read_tree := F_read_tree.binds (ps := ["text"]) fun _ _ _ _ _ _ us hl => match us, hl with | [_], _ => rfl
  have g_read_tree := PySem.W.mg_of X G a6
  have F__read_kind := fun_mk (st := s__read_kind) l7 c7 k7
  have b__read_kind := F__read_kind.binds (ps := ["reader"]) fun _ _ _ _ _ _ us hl => match us, hl with | [_], _ => rfl
  have g__read_kind := PySem.W.mg_of X G a7
  have F__read_field := fun_mk (st := s__read_field) l8 c8 k8
  have b__read_field := F__read_field.binds (ps := ["reader"]) fun _ _ _ _ _ _ us hl => match us, hl with | [_], _ => rfl
  have g__read_field := PySem.W.mg_of X G a8
  have F__read_item := fun_mk (st := s__read_item) l9 c9 k9
  have b__read_item := F__read_item.binds (ps := ["reader"]) fun _ _ _ _ _ _ us hl => match us, hl with | [_], _ => rfl
  have g__read_item := PySem.W.mg_of X G a9
  have F__read_thing := fun_mk (st := s__read_thing) l10 c10 k10
  have b__read_thing := F__read_thing.binds (ps := ["reader"]) fun _ _ _ _ _ _ us hl => match us, hl with | [_], _ => rfl
  have g__read_thing := PySem.W.mg_of X G a10
  have F__read_pair := fun_mk (st := s__read_pair) l11 c11 k11
  have b__read_pair := F__read_pair.binds (ps := ["reader"]) fun _ _ _ _ _ _ us hl => match us, hl with | [_], _ => rfl
  have g__read_pair := PySem.W.mg_of X G a11
  have F__read_value := fun_mk (st := s__read_value) l12 c12 k12
  have b__read_value := F__read_value.binds (ps := ["reader"]) fun _ _ _ _ _ _ us hl => match us, hl with | [_], _ => rfl
  have g__read_value := PySem.W.mg_of X G a12
  have F__read_addition := fun_mk (st := s__read_addition) l13 c13 k13
  have b__read_addition := F__read_addition.binds (ps := ["reader"]) fun _ _ _ _ _ _ us hl => match us, hl with | [_], _ => rfl
  have g__read_addition := PySem.W.mg_of X G a13
  have F_print_tree := fun_mk (st := s_print_tree) l14 c14 k14
  have b_print_tree := F_print_tree.binds (ps := ["tree"]) fun _ _ _ _ _ _ us hl => match us, hl with | [_], _ => rfl
  have g_print_tree := PySem.W.mg_of X G a14
  have F__joined := fun_mk (st := s__joined) l15 c15 k15
  have b__joined := F__joined.binds (ps := ["pieces"]) fun _ _ _ _ _ _ us hl => match us, hl with | [_], _ => rfl
  have g__joined := PySem.W.mg_of X G a15
  have F__pieces_of_kind := fun_mk (st := s__pieces_of_kind) l16 c16 k16
  have b__pieces_of_kind := F__pieces_of_kind.binds (ps := ["name", "fields"]) fun _ _ _ _ _ _ us hl => match us, hl with | [_, _], _ => rfl
  have g__pieces_of_kind := PySem.W.mg_of X G a16
  have F__pieces_of_item := fun_mk (st := s__pieces_of_item) l17 c17 k17
  have b__pieces_of_item := F__pieces_of_item.binds (ps := ["item"]) fun _ _ _ _ _ _ us hl => match us, hl with | [_], _ => rfl
  have g__pieces_of_item := PySem.W.mg_of X G a17
  have F__pieces_of_thing := fun_mk (st := s__pieces_of_thing) l18 c18 k18
  have b__pieces_of_thing := F__pieces_of_thing.binds (ps := ["item"]) fun _ _ _ _ _ _ us hl => match us, hl with | [_], _ => rfl
  have g__pieces_of_thing := PySem.W.mg_of X G a18
  have F__pieces_of_value := fun_mk (st := s__pieces_of_value) l19 c19 k19
  have b__pieces_of_value := F__pieces_of_value.binds (ps := ["value"]) fun _ _ _ _ _ _ us hl => match us, hl with | [_], _ => rfl
  have g__pieces_of_value := PySem.W.mg_of X G a19
  have F__pieces_of_addition := fun_mk (st := s__pieces_of_addition) l20 c20 k20
  have b__pieces_of_addition := F__pieces_of_addition.binds (ps := ["number"]) fun _ _ _ _ _ _ us hl => match us, hl with | [_], _ => rfl
  have g__pieces_of_addition := PySem.W.mg_of X G a20
  have F__law_tape := fun_mk (st := s__law_tape) l21 c21 k21
  have b__law_tape := F__law_tape.binds (ps := ["script"]) fun _ _ _ _ _ _ us hl => match us, hl with | [_], _ => rfl
  have g__law_tape := PySem.W.mg_of X G a21
  have F__law_take := fun_mk (st := s__law_take) l22 c22 k22
  have b__law_take := F__law_take.binds (ps := ["tape", "many"]) fun _ _ _ _ _ _ us hl => match us, hl with | [_, _], _ => rfl
  have g__law_take := PySem.W.mg_of X G a22
  have F__law_is_integer := fun_mk (st := s__law_is_integer) l23 c23 k23
  have b__law_is_integer := F__law_is_integer.binds (ps := ["actual"]) fun _ _ _ _ _ _ us hl => match us, hl with | [_], _ => rfl
  have g__law_is_integer := PySem.W.mg_of X G a23
  have F__law_same_items := fun_mk (st := s__law_same_items) l24 c24 k24
  have b__law_same_items := F__law_same_items.binds (ps := ["actual", "expected"]) fun _ _ _ _ _ _ us hl => match us, hl with | [_, _], _ => rfl
  have g__law_same_items := PySem.W.mg_of X G a24
  have F__law_same := fun_mk (st := s__law_same) l25 c25 k25
  have b__law_same := F__law_same.binds (ps := ["actual", "expected"]) fun _ _ _ _ _ _ us hl => match us, hl with | [_, _], _ => rfl
  have g__law_same := PySem.W.mg_of X G a25
  have F__law_letter := fun_mk (st := s__law_letter) l26 c26 k26
  have b__law_letter := F__law_letter.binds (ps := ["char"]) fun _ _ _ _ _ _ us hl => match us, hl with | [_], _ => rfl
  have g__law_letter := PySem.W.mg_of X G a26
  have F__law_digit := fun_mk (st := s__law_digit) l27 c27 k27
  have b__law_digit := F__law_digit.binds (ps := ["char"]) fun _ _ _ _ _ _ us hl => match us, hl with | [_], _ => rfl
  have g__law_digit := PySem.W.mg_of X G a27
  have F__law_value_of := fun_mk (st := s__law_value_of) l28 c28 k28
  have b__law_value_of := F__law_value_of.binds (ps := ["tape", "field", "names"]) fun _ _ _ _ _ _ us hl => match us, hl with | [_, _, _], _ => rfl
  have g__law_value_of := PySem.W.mg_of X G a28
  have F__law_any_tree := fun_mk (st := s__law_any_tree) l29 c29 k29
  have b__law_any_tree := F__law_any_tree.binds (ps := ["tape"]) fun _ _ _ _ _ _ us hl => match us, hl with | [_], _ => rfl
  have g__law_any_tree := PySem.W.mg_of X G a29
  have F__law_put := fun_mk (st := s__law_put) l30 c30 k30
  have b__law_put := F__law_put.binds (ps := ["tape", "out", "string"]) fun _ _ _ _ _ _ us hl => match us, hl with | [_, _, _], _ => rfl
  have g__law_put := PySem.W.mg_of X G a30
  have F__law_put_all := fun_mk (st := s__law_put_all) l31 c31 k31
  have b__law_put_all := F__law_put_all.binds (ps := ["tape", "out", "strings"]) fun _ _ _ _ _ _ us hl => match us, hl with | [_, _, _], _ => rfl
  have g__law_put_all := PySem.W.mg_of X G a31
  have F__law_words := fun_mk (st := s__law_words) l32 c32 k32
  have b__law_words := F__law_words.binds (ps := ["value"]) fun _ _ _ _ _ _ us hl => match us, hl with | [_], _ => rfl
  have g__law_words := PySem.W.mg_of X G a32
  have F__law_put_tree := fun_mk (st := s__law_put_tree) l33 c33 k33
  have b__law_put_tree := F__law_put_tree.binds (ps := ["tape", "out", "tree"]) fun _ _ _ _ _ _ us hl => match us, hl with | [_, _, _], _ => rfl
  have g__law_put_tree := PySem.W.mg_of X G a33
  have F__law_fails := fun_mk (st := s__law_fails) l34 c34 k34
  have b__law_fails := F__law_fails.binds (ps := ["text", "place"]) fun _ _ _ _ _ _ us hl => match us, hl with | [_, _], _ => rfl
  have g__law_fails := PySem.W.mg_of X G a34
  have F_law := fun_mk (st := s_law) l35 c35 k35
  have F_Reader___init__ := fun_mk (st := s_Reader___init__) l_Reader___init__ c_Reader___init__ k_Reader___init__
  have F_Reader_ahead := fun_mk (st := s_Reader_ahead) l_Reader_ahead c_Reader_ahead k_Reader_ahead
  have F_Reader_take := fun_mk (st := s_Reader_take) l_Reader_take c_Reader_take k_Reader_take
  have F_Reader_take_number := fun_mk (st := s_Reader_take_number) l_Reader_take_number c_Reader_take_number k_Reader_take_number
  have F_Reader__place := fun_mk (st := s_Reader__place) l_Reader__place c_Reader__place k_Reader__place
  have T : RTxt l.prog w K mg p_WORDS pF C CE fE eF nF := {
    cl := ⟨pg, hd, po, sa⟩, n_text := n1, n_tokens := n2, n_end := n3, n_at := n4, g_Reader := PySem.W.mg_of X G aC, sup := { gC := PySem.W.mg_of X G aE, cls := ⟨_, _, _, _, _, _, _, _, _, _, _, _, _, _, _, xE, rE⟩, sa := saE, ga := gaE, gg := ggE, noN := nE, iC := iE, tC := tE, kC := kE, exC := bE, tyC := tyE, hdC := hdE, te := exm_self bE icE tyE scE, su := suE, veC := veE, opq := opE, nosup := PySem.W.mg_none_of X G zsup, mr := mrE, bT := bE, fn := ⟨_, _, _, _, _, _, _, _, _, _, _, _, _, _, _, _, _, _, _, _, _, _, _, _, _, _, _, _, _, _, _, _, _, lE, cE, lc, ld, rfl, lv, lf, ls⟩ }, g_FORMS := ⟨_, PySem.W.mg_of X G aF, rfl⟩, kd_FORMS := ⟨xF, yF, zF⟩, f_name := ⟨_, w1⟩, f_number := ⟨_, w2⟩, f_word := w3, f_sign := w4, f_wrong := w5, b_len := PySem.W.mg_none_of X G z_len, b_range := PySem.W.mg_none_of X G z_range, b_abs := PySem.W.mg_none_of X G z_abs, b_int := PySem.W.mg_none_of X G z_int, b_str := PySem.W.mg_none_of X G z_str, b_bool := PySem.W.mg_none_of X G z_bool, b_tuple := PySem.W.mg_none_of X G z_tuple, b_list := PySem.W.mg_none_of X G z_list, b_dict := PySem.W.mg_none_of X G z_dict, b_isinstance := PySem.W.mg_none_of X G z_isinstance, b_set := PySem.W.mg_none_of X G z_set, b_sorted := PySem.W.mg_none_of X G z_sorted, g_BLANKS := ⟨_, PySem.W.mg_of X G y_BLANKS, ⟨_, rfl⟩⟩, g_DIGITS := ⟨_, PySem.W.mg_of X G y_DIGITS, ⟨_, rfl⟩⟩, g_LETTERS := ⟨_, PySem.W.mg_of X G y_LETTERS, ⟨_, rfl⟩⟩, g_NAME_CHARACTERS := ⟨_, PySem.W.mg_of X G y_NAME_CHARACTERS, ⟨_, rfl⟩⟩, g_SIGNS := ⟨_, PySem.W.mg_of X G y_SIGNS, ⟨_, rfl⟩⟩, g_WORDS := ⟨_, PySem.W.mg_of X G y_WORDS, rfl⟩, o_WORDS := fun H => .inr ⟨_, _, _, x_WORDS, rfl, rfl, (by simpa using w_WORDS), (by simpa using v_WORDS)⟩, g_NUMBERS := ⟨_, PySem.W.mg_of X G y_NUMBERS, ⟨_, rfl⟩⟩ }
  refine ⟨PySem.W.fnOf "law" "law" (defArgs s_law) (defBody s_law) (defScope s_law) .none kV35 dc35 pm35 an35 cd35 ct35, fun s v => .of_eq rfl, fun base _ _ => ?_⟩

  obtain ⟨N, hN⟩ : ∃ N : Nat, 50000 < N := ⟨50001, by decide⟩
  have B := T.toTTxt.toBlt
  have TT := T.toTTxt
  have c1 : C8.Cal l.prog w K mg base 1 "_law_tape" (spTape K) [] := cal F__law_tape g__law_tape b__law_tape (ok__law_tape F__law_tape B)
  have c2 : C8.Cal l.prog w K mg base 1 "_law_take" spTake [] := cal F__law_take g__law_take b__law_take (ok__law_take F__law_take B)
  have c4 : C8.Cal l.prog w K mg base 1 "_law_letter" spLetter [] := cal F__law_letter g__law_letter b__law_letter (ok__law_letter F__law_letter)
  have c5 : C8.Cal l.prog w K mg base 1 "_law_digit" spDigit [] := cal F__law_digit g__law_digit b__law_digit (ok__law_digit F__law_digit)
  have c8 : C8.Cal l.prog w K mg base 1 "_end_of_run" spRun [] := cal F__end_of_run g__end_of_run b__end_of_run (ok__end_of_run F__end_of_run TT)
  have c9 : C8.Cal l.prog w K mg base 2 "_end_of_token" spEnd [] := cal F__end_of_token g__end_of_token b__end_of_token (ok__end_of_token F__end_of_token TT c8)
  have c10 : C8.Cal l.prog w K mg base 1 "_end_of_note" spNote [] := cal F__end_of_note g__end_of_note b__end_of_note (ok__end_of_note F__end_of_note TT)
  have c11 : C8.Cal l.prog w K mg base 1 "_sort_of" spSort [] := cal F__sort_of g__sort_of b__sort_of (ok__sort_of F__sort_of TT)
  have c12 : C8.Cal l.prog w K mg base 3 "tokens" (spTokens K) [] := cal F_tokens g_tokens b_tokens (ok_tokens F_tokens TT c10 c9 c11)
  have c14 : C8.Cal l.prog w K mg base 1 "_value_of" spVal [] := cal F__value_of g__value_of b__value_of (ok__value_of F__value_of T)
  -- the reader
  have bA : Binds K _ ["self"] [] := F_Reader_ahead.binds (ps := ["self"]) fun _ _ _ _ _ _ us hl => match us, hl with | [_], _ => rfl
  have bP : Binds K _ ["self"] [] := F_Reader__place.binds (ps := ["self"]) fun _ _ _ _ _ _ us hl => match us, hl with | [_], _ => rfl
  have bN : Binds K _ ["self"] [] := F_Reader_take_number.binds (ps := ["self"]) fun _ _ _ _ _ _ us hl => match us, hl with | [_], _ => rfl
  have bI : Binds K _ ["self", "text"] [] := F_Reader___init__.binds (ps := ["self", "text"]) fun _ _ _ _ _ _ us hl => match us, hl with | [_, _], _ => rfl
  have mA : Meth K C "ahead" f_Reader_ahead := ⟨a_Reader_ahead, i_Reader_ahead, k_Reader_ahead⟩
  have mP : Meth K C "_place" f_Reader__place := ⟨a_Reader__place, i_Reader__place, k_Reader__place⟩
  have mT : Meth K C "take" f_Reader_take := ⟨a_Reader_take, i_Reader_take, k_Reader_take⟩
  have mN : Meth K C "take_number" f_Reader_take_number := ⟨a_Reader_take_number, i_Reader_take_number, k_Reader_take_number⟩
  have GA := ok_Reader_ahead (base := base) F_Reader_ahead T
  have GP := ok_Reader__place (base := base) F_Reader__place T
  have GT := ok_Reader_take (base := base) F_Reader_take T mA GA bA mP GP bP
  have GN := ok_Reader_take_number (base := base) F_Reader_take_number T mT GT c14
  have GI := ok_Reader___init__ (base := base) F_Reader___init__ T c12
  have M := RM.mk (P := l.prog) (w := w) (mg := mg) mA GA bA mT GT mN GN bN
  have r1 := calX F__read_addition g__read_addition b__read_addition (ok__read_addition (base := base) F__read_addition T M)
  have r2 := calX F__read_value g__read_value b__read_value (ok__read_value (base := base) F__read_value T M r1)
  have r3 := calX F__read_pair g__read_pair b__read_pair (ok__read_pair (base := base) F__read_pair T M r2)
  have r4 := calX F__read_thing g__read_thing b__read_thing (ok__read_thing (base := base) F__read_thing T M r3)
  have r5 := calX F__read_item g__read_item b__read_item (ok__read_item (base := base) F__read_item T M r4)
  have r6 := calX F__read_field g__read_field b__read_field (ok__read_field (base := base) F__read_field T M)
  have r7 := calX F__read_kind g__read_kind b__read_kind (ok__read_kind (base := base) F__read_kind T M r6)
  have r8 := calX F_read_tree g_read_tree b_read_tree (ok_read_tree (base := base) hN F_read_tree T M ⟨mk, a_Reader___init__, i_Reader___init__, kc⟩ GI bI r7 r5)
  have IT : IsTxt K mg CE LE := ⟨⟨_, PySem.W.mg_of X G aL, rfl⟩, T.b_isinstance, icE, gaE, ggE, bE, iha, ihn, iht, ihm, ikt⟩
  have c13 : C8.Cal l.prog w K mg base 14 "_law_same" (spSame K 6) [] := cal_same F__law_is_integer g__law_is_integer b__law_is_integer F__law_same_items g__law_same_items b__law_same_items F__law_same g__law_same b__law_same B 6
  have w1' : LW.CalW l.prog w K mg base 1 "_law_is_integer" (spIsInt K) := LW.calW F__law_is_integer g__law_is_integer b__law_is_integer (w__law_is_integer F__law_is_integer B)
  have w2' : LW.CalW l.prog w K mg base 2 "_law_same" spSameI := LW.calW F__law_same g__law_same b__law_same (w__law_same F__law_same B w1')
  have d1 : C8.Cal l.prog w K mg base 11 "_law_fails" (spFails N) [] := cal F__law_fails g__law_fails b__law_fails (ok__law_fails F__law_fails T IT r8 w2')
  -- trees as texts
  have t3 : C8.Cal l.prog w K mg base 2 "_law_put" spPut2 [] := cal F__law_put g__law_put b__law_put (ok__law_put F__law_put B c2 c4 c5)
  have t4 : C8.Cal l.prog w K mg base 3 "_law_put_all" spPutAll2 [] := cal F__law_put_all g__law_put_all b__law_put_all (ok__law_put_all F__law_put_all B t3)
  have t5 : C8.Cal l.prog w K mg base 1 "_law_words" (spWords2 K) [] := cal F__law_words g__law_words b__law_words (ok__law_words F__law_words B)
  have t6 : C8.Cal l.prog w K mg base 4 "_law_put_tree" (spPutTree2 K) [] := cal F__law_put_tree g__law_put_tree b__law_put_tree (ok__law_put_tree F__law_put_tree B c2 t3 t4 t5)
  have p1 : C8.Cal l.prog w K mg base 1 "_pieces_of_addition" spPAdd [] := cal F__pieces_of_addition g__pieces_of_addition b__pieces_of_addition (ok__pieces_of_addition F__pieces_of_addition B)
  have p2 : C8.Cal l.prog w K mg base 2 "_pieces_of_value" (spPVal K) [] := cal F__pieces_of_value g__pieces_of_value b__pieces_of_value (ok__pieces_of_value F__pieces_of_value B p1)
  have p3 : C8.Cal l.prog w K mg base 3 "_pieces_of_thing" (spPThing K) [] := cal F__pieces_of_thing g__pieces_of_thing b__pieces_of_thing (ok__pieces_of_thing F__pieces_of_thing B p2)
  have p4 : C8.Cal l.prog w K mg base 4 "_pieces_of_item" (spPItem K) [] := cal F__pieces_of_item g__pieces_of_item b__pieces_of_item (ok__pieces_of_item F__pieces_of_item B p3)
  have p5 : C8.Cal l.prog w K mg base 1 "_pieces_of_kind" (spPKind K) [] := cal F__pieces_of_kind g__pieces_of_kind b__pieces_of_kind (ok__pieces_of_kind F__pieces_of_kind B)
  have p6 : C8.Cal l.prog w K mg base 1 "_joined" spPJoin [] := cal F__joined g__joined b__joined (ok__joined F__joined TT)
  have p7 : C8.Cal l.prog w K mg base 5 "print_tree" (spPrint K) [] := cal F_print_tree g_print_tree b_print_tree (ok_print_tree F_print_tree B p5 p4 p6)
  have t1 : C8.Cal l.prog w K mg base 2 "_law_value_of" (spValueOf K) [] := cal F__law_value_of g__law_value_of b__law_value_of (ok__law_value_of F__law_value_of B c2)
  have t2 : C8.Cal l.prog w K mg base 3 "_law_any_tree" (spAnyTree K) [] := cal F__law_any_tree g__law_any_tree b__law_any_tree (ok__law_any_tree F__law_any_tree B c2 t1)
  exact ok_law hN F_law B c1 c2 t2 t6 r8 p7 d1 c13
end K02
open PySem PySem.W PyProof.Rows L2
set_option maxHeartbeats 0 in
theorem PySem.Challenge.cw_settledland_k02_trees_are_read_as_printe_holds : PySem.Challenge.rw_settledland_k02_trees_are_read_as_printe.Holds := by
  w_on; o_law; k_head; (case hw => w_witness2)
  k_fill
  refine L2.walk_of (l := PySem.Challenge.rw_settledland_k02_trees_are_read_as_printe) (n := 63) (k := 15) (x := "script") (CX := fun _ => L2.CX0) (sp := fun w => K02.spLaw _) rfl (by decide) rfl ⟨by decide, by decide, by decide⟩ (fun w h Y => PySem.W.kIn_of Y) ?F (fun _ _ a ns hl _ hS => ⟨a, ns, rfl, hS, hl, fun _ => rfl⟩) (fun _ _ _ _ _ h => h)
  case F =>
    intro w mg fa h KX G hmg
    refine' K02.all_mk KX G hmg ?a0 ?l0 ?c0 ?k0 ?a1 ?l1 ?c1 ?k1 ?a2 ?l2 ?c2 ?k2 ?a3 ?l3 ?c3 ?k3 ?a4 ?l4 ?c4 ?k4 ?a5 ?l5 ?c5 ?k5 ?a6 ?l6 ?c6 ?k6 ?a7 ?l7 ?c7 ?k7 ?a8 ?l8 ?c8 ?k8 ?a9 ?l9 ?c9 ?k9 ?a10 ?l10 ?c10 ?k10 ?a11 ?l11 ?c11 ?k11 ?a12 ?l12 ?c12 ?k12 ?a13 ?l13 ?c13 ?k13 ?a14 ?l14 ?c14 ?k14 ?a15 ?l15 ?c15 ?k15 ?a16 ?l16 ?c16 ?k16 ?a17 ?l17 ?c17 ?k17 ?a18 ?l18 ?c18 ?k18 ?a19 ?l19 ?c19 ?k19 ?a20 ?l20 ?c20 ?k20 ?a21 ?l21 ?c21 ?k21 ?a22 ?l22 ?c22 ?k22 ?a23 ?l23 ?c23 ?k23 ?a24 ?l24 ?c24 ?k24 ?a25 ?l25 ?c25 ?k25 ?a26 ?l26 ?c26 ?k26 ?a27 ?l27 ?c27 ?k27 ?a28 ?l28 ?c28 ?k28 ?a29 ?l29 ?c29 ?k29 ?a30 ?l30 ?c30 ?k30 ?a31 ?l31 ?c31 ?k31 ?a32 ?l32 ?c32 ?k32 ?a33 ?l33 ?c33 ?k33 ?a34 ?l34 ?c34 ?k34 ?a35 ?l35 ?c35 ?k35 ?a_Reader___init__ ?i_Reader___init__ ?l_Reader___init__ ?c_Reader___init__ ?k_Reader___init__ ?a_Reader_ahead ?i_Reader_ahead ?l_Reader_ahead ?c_Reader_ahead ?k_Reader_ahead ?a_Reader_take ?i_Reader_take ?l_Reader_take ?c_Reader_take ?k_Reader_take ?a_Reader_take_number ?i_Reader_take_number ?l_Reader_take_number ?c_Reader_take_number ?k_Reader_take_number ?a_Reader__place ?i_Reader__place ?l_Reader__place ?c_Reader__place ?k_Reader__place ?aC ?pg ?hd ?po ?sa ?mk ?kc ?n1 ?n2 ?n3 ?n4 ?aE ?xE ?rE ?saE ?gaE ?ggE ?nE ?iE ?tE ?kE ?bE ?tyE ?hdE ?icE ?scE ?suE ?veE ?opE ?zsup ?mrE ?lE ?cE ?lc ?ld ?lv ?lf ?ls ?aF ?xF ?yF ?zF ?w1 ?w2 ?w3 ?w4 ?w5 ?aL ?iha ?ihn ?iht ?ihm ?ikt ?z_len ?z_range ?z_abs ?z_int ?z_str ?z_bool ?z_tuple ?z_list ?z_dict ?z_isinstance ?z_set ?z_sorted ?y_BLANKS ?y_DIGITS ?y_LETTERS ?y_NAME_CHARACTERS ?y_SIGNS ?y_WORDS ?x_WORDS ?v_WORDS ?w_WORDS ?y_NUMBERS
    (case aC => k_is); (case a0 => k_is); (case l0 => k_is); (case c0 => k_is); (case k0 => k_is); (case a1 => k_is); (case l1 => k_is); (case c1 => k_is); (case k1 => k_is); (case a2 => k_is); (case l2 => k_is); (case c2 => k_is); (case k2 => k_is); (case a3 => k_is); (case l3 => k_is); (case c3 => k_is); (case k3 => k_is); (case a4 => k_is); (case l4 => k_is); (case c4 => k_is); (case k4 => k_is); (case a5 => k_is); (case l5 => k_is); (case c5 => k_is); (case k5 => k_is); (case a6 => k_is); (case l6 => k_is); (case c6 => k_is); (case k6 => k_is); (case a7 => k_is); (case l7 => k_is); (case c7 => k_is); (case k7 => k_is); (case a8 => k_is); (case l8 => k_is); (case c8 => k_is); (case k8 => k_is); (case a9 => k_is); (case l9 => k_is); (case c9 => k_is); (case k9 => k_is); (case a10 => k_is); (case l10 => k_is); (case c10 => k_is); (case k10 => k_is); (case a11 => k_is); (case l11 => k_is); (case c11 => k_is); (case k11 => k_is); (case a12 => k_is); (case l12 => k_is); (case c12 => k_is); (case k12 => k_is); (case a13 => k_is); (case l13 => k_is); (case c13 => k_is); (case k13 => k_is); (case a14 => k_is); (case l14 => k_is); (case c14 => k_is); (case k14 => k_is); (case a15 => k_is); (case l15 => k_is); (case c15 => k_is); (case k15 => k_is); (case a16 => k_is); (case l16 => k_is); (case c16 => k_is); (case k16 => k_is); (case a17 => k_is); (case l17 => k_is); (case c17 => k_is); (case k17 => k_is); (case a18 => k_is); (case l18 => k_is); (case c18 => k_is); (case k18 => k_is); (case a19 => k_is); (case l19 => k_is); (case c19 => k_is); (case k19 => k_is); (case a20 => k_is); (case l20 => k_is); (case c20 => k_is); (case k20 => k_is); (case a21 => k_is); (case l21 => k_is); (case c21 => k_is); (case k21 => k_is); (case a22 => k_is); (case l22 => k_is); (case c22 => k_is); (case k22 => k_is); (case a23 => k_is); (case l23 => k_is); (case c23 => k_is); (case k23 => k_is); (case a24 => k_is); (case l24 => k_is); (case c24 => k_is); (case k24 => k_is); (case a25 => k_is); (case l25 => k_is); (case c25 => k_is); (case k25 => k_is); (case a26 => k_is); (case l26 => k_is); (case c26 => k_is); (case k26 => k_is); (case a27 => k_is); (case l27 => k_is); (case c27 => k_is); (case k27 => k_is); (case a28 => k_is); (case l28 => k_is); (case c28 => k_is); (case k28 => k_is); (case a29 => k_is); (case l29 => k_is); (case c29 => k_is); (case k29 => k_is); (case a30 => k_is); (case l30 => k_is); (case c30 => k_is); (case k30 => k_is); (case a31 => k_is); (case l31 => k_is); (case c31 => k_is); (case k31 => k_is); (case a32 => k_is); (case l32 => k_is); (case c32 => k_is); (case k32 => k_is); (case a33 => k_is); (case l33 => k_is); (case c33 => k_is); (case k33 => k_is); (case a34 => k_is); (case l34 => k_is); (case c34 => k_is); (case k34 => k_is); (case a35 => k_is); (case l35 => k_is); (case c35 => k_is); (case k35 => k_is); (case a_Reader___init__ => k_is); (case i_Reader___init__ => k_is); (case l_Reader___init__ => k_is); (case c_Reader___init__ => k_is); (case k_Reader___init__ => k_is); (case a_Reader_ahead => k_is); (case i_Reader_ahead => k_is); (case l_Reader_ahead => k_is); (case c_Reader_ahead => k_is); (case k_Reader_ahead => k_is); (case a_Reader_take => k_is); (case i_Reader_take => k_is); (case l_Reader_take => k_is); (case c_Reader_take => k_is); (case k_Reader_take => k_is); (case a_Reader_take_number => k_is); (case i_Reader_take_number => k_is); (case l_Reader_take_number => k_is); (case c_Reader_take_number => k_is); (case k_Reader_take_number => k_is); (case a_Reader__place => k_is); (case i_Reader__place => k_is); (case l_Reader__place => k_is); (case c_Reader__place => k_is); (case k_Reader__place => k_is); (case pg => k_is); (case hd => k_is); (case po => k_is); (case sa => k_is); (case mk => k_is); (case kc => k_is); (case n1 => k_is); (case n2 => k_is); (case n3 => k_is); (case n4 => k_is); (case aE => k_is); (case xE => k_is); (case rE => (first | rfl | (simp [PySem.HandSPX.refsVE]))); (case saE => k_is); (case gaE => k_is); (case ggE => k_is); (case nE => k_is); (case iE => k_is); (case tE => k_is); (case kE => k_is); (case bE => k_is); (case tyE => k_is); (case hdE => k_is); (case icE => k_is); (case scE => (first | rfl | k_is)); (case suE => (first | k_is | rfl)); (case veE => (first | k_is | rfl)); (case opE => (first | k_is | rfl)); (case zsup => (first | k_is | rfl)); (case mrE => (first | k_is | rfl)); (case lE => (first | k_is | rfl)); (case cE => (first | k_is | rfl)); (case lc => (first | k_is | rfl)); (case ld => (first | k_is | rfl)); (case lv => rfl); (case lf => rfl); (case ls => rfl); (case aF => k_is); (case xF => k_is); (case yF => exact ⟨⟨_, _, rfl, rfl⟩, ⟨_, _, rfl, rfl⟩, trivial⟩); (case zF => (first | rfl | decide)); (case w1 => k_is); (case w2 => k_is); (case w3 => k_is); (case w4 => k_is); (case w5 => k_is); (case aL => k_is); (case iha => k_is); (case ihn => k_is); (case iht => k_is); (case ihm => k_is); (case ikt => (first | k_is | kit_is | rfl)); (case z_len => k_is); (case z_range => k_is); (case z_abs => k_is); (case z_int => k_is); (case z_str => k_is); (case z_bool => k_is); (case z_tuple => k_is); (case z_list => k_is); (case z_dict => k_is); (case z_isinstance => k_is); (case z_set => k_is); (case z_sorted => k_is); (case y_BLANKS => k_is); (case y_DIGITS => k_is); (case y_LETTERS => k_is); (case y_NAME_CHARACTERS => k_is); (case y_SIGNS => k_is); (case y_WORDS => k_is); (case x_WORDS => k_is); (case v_WORDS => (repeat (first | exact .nil | refine .cons ⟨_, rfl⟩ ?_))); (case w_WORDS => (simp only [List.length_cons, List.length_nil]; decide)); (case y_NUMBERS => k_is)
