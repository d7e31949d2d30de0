import PyProof.Rows.All
import Wide.All
import OpenK.AllK
import Wide.FinOn
import HandS.ForMost
import HandS.IsInst
import HandS.StrMore
import HandS.Codes
import HandS.Walk
import PySem.Challenge.RW_settledland_k01_tokens_of_texts
set_option Elab.async false
set_option linter.all false
set_option maxRecDepth 100000
set_option maxHeartbeats 4000000
namespace Tk
/-! The mathematics of tokens: texts are lists of code points. -/
def blank (c : Nat) : Bool := c == 32 || c == 10
def letter (c : Nat) : Bool := (decide (97 ≤ c) && decide (c ≤ 122)) || (decide (65 ≤ c) && decide (c ≤ 90))
def digit (c : Nat) : Bool := decide (48 ≤ c) && decide (c ≤ 57)
def inner (c : Nat) : Bool := letter c || digit c || (c == 95 || c == 46 || c == 35)
def signC (c : Nat) : Bool := [123, 125, 58, 59, 61, 42, 43].contains c
/-- which signs a token goes on with, by its first sign -/
def going (c : Nat) : Nat → Bool := if letter c then inner else if digit c then digit else fun _ => false
/-- the length of the run of p at the head -/
def run (p : Nat → Bool) : List Nat → Nat
  | [] => 0
  | c :: r => if p c then run p r + 1 else 0
theorem run_le (p : Nat → Bool) : ∀ l, run p l ≤ l.length
  | [] => Nat.le_refl _
  | c :: r => by
    unfold run
    split
    · exact Nat.succ_le_succ (run_le p r)
    · exact Nat.zero_le _
theorem run_at {p : Nat → Bool} : ∀ {l : List Nat} {i : Nat} {c : Nat}, i < run p l → l[i]? = some c → p c = true
  | [], i, _, h, _ => absurd h (Nat.not_lt_zero _)
  | d :: r, i, c, h, e => by
    unfold run at h
    by_cases hd : p d = true
    · rw [if_pos hd] at h
      cases i with
      | zero =>
        have : d = c := Option.some.inj e
        rw [← this]; exact hd
      | succ j => exact run_at (l := r) (i := j) (by omega) e
    · rw [if_neg hd] at h
      exact absurd h (Nat.not_lt_zero _)
theorem run_end {p : Nat → Bool} : ∀ {l : List Nat} {c : Nat}, l[run p l]? = some c → p c = false
  | [], _, e => by simp [run] at e
  | d :: r, c, e => by
    by_cases hd : p d = true
    · have h : run p (d :: r) = run p r + 1 := by simp [run, hd]
      rw [h] at e
      exact run_end (l := r) e
    · have h : run p (d :: r) = 0 := by simp [run, hd]
      rw [h] at e
      have : d = c := Option.some.inj e
      rw [← this]
      simpa using hd
/-- the least number n such that all before n have p, and at n is the end or not p -/
theorem run_eq {p : Nat → Bool} : ∀ {l : List Nat} {n : Nat}, n ≤ l.length → (∀ i c, i < n → l[i]? = some c → p c = true) → (∀ c, l[n]? = some c → p c = false) → run p l = n
  | [], n, h, _, _ => by
    have : n = 0 := Nat.le_zero.mp h
    rw [this]; rfl
  | d :: r, 0, _, _, h3 => by
    have := h3 d rfl
    simp [run, this]
  | d :: r, n + 1, h1, h2, h3 => by
    have hd : p d = true := h2 0 d (by omega) rfl
    have ih : run p r = n := run_eq (by simpa using h1) (fun i c hi e => h2 (i + 1) c (by omega) e) (fun c e => h3 c e)
    simp [run, hd, ih]
/-- a token's length: the first sign, then the run behind it -/
def tokLen (c : Nat) (r : List Nat) : Nat := run (going c) r + 1
/-- signs up to the next newline -/
def notNl (c : Nat) : Bool := !(c == 10)
inductive Srt where | word | name | number | sign | wrong
deriving DecidableEq
def sortOf (isWord : List Nat → Bool) (piece : List Nat) : Srt :=
  match piece with
  | [] => .wrong
  | c :: _ => if letter c then (if isWord piece then .word else .name) else if digit c then .number else if signC c then .sign else .wrong
def toks (isWord : List Nat → Bool) (i : Nat) : List Nat → List (Srt × Nat × Nat)
  | [] => []
  | c :: r =>
    if blank c then toks isWord (i + 1) r
    else if c = 33 then toks isWord (i + 1 + run notNl r) (r.drop (run notNl r))
    else (sortOf isWord ((c :: r).take (tokLen c r)), i, i + tokLen c r) :: toks isWord (i + tokLen c r) (r.drop (run (going c) r))
termination_by l => l.length
decreasing_by
  · simp
  · simp [List.length_drop]; omega
  · simp [List.length_drop]; omega
variable {isWord : List Nat → Bool}
theorem toks_nil {i : Nat} : toks isWord i [] = [] := by unfold toks; rfl
theorem toks_blank {i c : Nat} {r : List Nat} (h : blank c = true) : toks isWord i (c :: r) = toks isWord (i + 1) r := by
  rw [toks]; simp [h]
theorem toks_note {i c : Nat} {r : List Nat} (h : c = 33) : toks isWord i (c :: r) = toks isWord (i + 1 + run notNl r) (r.drop (run notNl r)) := by
  subst h
  rw [toks]; simp [blank]
theorem toks_tok {i c : Nat} {r : List Nat} (h : blank c = false) (h2 : c ≠ 33) :
    toks isWord i (c :: r) = (sortOf isWord ((c :: r).take (tokLen c r)), i, i + tokLen c r) :: toks isWord (i + tokLen c r) (r.drop (run (going c) r)) := by
  rw [toks]; simp [h, h2]
/-- over a text, from a place -/
def from_ (isWord : List Nat → Bool) (l : List Nat) (i : Nat) : List (Srt × Nat × Nat) := toks isWord i (l.drop i)
theorem drop_at {l : List Nat} {i c : Nat} (h : l[i]? = some c) : l.drop i = c :: l.drop (i + 1) := by
  obtain ⟨h1, h2⟩ := List.getElem?_eq_some_iff.mp h
  rw [List.drop_eq_getElem_cons h1, h2]
theorem from_end {l : List Nat} {i : Nat} (h : l.length ≤ i) : from_ isWord l i = [] := by
  unfold from_
  rw [List.drop_eq_nil_of_le h, toks_nil]
theorem from_blank {l : List Nat} {i c : Nat} (h : l[i]? = some c) (hb : blank c = true) : from_ isWord l i = from_ isWord l (i + 1) := by
  unfold from_
  rw [drop_at h, toks_blank hb]
/-- behind the note that begins at i -/
def noteEnd (l : List Nat) (i : Nat) : Nat := i + run notNl (l.drop i)
theorem from_note {l : List Nat} {i c : Nat} (h : l[i]? = some c) (hb : c = 33) : from_ isWord l i = from_ isWord l (noteEnd l (i + 1)) := by
  unfold from_ noteEnd
  rw [drop_at h, toks_note hb, List.drop_drop]
/-- the end of the token that begins at i -/
def tokEnd (l : List Nat) (i : Nat) : Nat := match l[i]? with | some c => i + 1 + run (going c) (l.drop (i + 1)) | none => i
theorem tokEnd_of {l : List Nat} {i c : Nat} (h : l[i]? = some c) : tokEnd l i = i + 1 + run (going c) (l.drop (i + 1)) := by
  unfold tokEnd; rw [h]
theorem tokEnd_le {l : List Nat} {i c : Nat} (h : l[i]? = some c) : tokEnd l i ≤ l.length ∧ i < tokEnd l i := by
  rw [tokEnd_of h]
  have h1 := run_le (going c) (l.drop (i + 1))
  rw [List.length_drop] at h1
  have h2 := (List.getElem?_eq_some_iff.mp h).1
  omega
theorem noteEnd_le {l : List Nat} {i : Nat} (h : i ≤ l.length) : noteEnd l i ≤ l.length ∧ i ≤ noteEnd l i := by
  unfold noteEnd
  have h1 := run_le notNl (l.drop i)
  rw [List.length_drop] at h1
  omega
def piece (l : List Nat) (i j : Nat) : List Nat := (l.drop i).take (j - i)
theorem from_tok {l : List Nat} {i c : Nat} (h : l[i]? = some c) (hb : blank c = false) (h2 : c ≠ 33) :
    from_ isWord l i = (sortOf isWord (piece l i (tokEnd l i)), i, tokEnd l i) :: from_ isWord l (tokEnd l i) := by
  unfold from_ piece
  rw [tokEnd_of h, drop_at h, toks_tok hb h2, List.drop_drop]
  unfold tokLen
  have e1 : i + 1 + run (going c) (List.drop (i + 1) l) - i = run (going c) (List.drop (i + 1) l) + 1 := by omega
  have e2 : i + (run (going c) (List.drop (i + 1) l) + 1) = i + 1 + run (going c) (List.drop (i + 1) l) := by omega
  rw [e1, e2]
theorem piece_head {l : List Nat} {i c : Nat} (h : l[i]? = some c) : ∃ r, piece l i (tokEnd l i) = c :: r := by
  unfold piece
  rw [tokEnd_of h, drop_at h]
  have e1 : i + 1 + run (going c) (List.drop (i + 1) l) - i = run (going c) (List.drop (i + 1) l) + 1 := by omega
  rw [e1]
  exact ⟨_, rfl⟩
theorem piece_one {l : List Nat} {i c : Nat} (h : l[i]? = some c) (h1 : letter c = false) (h2 : digit c = false) : tokEnd l i = i + 1 ∧ piece l i (tokEnd l i) = [c] := by
  have e : run (going c) (l.drop (i + 1)) = 0 := by
    have hg : going c = fun _ => false := by unfold going; simp [h1, h2]
    rw [hg]
    cases l.drop (i + 1) <;> simp [run]
  have e2 : tokEnd l i = i + 1 := by rw [tokEnd_of h, e]
  refine ⟨e2, ?_⟩
  unfold piece
  rw [e2, drop_at h]
  simp
/-! the law's own loop: a place behind which nothing is passed over, a note that is open -/
def resume (isWord : List Nat → Bool) (l : List Nat) (i behind : Nat) (note : Bool) : List (Srt × Nat × Nat) :=
  if note then from_ isWord l (noteEnd l i) else from_ isWord l (max i behind)
theorem noteEnd_step {l : List Nat} {i c : Nat} (h : l[i]? = some c) (hc : c ≠ 10) : noteEnd l i = noteEnd l (i + 1) := by
  unfold noteEnd
  rw [drop_at h]
  have : notNl c = true := by simp [notNl, hc]
  simp [run, this]
  omega
theorem noteEnd_nl {l : List Nat} {i c : Nat} (h : l[i]? = some c) (hc : c = 10) : noteEnd l i = i := by
  unfold noteEnd
  rw [drop_at h]
  have : notNl c = false := by simp [notNl, hc]
  simp [run, this]
theorem resume_nl {l : List Nat} {i behind c : Nat} {note : Bool} (h : l[i]? = some c) (hc : c = 10) (hn : note = true → behind ≤ i) : resume isWord l i behind note = resume isWord l i behind false := by
  cases note with
  | false => rfl
  | true =>
    unfold resume
    rw [noteEnd_nl h hc]
    have := hn rfl
    simp [Nat.max_eq_left this]
theorem resume_end {l : List Nat} {behind : Nat} {note : Bool} (hb : behind ≤ l.length) : resume isWord l l.length behind note = [] := by
  unfold resume
  cases note with
  | false =>
    rw [if_neg (by decide)]
    exact from_end (Nat.le_max_left _ _)
  | true =>
    rw [if_pos rfl]
    exact from_end (noteEnd_le (Nat.le_refl _)).2
theorem resume_behind {l : List Nat} {i behind : Nat} (h : i < behind) : resume isWord l i behind false = resume isWord l (i + 1) behind false := by
  unfold resume
  rw [if_neg (by decide), if_neg (by decide), Nat.max_eq_right (by omega), Nat.max_eq_right (by omega)]
theorem resume_note {l : List Nat} {i behind c : Nat} (h : l[i]? = some c) (hc : c ≠ 10) : resume isWord l i behind true = resume isWord l (i + 1) behind true := by
  unfold resume
  rw [if_pos rfl, if_pos rfl, noteEnd_step h hc]
theorem resume_blank {l : List Nat} {i behind c : Nat} (h : l[i]? = some c) (hb : blank c = true) (hi : behind ≤ i) : resume isWord l i behind false = resume isWord l (i + 1) behind false := by
  unfold resume
  rw [if_neg (by decide), if_neg (by decide), Nat.max_eq_left hi, Nat.max_eq_left (by omega), from_blank h hb]
theorem resume_open {l : List Nat} {i behind c : Nat} (h : l[i]? = some c) (hc : c = 33) (hi : behind ≤ i) : resume isWord l i behind false = resume isWord l (i + 1) (i + 1) true := by
  unfold resume
  rw [if_neg (by decide), if_pos rfl, Nat.max_eq_left hi, from_note h hc]
theorem resume_tok {l : List Nat} {i behind c : Nat} (h : l[i]? = some c) (hb : blank c = false) (h2 : c ≠ 33) (hi : behind ≤ i) :
    resume isWord l i behind false = (sortOf isWord (piece l i (tokEnd l i)), i, tokEnd l i) :: resume isWord l (i + 1) (tokEnd l i) false := by
  unfold resume
  have h3 := (tokEnd_le h).2
  rw [if_neg (by decide), if_neg (by decide), Nat.max_eq_left hi, Nat.max_eq_right (by omega), from_tok h hb h2]
end Tk
/-! Tokens of texts: the defs, their promises. -/
namespace K01
open PySem PySem.Spec PyProof.Rows L2
def top (i : Nat) : Stmt := PySem.Challenge.pw_settledland_k01_tokens_of_texts.main.body.getD i (.Pass ⟨0, 0, 0, 0⟩)
abbrev s_tokens : Stmt := top 7
abbrev N_tokens : List Str := ["text", "found", "at", "end"]
theorem sc_tokens : FnScope N_tokens ["text"] (defScope s_tokens) := ⟨rfl, rfl, rfl, by decide +kernel, rfl, by decide +kernel, by decide +kernel⟩

abbrev s__end_of_note : Stmt := top 8
abbrev N__end_of_note : List Str := ["text", "start", "end"]
theorem sc__end_of_note : FnScope N__end_of_note ["text", "start"] (defScope s__end_of_note) := ⟨rfl, rfl, rfl, by decide +kernel, rfl, by decide +kernel, by decide +kernel⟩

abbrev s__end_of_token : Stmt := top 9
abbrev N__end_of_token : List Str := ["text", "start"]
theorem sc__end_of_token : FnScope N__end_of_token ["text", "start"] (defScope s__end_of_token) := ⟨rfl, rfl, rfl, by decide +kernel, rfl, by decide +kernel, by decide +kernel⟩

abbrev s__end_of_run : Stmt := top 10
abbrev N__end_of_run : List Str := ["text", "start", "characters", "end"]
theorem sc__end_of_run : FnScope N__end_of_run ["text", "start", "characters"] (defScope s__end_of_run) := ⟨rfl, rfl, rfl, by decide +kernel, rfl, by decide +kernel, by decide +kernel⟩

abbrev s__sort_of : Stmt := top 11
abbrev N__sort_of : List Str := ["piece"]
theorem sc__sort_of : FnScope N__sort_of ["piece"] (defScope s__sort_of) := ⟨rfl, rfl, rfl, by decide +kernel, rfl, by decide +kernel, by decide +kernel⟩

abbrev s__law_tape : Stmt := top 13
abbrev N__law_tape : List Str := ["script", "cells", "seed", "cell"]
theorem sc__law_tape : FnScope N__law_tape ["script"] (defScope s__law_tape) := ⟨rfl, rfl, rfl, by decide +kernel, rfl, by decide +kernel, by decide +kernel⟩

abbrev s__law_take : Stmt := top 14
abbrev N__law_take : List Str := ["tape", "many", "drawn", "mixed"]
theorem sc__law_take : FnScope N__law_take ["tape", "many"] (defScope s__law_take) := ⟨rfl, rfl, rfl, by decide +kernel, rfl, by decide +kernel, by decide +kernel⟩

abbrev s__law_is_integer : Stmt := top 15
abbrev N__law_is_integer : List Str := ["actual"]
theorem sc__law_is_integer : FnScope N__law_is_integer ["actual"] (defScope s__law_is_integer) := ⟨rfl, rfl, rfl, by decide +kernel, rfl, by decide +kernel, by decide +kernel⟩

abbrev s__law_same_items : Stmt := top 16
abbrev N__law_same_items : List Str := ["actual", "expected", "k"]
theorem sc__law_same_items : FnScope N__law_same_items ["actual", "expected"] (defScope s__law_same_items) := ⟨rfl, rfl, rfl, by decide +kernel, rfl, by decide +kernel, by decide +kernel⟩

abbrev s__law_same : Stmt := top 17
abbrev N__law_same : List Str := ["actual", "expected", "key"]
theorem sc__law_same : FnScope N__law_same ["actual", "expected"] (defScope s__law_same) := ⟨rfl, rfl, rfl, by decide +kernel, rfl, by decide +kernel, by decide +kernel⟩

abbrev s__law_letter : Stmt := top 18
abbrev N__law_letter : List Str := ["char"]
theorem sc__law_letter : FnScope N__law_letter ["char"] (defScope s__law_letter) := ⟨rfl, rfl, rfl, by decide +kernel, rfl, by decide +kernel, by decide +kernel⟩

abbrev s__law_digit : Stmt := top 19
abbrev N__law_digit : List Str := ["char"]
theorem sc__law_digit : FnScope N__law_digit ["char"] (defScope s__law_digit) := ⟨rfl, rfl, rfl, by decide +kernel, rfl, by decide +kernel, by decide +kernel⟩

abbrev s__law_stretch : Stmt := top 20
abbrev N__law_stretch : List Str := ["text", "at", "number", "end", "char", "inside"]
theorem sc__law_stretch : FnScope N__law_stretch ["text", "at"] (defScope s__law_stretch) := ⟨rfl, rfl, rfl, by decide +kernel, rfl, by decide +kernel, by decide +kernel⟩

abbrev s__law_tokens : Stmt := top 21
abbrev N__law_tokens : List Str := ["text", "words", "found", "behind", "comment", "at", "char"]
theorem sc__law_tokens : FnScope N__law_tokens ["text"] (defScope s__law_tokens) := ⟨rfl, rfl, rfl, by decide +kernel, rfl, by decide +kernel, by decide +kernel⟩

abbrev s__law_scraps : Stmt := top 22
abbrev N__law_scraps : List Str := ["tape", "most", "words", "k"]
theorem sc__law_scraps : FnScope N__law_scraps ["tape", "most"] (defScope s__law_scraps) := ⟨rfl, rfl, rfl, by decide +kernel, rfl, by decide +kernel, by decide +kernel⟩

abbrev s_law : Stmt := top 23
abbrev N_law : List Str := ["script", "tape", "k", "text"]
theorem sc_law : FnScope N_law ["script"] (defScope s_law) := ⟨rfl, rfl, rfl, by decide +kernel, rfl, by decide +kernel, by decide +kernel⟩

/-! ### what the walk asks of the module -/
abbrev sBLANKS : Str := Str.ofString " \n"
abbrev sDIGITS : Str := Str.ofString "0123456789"
abbrev sLETTERS : Str := Str.ofString "abcdefghijklmnopqrstuvwxyzABCDEFGHIJKLMNOPQRSTUVWXYZ"
abbrev sNAMES : Str := Str.ofString "abcdefghijklmnopqrstuvwxyzABCDEFGHIJKLMNOPQRSTUVWXYZ0123456789_.#"
abbrev sSIGNS : Str := Str.ofString "{}:;=*+"
def wordL : List Str := ["kind", "number", "ref", "fixed", "empty", "single", "thing", "none", "index", "told", "keep", "adopt", "as", "move", "to", "most"]
structure Txt (K : PySem.W.Frag) (mg : Str → Option Value) (a_WORDS : Addr) : Prop where
  g_BLANKS : ∃ u, mg "BLANKS" = some u ∧ RelV (.str sBLANKS) u
  g_DIGITS : ∃ u, mg "DIGITS" = some u ∧ RelV (.str sDIGITS) u
  g_LETTERS : ∃ u, mg "LETTERS" = some u ∧ RelV (.str sLETTERS) u
  g_NAME_CHARACTERS : ∃ u, mg "NAME_CHARACTERS" = some u ∧ RelV (.str sNAMES) u
  g_SIGNS : ∃ u, mg "SIGNS" = some u ∧ RelV (.str sSIGNS) u
  g_WORDS : ∃ u, mg "WORDS" = some u ∧ RelV (.ref a_WORDS) u
  o_WORDS : ∀ H, SqT K H a_WORDS (wordL.map V.str)
  b_len : mg "len" = none
  b_range : mg "range" = none
  b_abs : mg "abs" = none
  b_int : mg "int" = none
  b_str : mg "str" = none
  b_bool : mg "bool" = none
  b_tuple : mg "tuple" = none
  b_list : mg "list" = none
  b_isinstance : mg "isinstance" = none
/-! ### signs -/
theorem lt1 (c d : Nat) : decide (([c] : List Nat) < [d]) = decide (c < d) := by
  apply decide_eq_decide.mpr
  rw [List.cons_lt_cons_iff]
  constructor
  · rintro (h | ⟨_, h⟩)
    · exact h
    · exact absurd h (List.not_lt_nil _)
  · exact fun h => .inl h
theorem le1 (c d : Nat) : (!decide (([c] : List Nat) < [d])) = decide (d ≤ c) := by
  rw [lt1]
  by_cases h : c < d
  · simp [h]
  · simp [h]; omega
theorem ofs_a : (Str.ofString "a").cps.toList = [97] := by decide +kernel
theorem ofs_z : (Str.ofString "z").cps.toList = [122] := by decide +kernel
theorem ofs_A : (Str.ofString "A").cps.toList = [65] := by decide +kernel
theorem ofs_Z : (Str.ofString "Z").cps.toList = [90] := by decide +kernel
theorem ofs_0 : (Str.ofString "0").cps.toList = [48] := by decide +kernel
theorem ofs_9 : (Str.ofString "9").cps.toList = [57] := by decide +kernel
theorem cp_one (c : Nat) : (⟨#[c]⟩ : Str).cps.toList = [c] := rfl
theorem mem_rg {c a n : Nat} : c ∈ List.range' a n ↔ a ≤ c ∧ c < a + n := by
  rw [List.mem_range'_1]
theorem letters_eq : sLETTERS.cps.toList = List.range' 97 26 ++ List.range' 65 26 := by decide +kernel
theorem digits_eq : sDIGITS.cps.toList = List.range' 48 10 := by decide +kernel
theorem names_eq : sNAMES.cps.toList = List.range' 97 26 ++ List.range' 65 26 ++ List.range' 48 10 ++ [95, 46, 35] := by decide +kernel
theorem blanks_eq : sBLANKS.cps.toList = [32, 10] := by decide +kernel
theorem signs_eq : sSIGNS.cps.toList = [123, 125, 58, 59, 61, 42, 43] := by decide +kernel
theorem three_eq : (Str.ofString "_.#").cps.toList = [95, 46, 35] := by decide +kernel
theorem beq_of {a b : Bool} (h : a = true ↔ b = true) : a = b := by
  cases a <;> cases b <;> simp_all
theorem in_letters (c : Nat) : decide (c ∈ sLETTERS.cps.toList) = Tk.letter c := by
  rw [letters_eq]
  refine beq_of ?_
  simp only [decide_eq_true_eq, List.mem_append, mem_rg, Tk.letter, Bool.or_eq_true, Bool.and_eq_true]
  omega
theorem in_digits (c : Nat) : decide (c ∈ sDIGITS.cps.toList) = Tk.digit c := by
  rw [digits_eq]
  refine beq_of ?_
  simp only [decide_eq_true_eq, mem_rg, Tk.digit, Bool.and_eq_true]
  omega
theorem in_names (c : Nat) : decide (c ∈ sNAMES.cps.toList) = Tk.inner c := by
  rw [names_eq]
  refine beq_of ?_
  simp only [decide_eq_true_eq, List.mem_append, mem_rg, Tk.inner, Tk.letter, Tk.digit, Bool.or_eq_true, Bool.and_eq_true, List.mem_cons, List.not_mem_nil, or_false, beq_iff_eq]
  omega
theorem in_three (c : Nat) : decide (c ∈ (Str.ofString "_.#").cps.toList) = (c == 95 || c == 46 || c == 35) := by
  rw [three_eq]
  refine beq_of ?_
  simp [or_assoc]
theorem in_blanks (c : Nat) : decide (c ∈ sBLANKS.cps.toList) = Tk.blank c := by
  rw [blanks_eq]
  refine beq_of ?_
  simp [Tk.blank]
theorem in_signs (c : Nat) : decide (c ∈ sSIGNS.cps.toList) = Tk.signC c := by
  rw [signs_eq]
  refine beq_of ?_
  simp [Tk.signC]
/-! ### small defs of the law -/
abbrev one (c : Nat) : V := .str ⟨#[c]⟩
abbrev txt (l : List Nat) : V := .str ⟨l.toArray⟩
def spLetter : Sp := fun vs H Q _ => ∃ c : Nat, vs = [one c] ∧ Q (.bl (Tk.letter c)) H
def spDigit : Sp := fun vs H Q _ => ∃ c : Nat, vs = [one c] ∧ Q (.bl (Tk.digit c)) H
section
variable {P : Program} {w : World} {K : PySem.W.Frag} {mg : Str → Option Value} {base : Heap} {a_WORDS : Addr}
/-- a def by its body, as one that may be called by its name -/
theorem cal {x : Str} {st : Stmt} {f : Addr} {fd : FuncData} {ps : List Str} {k : Nat} {sp : Sp} (F : Fun K x x st f fd) (gf : mg x = some (.ref f)) (b : Binds K fd ps []) (G : FnOk P w K mg base CX0 k f fd ps sp) : C8.Cal P w K mg base k x sp [] :=
  ⟨f, fd, ps, [], G, gf, F.kp, b, .nil⟩
theorem ok__law_letter {f : Addr} {fd : FuncData} (F : Fun K "_law_letter" "_law_letter" s__law_letter f fd) : FnOk P w K mg base CX0 1 f fd ["char"] spLetter := by
  refine F.ok sc__law_letter (fun vs H Q E h => ?_) (fun cdv A outer s H vs Q E hr h => ?_)
  · obtain ⟨c, rfl, _⟩ := h
    rfl
  · obtain ⟨c, rfl, k⟩ := h
    refine ⟨_, (pss_one (ps_ret (pe_or (pe_chain op_le_str op_le_str pe_str (pv 0) pe_str) (pe_one (pe_chain op_le_str op_le_str pe_str (pv 0) pe_str))))), ?_⟩
    refine ⟨_, rfl, _, _, rfl, rfl, _, rfl, ?_⟩
    rw [cp_one, ofs_a, le1]
    have e : Tk.letter c = ((decide (97 ≤ c) && decide (c ≤ 122)) || (decide (65 ≤ c) && decide (c ≤ 90))) := rfl
    rw [e] at k
    cases h1 : decide (97 ≤ c) with
    | true =>
      refine iteT ⟨_, _, rfl, rfl, ?_⟩
      rw [cp_one, ofs_z, le1]
      refine ⟨_, rfl, ?_⟩
      rw [h1] at k
      cases h2 : decide (c ≤ 122) with
      | true =>
        rw [h2] at k
        exact iteT k
      | false =>
        refine iteF ⟨_, rfl, _, _, rfl, rfl, _, rfl, ?_⟩
        rw [cp_one, ofs_A, le1]
        have h3 : decide (65 ≤ c) = true := by simp at h1 ⊢; omega
        have h4 : decide (c ≤ 90) = false := by simp at h1 ⊢; omega
        rw [h2, h3, h4] at k
        rw [h3]
        refine iteT ⟨_, _, rfl, rfl, ?_⟩
        rw [cp_one, ofs_Z, le1, h4]
        exact k
    | false =>
      refine iteF ⟨_, rfl, iteF ⟨_, rfl, _, _, rfl, rfl, _, rfl, ?_⟩⟩
      rw [h1] at k
      rw [cp_one, ofs_A, le1]
      cases h3 : decide (65 ≤ c) with
      | true =>
        refine iteT ⟨_, _, rfl, rfl, ?_⟩
        rw [h3] at k
        rw [cp_one, ofs_Z, le1]
        simpa using k
      | false =>
        refine iteF ?_
        rw [h3] at k
        simpa using k
theorem ok__law_digit {f : Addr} {fd : FuncData} (F : Fun K "_law_digit" "_law_digit" s__law_digit f fd) : FnOk P w K mg base CX0 1 f fd ["char"] spDigit := by
  refine F.ok sc__law_digit (fun vs H Q E h => ?_) (fun cdv A outer s H vs Q E hr h => ?_)
  · obtain ⟨c, rfl, _⟩ := h
    rfl
  · obtain ⟨c, rfl, k⟩ := h
    refine ⟨_, (pss_one (ps_ret (pe_chain op_le_str op_le_str pe_str (pv 0) pe_str))), ?_⟩
    refine ⟨_, rfl, _, _, rfl, rfl, _, rfl, ?_⟩
    rw [cp_one, ofs_0, le1]
    have e : Tk.digit c = (decide (48 ≤ c) && decide (c ≤ 57)) := rfl
    rw [e] at k
    cases h1 : decide (48 ≤ c) with
    | true =>
      refine iteT ⟨_, _, rfl, rfl, ?_⟩
      rw [h1] at k
      rw [cp_one, ofs_9, le1]
      simpa using k
    | false =>
      refine iteF ?_
      rw [h1] at k
      simpa using k
end
end K01
namespace K01
open PySem PySem.Spec PyProof.Rows L2
theorem slen (l : List Nat) : (⟨l.toArray⟩ : Str).length = l.length := by simp [Str.length]
theorem stl (l : List Nat) : (⟨l.toArray⟩ : Str).cps.toList = l := by simp
theorem szl {n : Nat} (h : n ≤ 100000) : n ≤ sizeLine := Nat.le_trans h (by decide)
theorem szt {l : List Nat} (h : l.length ≤ 100000) : (⟨l.toArray⟩ : Str).length ≤ sizeLine := by
  rw [slen]; exact szl h
theorem at_txt {l : List Nat} {i c : Nat} (h : l[i]? = some c) : atI (⟨l.toArray⟩ : Str).cps.toList (i : Int) = some c := by
  rw [stl]; exact atI_nat h
theorem getD_of {l : List Nat} {i : Nat} (h : i < l.length) : ∃ c, l[i]? = some c := ⟨l[i], List.getElem?_eq_getElem h⟩
/-- the run of the signs of a text -/
def spRun : Sp := fun vs H Q _ => ∃ (l : List Nat) (i : Nat) (ch : Str) (p : Nat → Bool), vs = [txt l, .int i, .str ch] ∧ l.length ≤ 100000 ∧ i ≤ l.length ∧ (∀ c, decide (c ∈ ch.cps.toList) = p c) ∧ Q (.int ((i + Tk.run p (l.drop i) : Nat) : Int)) H
theorem run_step {p : Nat → Bool} {l : List Nat} {e c : Nat} (h : l[e]? = some c) (hp : p c = true) : e + Tk.run p (l.drop e) = e + 1 + Tk.run p (l.drop (e + 1)) := by
  rw [Tk.drop_at h]
  simp [Tk.run, hp]
  omega
theorem run_stop {p : Nat → Bool} {l : List Nat} {e c : Nat} (h : l[e]? = some c) (hp : p c = false) : e + Tk.run p (l.drop e) = e := by
  rw [Tk.drop_at h]
  simp [Tk.run, hp]
theorem run_over {p : Nat → Bool} {l : List Nat} {e : Nat} (h : l.length ≤ e) : e + Tk.run p (l.drop e) = e := by
  rw [List.drop_eq_nil_of_le h]
  rfl
section
variable {P : Program} {w : World} {K : PySem.W.Frag} {mg : Str → Option Value} {base : Heap} {a_WORDS : Addr}
theorem ok__end_of_run {f : Addr} {fd : FuncData} (F : Fun K "_end_of_run" "_end_of_run" s__end_of_run f fd) (T : Txt K mg a_WORDS) : FnOk P w K mg base CX0 1 f fd ["text", "start", "characters"] spRun := by
  refine F.ok sc__end_of_run (fun vs H Q E h => ?_) (fun cdv A outer s H vs Q E hr h => ?_)
  · obtain ⟨l, i, ch, p, rfl, _⟩ := h
    rfl
  · obtain ⟨l, i, ch, p, rfl, hl, hi, hp, k⟩ := h
    refine ⟨_, (pss_cons (ps_set (i := 3) sc__end_of_run.nd rfl (Or.inl rfl) (pv 1))
    (pss_cons (ps_while PassesOwn.never (PW.pt (pw_and (pt_cmpR op_lt (pv 3) (pe_callB call_len_str (by rfl) T.b_len (by decide +kernel) (pa_cons (pv 0) pa_nil)) (nomark _)) (pw_and1 (pt_cmpR op_in_sign (pe_ix ix_str (pv 0) (pv 3) (fun _ _ => rfl)) (pv 2) (by rfl)))))
      (pss_one (ps_aug (i := 3) sc__end_of_run.nd rfl (Or.inl rfl) pe_int ip_add)))
    (pss_one (ps_ret (pv 3))))), ?_⟩
    refine ⟨_, rfl, fun m σ H' => ∃ e : Nat, σ = [some (txt l), some (.int i), some (.str ch), some (.int e)] ∧ H' = H ∧ e ≤ l.length ∧ m = l.length - e ∧ e + Tk.run p (l.drop e) = i + Tk.run p (l.drop i), ⟨_, i, rfl, rfl, hi, rfl, rfl⟩, fun m σ H' hW => ?_⟩
    obtain ⟨e, rfl, rfl, he, rfl, hr'⟩ := hW
    refine ⟨_, rfl, _, rfl, _, rfl, szt hl, _, _, rfl, rfl, _, rfl, ?_⟩
    rw [slen]
    refine ite2 (fun h1 => ?_) (fun h1 => ?_)
    · have h1 : e < l.length := by simpa using h1
      obtain ⟨c, hc⟩ := getD_of h1
      refine ⟨_, rfl, _, rfl, _, _, c, rfl, rfl, szt hl, at_txt hc, _, rfl, _, _, rfl, rfl, _, rfl, ?_⟩
      rw [hp]
      refine ite2 (fun h2 => ?_) (fun h2 => ?_)
      · refine ⟨fun σ' H'' => ∃ e' : Nat, σ' = [some (txt l), some (.int i), some (.str ch), some (.int e')] ∧ H'' = H' ∧ e' = e + 1, fun σ' H'' hN => ?_, ?_⟩
        · obtain ⟨e', rfl, rfl, rfl⟩ := hN
          exact ⟨l.length - (e + 1), by omega, e + 1, rfl, rfl, h1, rfl, by rw [← run_step hc h2, hr']⟩
        · exact ⟨_, rfl, _, _, rfl, rfl, e + 1, rfl, rfl, rfl⟩
      · have h2 : p c = false := by simpa using h2
        rw [run_stop hc h2] at hr'
        refine ⟨_, rfl, ?_⟩
        rw [hr']
        exact k
    · have h1 : l.length ≤ e := by simpa using h1
      rw [run_over h1] at hr'
      refine ⟨_, rfl, ?_⟩
      rw [hr']
      exact k
end
end K01
namespace K01
open PySem PySem.Spec PyProof.Rows L2
theorem range_pre {s n a : Nat} {pre post : List Nat} (h : List.range' s n = pre ++ a :: post) : ∀ k, s ≤ k → k < a → k ∈ pre := by
  intro k h1 h2
  have ha : a ∈ List.range' s n := by rw [h]; simp
  have ha2 := List.mem_range'_1.mp ha
  have hk : k ∈ List.range' s n := List.mem_range'_1.mpr ⟨h1, by omega⟩
  rw [h, List.mem_append, List.mem_cons] at hk
  have pw : (List.range' s n).Pairwise (· < ·) := List.pairwise_lt_range'
  rw [h, List.pairwise_append, List.pairwise_cons] at pw
  rcases hk with hk | hk | hk
  · exact hk
  · omega
  · exact absurd (pw.2.1.1 k hk) (by omega)
theorem from_nat (n i : Nat) : fromIndex n (i : Int) = i := by
  unfold fromIndex
  rw [if_neg (by omega)]
  omega
theorem find3_one (l : List Nat) (c i : Nat) (hi : i ≤ l.length) :
    Txt.find3 ⟨l.toArray⟩ ⟨#[c]⟩ (i : Int) = if i + Tk.run (fun d => !(d == c)) (l.drop i) < l.length then ((i + Tk.run (fun d => !(d == c)) (l.drop i) : Nat) : Int) else -1 := by
  unfold Txt.find3
  rw [from_nat, StrLaws.occ_eq]
  have hr := Tk.run_le (fun d => !(d == c)) (l.drop i)
  rw [List.length_drop] at hr
  rcases StrLaws.occ_first (⟨l.toArray⟩ : Str) ⟨#[c]⟩ (⟨l.toArray⟩ : Str).length 1 (Nat.le_refl _) (List.range' i ((⟨l.toArray⟩ : Str).length + 1 - i)) i (fun k hk => (List.mem_range'_1.mp hk).1) with ⟨h0, hn⟩ | ⟨pre, a, post, e, h0, ha, hn⟩
  · rw [h0]
    rw [if_neg]
    intro hlt
    obtain ⟨d, hd⟩ : ∃ d, (l.drop i)[Tk.run (fun d => !(d == c)) (l.drop i)]? = some d := ⟨_, List.getElem?_eq_getElem (by rw [List.length_drop]; omega)⟩
    have h1 := Tk.run_end hd
    have h2 : d = c := by simpa using h1
    rw [List.getElem?_drop, h2] at hd
    refine hn (i + Tk.run (fun d => !(d == c)) (l.drop i)) (List.mem_range'_1.mpr ⟨Nat.le_add_right _ _, by rw [slen]; omega⟩) ?_
    exact (StrLaws.subAt_one _ c _).mpr (by rw [stl]; exact hd)
  · have hat : l[a]? = some c := by
      have := (StrLaws.subAt_one (⟨l.toArray⟩ : Str) c a).mp ha
      rwa [stl] at this
    have hal := (List.getElem?_eq_some_iff.mp hat).1
    have hai : i ≤ a := (List.mem_range'_1.mp (by rw [e]; simp : a ∈ List.range' i ((⟨l.toArray⟩ : Str).length + 1 - i))).1
    have er : Tk.run (fun d => !(d == c)) (l.drop i) = a - i := by
      refine Tk.run_eq (by rw [List.length_drop]; omega) (fun k d hk hd => ?_) (fun d hd => ?_)
      · rw [List.getElem?_drop] at hd
        by_cases h : d = c
        · subst h
          exact absurd ((StrLaws.subAt_one _ d _).mpr (by rw [stl]; exact hd)) (hn (i + k) (range_pre e _ (by omega) (by omega)))
        · simp [h]
      · rw [List.getElem?_drop, show i + (a - i) = a by omega, hat] at hd
        have : c = d := Option.some.inj hd
        simp [this]
    rw [er, if_pos (by omega)]
    generalize (forIn (List.range' i ((⟨l.toArray⟩ : Str).length + 1 - i)) ((#[] : Array Nat), i) (StrLaws.occBody (⟨l.toArray⟩ : Str) ⟨#[c]⟩ (⟨l.toArray⟩ : Str).length 1)).run.fst = arr at h0
    have h1 : arr.toList[0]? = some a := by simpa using h0
    cases hL : arr.toList with
    | nil => rw [hL] at h1; cases h1
    | cons b t =>
      rw [hL] at h1
      have : b = a := by simpa using h1
      subst this
      show ((b : Nat) : Int) = _
      omega
theorem nl_eq : Str.ofString "\n" = ⟨#[10]⟩ := by decide +kernel
def spNote : Sp := fun vs H Q _ => ∃ (l : List Nat) (i : Nat), vs = [txt l, .int i] ∧ l.length ≤ 100000 ∧ i ≤ l.length ∧ Q (.int (Tk.noteEnd l i : Int)) H
def spEnd : Sp := fun vs H Q _ => ∃ (l : List Nat) (i c : Nat), vs = [txt l, .int i] ∧ l.length ≤ 100000 ∧ l[i]? = some c ∧ Q (.int (Tk.tokEnd l i : Int)) H
/-- a text is a word -/
def isWord (p : List Nat) : Bool := wordL.any fun y => decide (y = ⟨p.toArray⟩)
def sortS : Tk.Srt → Str
  | .word => "word" | .name => "name" | .number => "number" | .sign => "sign" | .wrong => "wrong"
def spSort : Sp := fun vs H Q _ => ∃ (c : Nat) (r : List Nat), vs = [txt (c :: r)] ∧ (c :: r).length ≤ 100000 ∧ (Tk.letter c = false → Tk.digit c = false → r = []) ∧ Q (.str (sortS (Tk.sortOf isWord (c :: r)))) H
theorem run_none (l : List Nat) : Tk.run (fun _ => false) l = 0 := by
  cases l <;> simp [Tk.run]
section
variable {P : Program} {w : World} {K : PySem.W.Frag} {mg : Str → Option Value} {base : Heap} {a_WORDS : Addr}
theorem ok__end_of_note {f : Addr} {fd : FuncData} (F : Fun K "_end_of_note" "_end_of_note" s__end_of_note f fd) (T : Txt K mg a_WORDS) : FnOk P w K mg base CX0 1 f fd ["text", "start"] spNote := by
  refine F.ok sc__end_of_note (fun vs H Q E h => ?_) (fun cdv A outer s H vs Q E hr h => ?_)
  · obtain ⟨l, i, rfl, _⟩ := h
    rfl
  · obtain ⟨l, i, rfl, hl, hi, k⟩ := h
    refine ⟨_, (pss_cons (ps_set (i := 2) sc__end_of_note.nd rfl (Or.inl rfl) (pe_bm PySem.F.plainAttrs_str PySem.F.slot_str_find PySem.F.type_str_find mt_find3 (pv 0) (pa_cons pe_str (pa_cons (pv 1) pa_nil))))
    (pss_one (ps_ret (pe_ifExp (pt_cmpR op_lt (pv 2) pe_int (nomark _)) (pe_callB call_len_str (by rfl) T.b_len (by decide +kernel) (pa_cons (pv 0) pa_nil)) (pv 2))))), ?_⟩
    refine ⟨_, rfl, rfl, _, rfl, _, _, _, rfl, rfl, ?_⟩
    have e : Txt.find3 ⟨l.toArray⟩ (Str.ofString "\n") (i : Int) = if Tk.noteEnd l i < l.length then ((Tk.noteEnd l i : Nat) : Int) else -1 := by
      rw [nl_eq]
      exact find3_one l 10 i hi
    refine ⟨_, rfl, _, _, rfl, rfl, _, rfl, ?_⟩
    rw [e]
    have h2 := (Tk.noteEnd_le hi).1
    by_cases h : Tk.noteEnd l i < l.length
    · rw [if_pos h, decide_eq_false (by omega)]
      refine iteF ⟨_, rfl, ?_⟩
      exact k
    · rw [if_neg h, decide_eq_true (by omega)]
      refine iteT ⟨_, rfl, _, rfl, szt hl, ?_⟩
      rw [slen]
      have : Tk.noteEnd l i = l.length := by omega
      rw [this] at k
      exact k
theorem ok__end_of_token {f : Addr} {fd : FuncData} (F : Fun K "_end_of_token" "_end_of_token" s__end_of_token f fd) (T : Txt K mg a_WORDS) (c__end_of_run : C8.Cal P w K mg base 1 "_end_of_run" spRun []) : FnOk P w K mg base CX0 2 f fd ["text", "start"] spEnd := by
  refine F.ok sc__end_of_token (fun vs H Q E h => ?_) (fun cdv A outer s H vs Q E hr h => ?_)
  · obtain ⟨l, i, c, rfl, _⟩ := h
    rfl
  · obtain ⟨l, i, c, rfl, hl, hc, k⟩ := h
    rw [Tk.tokEnd_of hc] at k
    have hi := (List.getElem?_eq_some_iff.mp hc).1
    refine ⟨_, (pss_cons (ps_if (pt_cmpR op_in_sign (pe_ix ix_str (pv 0) (pv 1) (fun _ _ => rfl)) (C8.pe_gc rfl T.g_LETTERS) (by rfl))
      (pss_one (ps_ret (C8.pe_c c__end_of_run hr (by first | decide | omega) rfl (pa_cons (pv 0) (pa_cons (pv 1) (pa_cons (C8.pe_gc rfl T.g_NAME_CHARACTERS) pa_nil))))))
      pss_nil)
    (pss_cons (ps_if (pt_cmpR op_in_sign (pe_ix ix_str (pv 0) (pv 1) (fun _ _ => rfl)) (C8.pe_gc rfl T.g_DIGITS) (by rfl))
      (pss_one (ps_ret (C8.pe_c c__end_of_run hr (by first | decide | omega) rfl (pa_cons (pv 0) (pa_cons (pv 1) (pa_cons (C8.pe_gc rfl T.g_DIGITS) pa_nil))))))
      pss_nil)
    (pss_one (ps_ret (pe_op op_add (pv 1) pe_int))))), ?_⟩
    refine ⟨_, rfl, _, rfl, _, _, c, rfl, rfl, szt hl, at_txt hc, _, _, rfl, rfl, _, rfl, ?_⟩
    rw [in_letters]
    cases h1 : Tk.letter c with
    | true =>
      have hg : Tk.going c = Tk.inner := by unfold Tk.going; simp [h1]
      have hp : Tk.inner c = true := by unfold Tk.inner; simp [h1]
      rw [hg, ← run_step hc hp] at k
      exact iteT ⟨_, rfl, _, rfl, l, i, _, Tk.inner, rfl, hl, by omega, in_names, k⟩
    | false =>
      refine iteF ⟨_, rfl, _, rfl, _, _, c, rfl, rfl, szt hl, at_txt hc, _, _, rfl, rfl, _, rfl, ?_⟩
      rw [in_digits]
      cases h2 : Tk.digit c with
      | true =>
        have hg : Tk.going c = Tk.digit := by unfold Tk.going; simp [h1, h2]
        rw [hg, ← run_step hc h2] at k
        exact iteT ⟨_, rfl, _, rfl, l, i, _, Tk.digit, rfl, hl, by omega, in_digits, k⟩
      | false =>
        refine iteF ⟨_, rfl, _, _, rfl, rfl, ?_⟩
        have hg : Tk.going c = fun _ => false := by unfold Tk.going; simp [h1, h2]
        rw [hg, run_none] at k
        exact k
theorem words_letters : (wordL.all fun y => match y.cps.toList with | c :: _ => Tk.letter c | [] => false) = true := by decide +kernel
theorem word_letter {c : Nat} {r : List Nat} (h : isWord (c :: r) = true) : Tk.letter c = true := by
  unfold isWord at h
  obtain ⟨y, hy, e⟩ := List.any_eq_true.mp h
  have e := of_decide_eq_true e
  have h2 := List.all_eq_true.mp words_letters y hy
  rw [e] at h2
  exact h2
theorem words_flat : (wordL.map V.str).all flatV = true := by decide +kernel
theorem inV_word (p : List Nat) : inV (.str ⟨p.toArray⟩) (wordL.map V.str) = isWord p := by
  unfold inV isWord
  rw [List.any_map]
  rfl
theorem ok__sort_of {f : Addr} {fd : FuncData} (F : Fun K "_sort_of" "_sort_of" s__sort_of f fd) (T : Txt K mg a_WORDS) : FnOk P w K mg base CX0 1 f fd ["piece"] spSort := by
  refine F.ok sc__sort_of (fun vs H Q E h => ?_) (fun cdv A outer s H vs Q E hr h => ?_)
  · obtain ⟨c, r, rfl, _⟩ := h
    rfl
  · obtain ⟨c, r, rfl, hl, h1, k⟩ := h
    have e : Tk.sortOf isWord (c :: r) = if Tk.letter c then (if isWord (c :: r) then .word else .name) else if Tk.digit c then .number else if Tk.signC c then .sign else .wrong := rfl
    refine ⟨_, (pss_cons (ps_if (pt_cmpR op_in_seq (pv 0) (C8.pe_gc rfl T.g_WORDS) (by rfl))
      (pss_one (ps_ret pe_str))
      pss_nil)
    (pss_cons (ps_if (pt_cmpR op_in_sign (pe_ix ix_str (pv 0) pe_int (fun _ _ => rfl)) (C8.pe_gc rfl T.g_LETTERS) (by rfl))
      (pss_one (ps_ret pe_str))
      pss_nil)
    (pss_cons (ps_if (pt_cmpR op_in_sign (pe_ix ix_str (pv 0) pe_int (fun _ _ => rfl)) (C8.pe_gc rfl T.g_DIGITS) (by rfl))
      (pss_one (ps_ret pe_str))
      pss_nil)
    (pss_cons (ps_if (pt_cmpR op_in_sign (pv 0) (C8.pe_gc rfl T.g_SIGNS) (by rfl))
      (pss_one (ps_ret pe_str))
      pss_nil)
    (pss_one (ps_ret pe_str)))))), ?_⟩
    refine ⟨_, rfl, a_WORDS, _, rfl, Or.inr (T.o_WORDS _), rfl, words_flat, _, rfl, ?_⟩
    show (if inV (txt (c :: r)) (wordL.map V.str) = true then _ else _ : Prop)
    rw [inV_word]
    cases hw : isWord (c :: r) with
    | true =>
      rw [e, if_pos (word_letter hw), if_pos hw] at k
      exact iteT k
    | false =>
      refine iteF ⟨_, rfl, _, _, c, rfl, rfl, szt hl, at_txt (l := c :: r) (i := 0) rfl, _, _, rfl, rfl, _, rfl, ?_⟩
      rw [in_letters]
      cases h2 : Tk.letter c with
      | true =>
        rw [e, if_pos h2, hw] at k
        exact iteT k
      | false =>
        refine iteF ⟨_, rfl, _, _, c, rfl, rfl, szt hl, at_txt (l := c :: r) (i := 0) rfl, _, _, rfl, rfl, _, rfl, ?_⟩
        rw [in_digits]
        cases h3 : Tk.digit c with
        | true =>
          rw [e, h2, h3] at k
          exact iteT k
        | false =>
          obtain rfl := h1 h2 h3
          refine iteF ⟨_, rfl, _, _, rfl, rfl, _, rfl, ?_⟩
          rw [in_signs]
          cases h4 : Tk.signC c with
          | true =>
            rw [e, h2, h3, h4] at k
            exact iteT k
          | false =>
            rw [e, h2, h3, h4] at k
            exact iteF k
end
end K01
namespace K01
open PySem PySem.Spec PyProof.Rows L2
/-! ### data in heaps that grow -/
theorem same_seqT {K : PySem.W.Frag} {H H' : Hp} {a : Addr} {xs : List V} (e : Same H H') (h : SqT K H a xs) : SqT K H' a xs := by
  rcases h with (h | ⟨o, h⟩) | h
  · exact .inl (.inl (e _ _ h))
  · exact .inl (.inr ⟨o, e _ _ h⟩)
  · exact .inr h
mutual
theorem dp_mono {K : PySem.W.Frag} {H H' : Hp} (e : Same H H') : ∀ (d : PyData) (v : V), Dp K H v d → Dp K H' v d
  | .none, _, h => by cases h; exact .non
  | .bool b, _, h => by cases h; exact .bl b
  | .int i, _, h => by cases h; exact .int i
  | .str x, _, h => by cases h; exact .str x
  | .list ds, _, h => by
    cases h with
    | lst hs ha => exact .lst (e.seq hs) (dpAll_mono e ds _ ha)
  | .tuple ds, _, h => by
    cases h with
    | tup hs ha => exact .tup (same_seqT e hs) (dpAll_mono e ds _ ha)
  | .dict _, _, h => by cases h
theorem dpAll_mono {K : PySem.W.Frag} {H H' : Hp} (e : Same H H') : ∀ (ds : List PyData) (vs : List V), DpAll K H vs ds → DpAll K H' vs ds
  | [], _, h => by cases h; exact .nil
  | d :: ds, _, h => by
    cases h with
    | cons h1 h2 => exact .cons (dp_mono e d _ h1) (dpAll_mono e ds _ h2)
end
theorem dpAll_snoc {K : PySem.W.Frag} {H : Hp} : ∀ {vs : List V} {ds : List PyData} {v : V} {d : PyData}, DpAll K H vs ds → Dp K H v d → DpAll K H (vs ++ [v]) (ds ++ [d])
  | _, _, _, _, .nil, h => .cons h .nil
  | _, _, _, _, .cons a b, h => .cons a (dpAll_snoc b h)
theorem dpAll_len {K : PySem.W.Frag} {H : Hp} : ∀ {vs : List V} {ds : List PyData}, DpAll K H vs ds → vs.length = ds.length
  | _, _, .nil => rfl
  | _, _, .cons _ b => congrArg (· + 1) (dpAll_len b)
theorem dpAll_get {K : PySem.W.Frag} {H : Hp} : ∀ {vs : List V} {ds : List PyData} {i : Nat}, DpAll K H vs ds → i < vs.length → ∃ v d, vs[i]? = some v ∧ ds[i]? = some d ∧ Dp K H v d
  | _, _, _, .nil, h => absurd h (Nat.not_lt_zero _)
  | _, _, 0, .cons a _, _ => ⟨_, _, rfl, rfl, a⟩
  | _, _, i + 1, .cons _ b, h => dpAll_get (i := i) b (Nat.lt_of_succ_lt_succ h)
theorem same_upd {H : Hp} {p : Addr} {o : HO} (h : H p = none) : Same H (upd H p o) := fun b x e => by
  rw [upd_ne (ne_of_none e h)]
  exact e
/-- a list at f grows by a new object at p; G is the heap without f -/
theorem grow {H G H' : Hp} {f p : Addr} {o u x : HO} (s0 : Same H G) (gf : G f = none) (s1 : Same G H') (hf : H' f = some x) (np : H' p = none) :
    Same H (upd G p o) ∧ (upd G p o) f = none ∧ Same (upd G p o) (upd (upd H' p o) f u) ∧ Same G (upd G p o) := by
  have gp : G p = none := s1.free np
  have npf : f ≠ p := ne_of_none hf np
  refine ⟨s0.trans (same_upd gp), by rw [upd_ne npf]; exact gf, fun b z e => ?_, same_upd gp⟩
  by_cases hb : b = p
  · subst hb
    rw [upd_same] at e
    rw [upd_ne npf.symm, upd_same]
    exact e
  · rw [upd_ne hb] at e
    have hbf : b ≠ f := fun q => by rw [q, gf] at e; cases e
    rw [upd_ne hbf, upd_ne hb]
    exact s1 _ _ e
/-! ### tokens as data -/
def tokD (t : Tk.Srt × Nat × Nat) : PyData := .tuple [.str (sortS t.1), .int (t.2.1 : Int), .int (t.2.2 : Int)]
abbrev tokV (t : Tk.Srt × Nat × Nat) : List V := [.str (sortS t.1), .int (t.2.1 : Int), .int (t.2.2 : Int)]
theorem tok_dp {K : PySem.W.Frag} {H : Hp} {p : Addr} {t : Tk.Srt × Nat × Nat} (h : H p = some (.tup (tokV t))) : Dp K H (.ref p) (tokD t) :=
  .tup (SqT.of h) (.cons (.str _) (.cons (.int _) (.cons (.int _) .nil)))
def spTokens (K : PySem.W.Frag) : Sp := fun vs H Q _ => ∃ (l : List Nat), vs = [txt l] ∧ l.length ≤ 50000 ∧
  ∀ p H', Same H H' → H p = none → Dp K H' (.ref p) (.list ((Tk.from_ isWord l 0).map tokD)) → Q (.ref p) H'
theorem eq_one {c d : Nat} {s : Str} (h : s = ⟨#[d]⟩) : decide (one c = .str s) = decide (c = d) := by
  subst h
  refine decide_eq_decide.mpr ⟨fun e => ?_, fun e => by rw [e]⟩
  have e1 : (⟨#[c]⟩ : Str) = ⟨#[d]⟩ := V.str.inj e
  have e2 : ([c] : List Nat) = [d] := congrArg (fun z : Str => z.cps.toList) e1
  exact (List.cons.inj e2).1
theorem bang_eq : Str.ofString "!" = ⟨#[33]⟩ := by decide +kernel
theorem sp_eq : Str.ofString " " = ⟨#[32]⟩ := by decide +kernel
theorem slice_piece {l : List Nat} {i j : Nat} (hi : i ≤ l.length) (hj : j ≤ l.length) : Txt.slice ⟨l.toArray⟩ (some (i : Int)) (some (j : Int)) = ⟨(Tk.piece l i j).toArray⟩ := by
  rw [← C8.cutS_slice]
  unfold cutS Tk.piece
  rw [HT.sIx_nat, HT.sIx_nat, slen, stl, Nat.min_eq_left hi, Nat.min_eq_left hj]
theorem slice_tail {l : List Nat} {i : Nat} (hi : i ≤ l.length) : Txt.slice ⟨l.toArray⟩ (some (i : Int)) none = ⟨(l.drop i).toArray⟩ := by
  rw [← C8.cutS_slice]
  unfold cutS
  rw [HT.sIx_nat, HT.sIx_none, slen, stl, Nat.min_eq_left hi, List.take_of_length_le (by rw [List.length_drop]; omega)]
section
variable {P : Program} {w : World} {K : PySem.W.Frag} {mg : Str → Option Value} {base : Heap} {a_WORDS : Addr}
theorem ok_tokens {f : Addr} {fd : FuncData} (F : Fun K "tokens" "tokens" s_tokens f fd) (T : Txt K mg a_WORDS) (c__end_of_note : C8.Cal P w K mg base 1 "_end_of_note" spNote []) (c__end_of_token : C8.Cal P w K mg base 2 "_end_of_token" spEnd [])
    (c__sort_of : C8.Cal P w K mg base 1 "_sort_of" spSort []) : FnOk P w K mg base CX0 3 f fd ["text"] (spTokens K) := by
  refine F.ok sc_tokens (fun vs H Q E h => ?_) (fun cdv A outer s H vs Q E hr h => ?_)
  · obtain ⟨l, rfl, _⟩ := h
    rfl
  · obtain ⟨l, rfl, hl', k⟩ := h
    have hl : l.length ≤ 100000 := by omega
    refine ⟨_, (pss_cons (ps_set (i := 1) sc_tokens.nd rfl (Or.inl rfl) (pe_lst pa_nil))
    (pss_cons (ps_set (i := 2) sc_tokens.nd rfl (Or.inl rfl) pe_int)
    (pss_cons (ps_while PassesOwn.never (pt_cmpR op_lt (pv 2) (pe_callB call_len_str (by rfl) T.b_len (by decide +kernel) (pa_cons (pv 0) pa_nil)) (nomark _))
      (pss_one (ps_if (pt_cmpR op_in_sign (pe_ix ix_str (pv 0) (pv 2) (fun _ _ => rfl)) (C8.pe_gc rfl T.g_BLANKS) (by rfl))
        (pss_one (ps_aug (i := 2) sc_tokens.nd rfl (Or.inl rfl) pe_int ip_add))
        (pss_one (ps_if (pt_cmpR op_eq (pe_ix ix_str (pv 0) (pv 2) (fun _ _ => rfl)) pe_str (nomark _))
          (pss_one (ps_set (i := 2) sc_tokens.nd rfl (Or.inl rfl) (C8.pe_c c__end_of_note hr (by first | decide | omega) rfl (pa_cons (pv 0) (pa_cons (pv 2) pa_nil)))))
          (pss_cons (ps_set (i := 3) sc_tokens.nd rfl (Or.inl rfl) (C8.pe_c c__end_of_token hr (by first | decide | omega) rfl (pa_cons (pv 0) (pa_cons (pv 2) pa_nil))))
          (pss_cons (ps_expr (pe_bm PySem.F.plainAttrs_list PySem.F.slot_list_append PySem.F.type_list_append mt_append (pv 1) (pa_cons (pe_tup (pa_cons (C8.pe_c c__sort_of hr (by first | decide | omega) rfl (pa_cons (pe_slice C8.sl_txt (pv 0) (po_some (pv 2)) (po_some (pv 3))) pa_nil)) (pa_cons (pv 2) (pa_cons (pv 3) pa_nil)))) pa_nil)))
          (pss_one (ps_set (i := 2) sc_tokens.nd rfl (Or.inl rfl) (pv 3))))))))))
    (pss_one (ps_ret (pv 1)))))), ?_⟩
    refine ⟨Nat.zero_le _, fun g ng => ?_⟩
    refine ⟨fun m σ H' => ∃ (i : Nat) (ps : List V) (done : List (Tk.Srt × Nat × Nat)) (G : Hp) (e3 : Option V), σ = [some (txt l), some (.ref g), some (.int (i : Int)), e3] ∧ Same H G ∧ G g = none ∧ Same G H' ∧ H' g = some (.lst ps) ∧
        DpAll K G ps (done.map tokD) ∧ i ≤ l.length ∧ m = l.length - i ∧ done.length ≤ i ∧ done ++ Tk.from_ isWord l i = Tk.from_ isWord l 0,
      ⟨_, 0, [], [], H, none, rfl, Same.refl H, ng, same_upd ng, upd_same, .nil, Nat.zero_le _, rfl, Nat.le_refl _, rfl⟩, fun m σ H' hW => ?_⟩
    obtain ⟨i, ps, done, G, e3, rfl, s0, gg, s1, hg, hd, hi, rfl, hlen, hdone⟩ := hW
    refine ⟨_, rfl, _, rfl, _, rfl, szt hl, _, _, rfl, rfl, _, rfl, ?_⟩
    rw [slen]
    refine ite2 (fun h1 => ?_) (fun h1 => ?_)
    · have h1 : i < l.length := by simpa using h1
      obtain ⟨c, hc⟩ := getD_of h1
      refine ⟨_, fun _ _ h => h, ?_⟩
      refine ⟨_, rfl, _, rfl, _, _, c, rfl, rfl, szt hl, at_txt hc, _, _, rfl, rfl, _, rfl, ?_⟩
      rw [in_blanks]
      cases hb : Tk.blank c with
      | true =>
        refine iteT ⟨_, rfl, _, _, rfl, rfl, ?_⟩
        rw [Tk.from_blank hc hb] at hdone
        exact ⟨l.length - (i + 1), by omega, i + 1, ps, done, G, e3, rfl, s0, gg, s1, hg, hd, h1, rfl, by omega, hdone⟩
      | false =>
        refine iteF ⟨_, rfl, _, rfl, _, _, c, rfl, rfl, szt hl, at_txt hc, rfl, _, rfl, ?_⟩
        rw [eq_one bang_eq]
        by_cases hx : c = 33
        · rw [decide_eq_true hx]
          refine iteT ⟨_, rfl, _, rfl, l, i, rfl, hl, hi, ?_⟩
          have hn := Tk.noteEnd_le (l := l) (i := i + 1) h1
          have e : Tk.noteEnd l i = Tk.noteEnd l (i + 1) := Tk.noteEnd_step hc (by omega)
          rw [Tk.from_note hc hx] at hdone
          rw [e]
          exact ⟨l.length - Tk.noteEnd l (i + 1), by omega, Tk.noteEnd l (i + 1), ps, done, G, e3, rfl, s0, gg, s1, hg, hd, hn.1, rfl, by omega, hdone⟩
        · rw [decide_eq_false hx]
          refine iteF ⟨_, rfl, _, rfl, l, i, c, rfl, hl, hc, ?_⟩
          have ht := Tk.tokEnd_le hc
          obtain ⟨r, hp⟩ := Tk.piece_head hc
          refine ⟨_, rfl, .inl ⟨rfl, _, SqL.of hg⟩, _, rfl, _, rfl, _, rfl, _, rfl, _, rfl, _, rfl, szt hl, c, r, ?_, ?_, fun hL hD => ?_, ?_⟩
          · rw [slice_piece hi ht.1, hp]
            rfl
          · rw [← hp]
            unfold Tk.piece
            rw [List.length_take, List.length_drop]
            omega
          · have := (Tk.piece_one hc hL hD).2
            rw [this] at hp
            exact (List.cons.inj hp).2.symm
          · refine ⟨_, rfl, _, rfl, by show 3 ≤ sizeLine; decide, fun p np => ?_⟩
            have hgp : g ≠ p := ne_of_none hg np
            have hl2 : ps.length = done.length := by rw [dpAll_len hd, List.length_map]
            obtain ⟨a1, a2, a3, a4⟩ := grow (o := .tup [.str (sortS (Tk.sortOf isWord (c :: r))), .int (i : Int), .int ((Tk.tokEnd l i : Nat) : Int)]) (u := .lst (ps ++ [.ref p])) s0 gg s1 hg np
            refine ⟨g, ps, _, rfl, rfl, by rw [upd_ne hgp]; exact hg, Nat.lt_of_le_of_lt (show ps.length ≤ 100000 by omega) (by decide), ?_⟩
            refine ⟨_, rfl, ?_⟩
            rw [Tk.from_tok hc hb hx, hp] at hdone
            refine ⟨l.length - Tk.tokEnd l i, by omega, Tk.tokEnd l i, ps ++ [.ref p], done ++ [(Tk.sortOf isWord (c :: r), i, Tk.tokEnd l i)], _, _, rfl, a1, a2, a3, upd_same, ?_, ht.1, rfl, ?_, ?_⟩
            · rw [List.map_append]
              exact dpAll_snoc (dpAll_mono a4 _ _ hd) (tok_dp upd_same)
            · rw [List.length_append]
              show done.length + 1 ≤ _
              omega
            · rw [List.append_assoc]
              exact hdone
    · have h1 : l.length ≤ i := by simpa using h1
      rw [Tk.from_end h1, List.append_nil] at hdone
      refine ⟨_, rfl, ?_⟩
      refine k g H' (s0.trans s1) ng ?_
      rw [← hdone]
      exact .lst (SqL.of hg) (dpAll_mono s1 _ _ hd)
end
end K01
namespace K01
open PySem PySem.Spec PyProof.Rows L2
def spStretch : Sp := fun vs H Q _ => ∃ (l : List Nat) (i c : Nat), vs = [txt l, .int i] ∧ l.length ≤ 100000 ∧ l[i]? = some c ∧ (Tk.letter c = true ∨ Tk.digit c = true) ∧ Q (.int ((Tk.tokEnd l i : Nat) : Int)) H
theorem no_both {c : Nat} (h : Tk.letter c = true) : Tk.digit c = false := by
  unfold Tk.letter at h
  unfold Tk.digit
  simp only [Bool.or_eq_true, Bool.and_eq_true, decide_eq_true_eq] at h
  by_cases h1 : 48 ≤ c
  · have : ¬ c ≤ 57 := by omega
    simp [this]
  · simp [h1]
theorem sum_of {i : Nat} {z : Int} {p : Nat → Bool} {l : List Nat} {n : Nat} (e : Tk.run p l = n) (hz : z = ((i + n : Nat) : Int)) : z = ((i + Tk.run p l : Nat) : Int) := by
  rw [e]; exact hz
section
variable {P : Program} {w : World} {K : PySem.W.Frag} {mg : Str → Option Value} {base : Heap} {a_WORDS : Addr}
theorem ok__law_stretch {f : Addr} {fd : FuncData} (F : Fun K "_law_stretch" "_law_stretch" s__law_stretch f fd) (c__law_letter : C8.Cal P w K mg base 1 "_law_letter" spLetter []) (c__law_digit : C8.Cal P w K mg base 1 "_law_digit" spDigit []) :
    FnOk P w K mg base CX0 2 f fd ["text", "at"] spStretch := by
  refine F.ok sc__law_stretch (fun vs H Q E h => ?_) (fun cdv A outer s H vs Q E hr h => ?_)
  · obtain ⟨l, i, c, rfl, _⟩ := h
    rfl
  · obtain ⟨l, i, c, rfl, hl, hc, hcc, k⟩ := h
    have hi := (List.getElem?_eq_some_iff.mp hc).1
    -- the signs that go on, by the first one
    obtain ⟨num, p, hp, hnum, hpc⟩ : ∃ (num : Bool) (p : Nat → Bool), Tk.going c = p ∧ ((num = true ∧ p = Tk.digit) ∨ (num = false ∧ p = Tk.inner)) ∧ p c = true ∧ Tk.digit c = num := by
      rcases hcc with h | h
      · exact ⟨false, Tk.inner, by unfold Tk.going; simp [h], .inr ⟨rfl, rfl⟩, by unfold Tk.inner; simp [h], no_both h⟩
      · have h2 : Tk.letter c = false := by
          cases h3 : Tk.letter c with
          | false => rfl
          | true => rw [no_both h3] at h; cases h
        exact ⟨true, Tk.digit, by unfold Tk.going; simp [h, h2], .inl ⟨rfl, rfl⟩, h, h⟩
    rw [Tk.tokEnd_of hc, hp, ← run_step hc hpc.1] at k
    refine ⟨_, (pss_cons (ps_set (i := 2) sc__law_stretch.nd rfl (Or.inl rfl) (C8.pe_c c__law_digit hr (by first | decide | omega) rfl (pa_cons (pe_ix ix_str (pv 0) (pv 1) (fun _ _ => rfl)) pa_nil)))
    (pss_cons (ps_set (i := 3) sc__law_stretch.nd rfl (Or.inl rfl) (pv 1))
    (pss_cons (ps_for PassesOwn.never rfl (pi_str (pe_slice C8.sl_txt (pv 0) (po_some (pv 1)) po_none)) (pg_name (i := 4) sc__law_stretch.nd rfl (Or.inl rfl))
      (pss_cons (ps_set (i := 5) sc__law_stretch.nd rfl (Or.inl rfl) (pe_ifExp (pt_val (pv 2)) (C8.pe_c c__law_digit hr (by first | decide | omega) rfl (pa_cons (pv 4) pa_nil)) (pe_or (C8.pe_c c__law_letter hr (by first | decide | omega) rfl (pa_cons (pv 4) pa_nil)) (pe_or (C8.pe_c c__law_digit hr (by first | decide | omega) rfl (pa_cons (pv 4) pa_nil)) (pe_one (pe_cmpR op_in_sign (pv 4) pe_str (by rfl)))))))
      (pss_cons (ps_if (pt_not (pt_val (pv 5)))
        (pss_one (ps_ret (pv 3)))
        pss_nil)
      (pss_one (ps_set (i := 3) sc__law_stretch.nd rfl (Or.inl rfl) (pe_op op_add (pv 3) pe_int))))))
    (pss_one (ps_ret (pv 3)))))), ?_⟩
    refine ⟨_, rfl, _, rfl, _, _, c, rfl, rfl, szt hl, at_txt hc, c, rfl, ?_⟩
    rw [hpc.2]
    refine ⟨_, rfl, ?_⟩
    refine ⟨_, rfl, _, rfl, _, rfl, _, rfl, szt hl, ?_⟩
    rw [slice_tail (Nat.le_of_lt hi)]
    refine ⟨_, rfl, for_it (walk_str (z := ⟨(l.drop i).toArray⟩)) (fun j σ H' => ∃ e4 e5, σ = [some (txt l), some (.int i), some (.bl num), some (.int ((i + j : Nat) : Int)), e4, e5] ∧ H' = H ∧ ∀ k d, k < j → (l.drop i)[k]? = some d → p d = true)
      ⟨none, none, rfl, rfl, fun k d h _ => absurd h (Nat.not_lt_zero _)⟩ (fun _ _ _ _ _ => True.intro) ?_ ?_⟩
    · rintro j x σ H1 H2 hj ⟨e4, e5, rfl, rfl, hall⟩ ⟨rfl, d, hd, rfl⟩
      have hd' : (l.drop i)[j]? = some d := by simpa using hd
      -- inside
      have go : ∀ (R : V → Hp → Prop), R (.bl (p d)) H2 → (tIf (tB (tVar 2)) (tCall spDigit [] C8.E0 (tCons (tVar 4) tNil)) (tOrV (tCall spLetter [] C8.E0 (tCons (tVar 4) tNil)) (tOrV (tCall spDigit [] C8.E0 (tCons (tVar 4) tNil)) (tOp (fun x y H Q => ∃ (c : Nat) (z : Str), x = .str ⟨#[c]⟩ ∧ y = .str z ∧ Q (.bl (decide (c ∈ z.cps.toList))) H) (tVar 4) (tC (.str "_.#"))))))
          [some (txt l), some (.int i), some (.bl num), some (.int ((i + j : Nat) : Int)), some (one d), e5] H2 R := by
        intro R hR
        refine ⟨_, rfl, _, rfl, ?_⟩
        rcases hnum with ⟨rfl, rfl⟩ | ⟨rfl, rfl⟩
        · exact iteT ⟨_, rfl, d, rfl, hR⟩
        · refine iteF ⟨_, rfl, d, rfl, _, rfl, ?_⟩
          have e : Tk.inner d = (Tk.letter d || Tk.digit d || (d == 95 || d == 46 || d == 35)) := rfl
          rw [e] at hR
          cases h1 : Tk.letter d with
          | true =>
            rw [h1] at hR
            exact iteT hR
          | false =>
            refine iteF ⟨_, rfl, d, rfl, _, rfl, ?_⟩
            rw [h1] at hR
            cases h2 : Tk.digit d with
            | true =>
              rw [h2] at hR
              exact iteT hR
            | false =>
              refine iteF ⟨_, rfl, d, _, rfl, rfl, ?_⟩
              rw [h2] at hR
              rw [in_three]
              simpa using hR
      refine go _ ?_
      refine ⟨_, rfl, _, rfl, ?_⟩
      cases hpd : p d with
      | true =>
        refine iteF ⟨_, rfl, _, _, rfl, rfl, _, _, rfl, rfl, fun k' d' hk hd2 => ?_⟩
        rcases Nat.lt_succ_iff_lt_or_eq.mp hk with h | h
        · exact hall k' d' h hd2
        · subst h
          rw [hd'] at hd2
          have : d = d' := Option.some.inj hd2
          rw [← this]; exact hpd
      | false =>
        refine iteT ⟨_, rfl, ?_⟩
        have : Tk.run p (l.drop i) = j := Tk.run_eq (by have := (List.getElem?_eq_some_iff.mp hd').1; omega) (fun k' d' h1 h2 => hall k' d' h1 h2) (fun d' h => by
          rw [hd'] at h
          have : d = d' := Option.some.inj h
          rw [← this]; exact hpd)
        rw [this] at k
        exact k
    · rintro σ H1 ⟨e4, e5, rfl, rfl, hall⟩
      have hs : (⟨(l.drop i).toArray⟩ : Str).cps.size = (l.drop i).length := by simp
      rw [hs] at hall ⊢
      refine ⟨_, rfl, ?_⟩
      have : Tk.run p (l.drop i) = (l.drop i).length := Tk.run_eq (Nat.le_refl _) (fun k' d' h1 h2 => hall k' d' h1 h2) (fun d' h => by
        rw [List.getElem?_eq_none (Nat.le_refl _)] at h
        cases h)
      rw [this] at k
      exact k
end
end K01
namespace K01
open PySem PySem.Spec PyProof.Rows L2
theorem words_cat : ([.str "kind", .str "number", .str "ref", .str "fixed", .str "empty", .str "single", .str "thing", .str "none", .str "index", .str "told", .str "keep", .str "adopt"] : List V) ++ [.str "as", .str "move", .str "to", .str "most"] = wordL.map V.str := rfl
theorem in_signsC (c : Nat) : decide (c ∈ (Str.ofString "{}:;=*+").cps.toList) = Tk.signC c := in_signs c
section
variable {P : Program} {w : World} {K : PySem.W.Frag} {mg : Str → Option Value} {base : Heap} {a_WORDS : Addr}
/-- the state of the law's loop at a place -/
structure LawAt (K : PySem.W.Frag) (l : List Nat) (H H' : Hp) (wd g : Addr) (i behind : Nat) (note : Bool) (ps : List V) (done : List (Tk.Srt × Nat × Nat)) (G : Hp) : Prop where
  s0 : Same H G
  gg : G g = none
  s1 : Same G H'
  hg : H' g = some (.lst ps)
  hw : SqL K G wd (wordL.map V.str)
  hd : DpAll K G ps (done.map tokD)
  hn : note = true → behind ≤ i
  hb : behind ≤ l.length
  hlen : done.length ≤ i
  hdone : done ++ Tk.resume isWord l i behind note = Tk.from_ isWord l 0
/-- a token found -/
theorem LawAt.found {l : List Nat} {H H' : Hp} {wd g : Addr} {i behind c : Nat} {ps : List V} {done : List (Tk.Srt × Nat × Nat)} {G : Hp} {p : Addr} {sx : Str} (W : LawAt K l H H' wd g i behind false ps done G) (hc : l[i]? = some c) (hb : Tk.blank c = false) (hx : c ≠ 33) (hi : behind ≤ i)
    (np : H' p = none) (hs : sx = sortS (Tk.sortOf isWord (Tk.piece l i (Tk.tokEnd l i)))) :
    ∃ ps' done' G', LawAt K l H (upd (upd H' p (.tup [.str sx, .int (i : Int), .int ((Tk.tokEnd l i : Nat) : Int)])) g (.lst (ps ++ [.ref p]))) wd g (i + 1) (Tk.tokEnd l i) false ps' done' G' := by
  obtain ⟨a1, a2, a3, a4⟩ := grow (o := .tup [.str sx, .int (i : Int), .int ((Tk.tokEnd l i : Nat) : Int)]) (u := .lst (ps ++ [.ref p])) W.s0 W.gg W.s1 W.hg np
  have ht := Tk.tokEnd_le hc
  refine ⟨ps ++ [.ref p], done ++ [(Tk.sortOf isWord (Tk.piece l i (Tk.tokEnd l i)), i, Tk.tokEnd l i)], _, a1, a2, a3, upd_same, a4.seq W.hw, ?_, (fun h => by cases h), ht.1, ?_, ?_⟩
  · rw [List.map_append]
    refine dpAll_snoc (dpAll_mono a4 _ _ W.hd) (tok_dp ?_)
    rw [upd_same, hs]
  · rw [List.length_append]
    have := W.hlen
    show done.length + 1 ≤ _
    omega
  · have e := W.hdone
    rw [Tk.resume_tok hc hb hx hi] at e
    rw [List.append_assoc]
    exact e
theorem ok__law_tokens {f : Addr} {fd : FuncData} (F : Fun K "_law_tokens" "_law_tokens" s__law_tokens f fd) (T : Txt K mg a_WORDS) (c__law_letter : C8.Cal P w K mg base 1 "_law_letter" spLetter []) (c__law_digit : C8.Cal P w K mg base 1 "_law_digit" spDigit [])
    (c__law_stretch : C8.Cal P w K mg base 2 "_law_stretch" spStretch []) : FnOk P w K mg base CX0 3 f fd ["text"] (spTokens K) := by
  refine F.ok sc__law_tokens (fun vs H Q E h => ?_) (fun cdv A outer s H vs Q E hr h => ?_)
  · obtain ⟨l, rfl, _⟩ := h
    rfl
  · obtain ⟨l, rfl, hl', k⟩ := h
    have hl : l.length ≤ 100000 := by omega
    refine ⟨_, (pss_cons (ps_set (i := 1) sc__law_tokens.nd rfl (Or.inl rfl) (pe_lst (pa_cons pe_str (pa_cons pe_str (pa_cons pe_str (pa_cons pe_str (pa_cons pe_str (pa_cons pe_str (pa_cons pe_str (pa_cons pe_str (pa_cons pe_str (pa_cons pe_str (pa_cons pe_str (pa_cons pe_str pa_nil))))))))))))))
    (pss_cons (ps_set (i := 1) sc__law_tokens.nd rfl (Or.inl rfl) (pe_op op_cat (pv 1) (pe_lst (pa_cons pe_str (pa_cons pe_str (pa_cons pe_str (pa_cons pe_str pa_nil)))))))
    (pss_cons (ps_set (i := 2) sc__law_tokens.nd rfl (Or.inl rfl) (pe_lst pa_nil))
    (pss_cons (ps_set (i := 3) sc__law_tokens.nd rfl (Or.inl rfl) pe_int)
    (pss_cons (ps_set (i := 4) sc__law_tokens.nd rfl (Or.inl rfl) pe_bl)
    (pss_cons (ps_for PassesOwn.never rfl (pi_range1 (by rfl) T.b_range (pa_cons (pe_callB call_len_str (by rfl) T.b_len (by decide +kernel) (pa_cons (pv 0) pa_nil)) pa_nil)) (pg_name (i := 5) sc__law_tokens.nd rfl (Or.inl rfl))
      (pss_cons (ps_set (i := 6) sc__law_tokens.nd rfl (Or.inl rfl) (pe_ix ix_str (pv 0) (pv 5) (fun _ _ => rfl)))
      (C8.pss_cut (ps_if (pt_cmpR op_eq (pv 6) pe_str (nomark _))
        (pss_one (ps_set (i := 4) sc__law_tokens.nd rfl (Or.inl rfl) pe_bl))
        pss_nil)
      (pss_cons (ps_if (PW.pt (pw_or (pt_cmpR op_lt (pv 5) (pv 3) (nomark _)) (pw_or (pt_val (pv 4)) (pw_or (pt_cmpR op_eq (pv 6) pe_str (nomark _)) (pw_or1 (pt_cmpR op_eq (pv 6) pe_str (nomark _)))))))
        (pss_one ps_continue)
        pss_nil)
      (pss_cons (ps_set (i := 3) sc__law_tokens.nd rfl (Or.inl rfl) (pe_op op_add (pv 5) pe_int))
      (pss_one (ps_if (pt_cmpR op_eq (pv 6) pe_str (nomark _))
        (pss_one (ps_set (i := 4) sc__law_tokens.nd rfl (Or.inl rfl) pe_bl))
        (pss_one (ps_if (pt_val (C8.pe_c c__law_letter hr (by first | decide | omega) rfl (pa_cons (pv 6) pa_nil)))
          (pss_cons (ps_set (i := 3) sc__law_tokens.nd rfl (Or.inl rfl) (C8.pe_c c__law_stretch hr (by first | decide | omega) rfl (pa_cons (pv 0) (pa_cons (pv 5) pa_nil))))
          (pss_one (ps_expr (pe_bm PySem.F.plainAttrs_list PySem.F.slot_list_append PySem.F.type_list_append mt_append (pv 2) (pa_cons (pe_tup (pa_cons (pe_ifExp (pt_cmpR op_in_seq (pe_slice C8.sl_txt (pv 0) (po_some (pv 5)) (po_some (pv 3))) (pv 1) (by rfl)) pe_str pe_str) (pa_cons (pv 5) (pa_cons (pv 3) pa_nil)))) pa_nil)))))
          (pss_one (ps_if (pt_val (C8.pe_c c__law_digit hr (by first | decide | omega) rfl (pa_cons (pv 6) pa_nil)))
            (pss_cons (ps_set (i := 3) sc__law_tokens.nd rfl (Or.inl rfl) (C8.pe_c c__law_stretch hr (by first | decide | omega) rfl (pa_cons (pv 0) (pa_cons (pv 5) pa_nil))))
            (pss_one (ps_expr (pe_bm PySem.F.plainAttrs_list PySem.F.slot_list_append PySem.F.type_list_append mt_append (pv 2) (pa_cons (pe_tup (pa_cons pe_str (pa_cons (pv 5) (pa_cons (pv 3) pa_nil)))) pa_nil)))))
            (pss_one (ps_expr (pe_bm PySem.F.plainAttrs_list PySem.F.slot_list_append PySem.F.type_list_append mt_append (pv 2) (pa_cons (pe_tup (pa_cons (pe_ifExp (pt_cmpR op_in_sign (pv 6) pe_str (by rfl)) pe_str pe_str) (pa_cons (pv 5) (pa_cons (pv 3) pa_nil)))) pa_nil)))))))))))))))
    (pss_one (ps_ret (pv 2))))))))), ?_⟩
    -- words
    refine ⟨by show 12 ≤ sizeLine; decide, fun w1 nw1 => ?_⟩
    refine ⟨_, rfl, by show 4 ≤ sizeLine; decide, fun w2 nw2 => ?_⟩
    have h12 : w1 ≠ w2 := ne_of_none upd_same nw2
    refine ⟨w1, w2, _, _, rfl, rfl, (upd_ne h12).trans upd_same, upd_same, by show 12 + 4 ≤ sizeLine; decide, fun wd nwd => ?_⟩
    rw [words_cat]
    refine ⟨Nat.zero_le _, fun g ng => ?_⟩
    have sA := same_upd (o := .lst [.str "kind", .str "number", .str "ref", .str "fixed", .str "empty", .str "single", .str "thing", .str "none", .str "index", .str "told", .str "keep", .str "adopt"]) nw1
    have sB := same_upd (o := .lst [.str "as", .str "move", .str "to", .str "most"]) nw2
    have sC := same_upd (o := .lst (wordL.map V.str)) nwd
    have s00 := (sA.trans sB).trans sC
    -- the loop
    refine ⟨_, rfl, _, rfl, szt hl, _, rfl, by omega, by rw [slen]; omega, for_range (n := l.length) (fun i σ H' => ∃ (behind : Nat) (note : Bool) (ps : List V) (done : List (Tk.Srt × Nat × Nat)) (G : Hp) (e5 e6 : Option V),
        σ = [some (txt l), some (.ref wd), some (.ref g), some (.int (behind : Int)), some (.bl note), e5, e6] ∧ LawAt K l H H' wd g i behind note ps done G)
      ⟨0, false, [], [], _, none, none, rfl, s00, ng, same_upd ng, upd_same, SqL.of upd_same, .nil, (fun h => by cases h), Nat.zero_le _, Nat.le_refl _, ?_⟩ ?_ ?_⟩
    · show Tk.resume isWord l 0 0 false = _
      rfl
    · rintro i σ H1 hi ⟨behind, note, ps, done, G, e5, e6, rfl, W⟩
      obtain ⟨c, hc⟩ := getD_of hi
      rw [Int.zero_add]
      -- char; a newline ends a note
      refine ⟨_, rfl, _, rfl, _, _, c, rfl, rfl, szt hl, at_txt hc, ?_⟩
      refine ⟨fun σ' H' => H' = H1 ∧ ∃ note' : Bool, σ' = [some (txt l), some (.ref wd), some (.ref g), some (.int (behind : Int)), some (.bl note'), some (.int (i : Int)), some (one c)] ∧ LawAt K l H H1 wd g i behind note' ps done G ∧ (note' = true → c ≠ 10), ?_, ?_⟩
      · refine ⟨_, rfl, rfl, _, rfl, ?_⟩
        rw [eq_one nl_eq]
        by_cases h : c = 10
        · rw [decide_eq_true h]
          refine iteT ⟨rfl, false, rfl, ⟨W.s0, W.gg, W.s1, W.hg, W.hw, W.hd, (fun h => by cases h), W.hb, W.hlen, ?_⟩, (fun h => by cases h)⟩
          rw [← Tk.resume_nl hc h W.hn]
          exact W.hdone
        · rw [decide_eq_false h]
          exact iteF ⟨rfl, note, rfl, W, fun _ => h⟩
      · rintro σ' H' ⟨rfl, note', rfl, W, hnote⟩
        have next : ∀ {b : Nat} {n : Bool}, LawAt K l H H' wd g (i + 1) b n ps done G → ∃ (behind : Nat) (note : Bool) (ps : List V) (done : List (Tk.Srt × Nat × Nat)) (G : Hp) (e5 e6 : Option V),
            [some (txt l), some (.ref wd), some (.ref g), some (.int (b : Int)), some (.bl n), some (.int (i : Int)), some (one c)] = [some (txt l), some (.ref wd), some (.ref g), some (.int (behind : Int)), some (.bl note), e5, e6] ∧ LawAt K l H H' wd g (i + 1) behind note ps done G :=
          fun {b n} W' => ⟨b, n, ps, done, G, _, _, rfl, W'⟩
        -- passed over
        refine ⟨_, rfl, _, rfl, _, _, rfl, rfl, _, rfl, ?_⟩
        by_cases hbi : i < behind
        · rw [decide_eq_true (by omega)]
          refine iteT (iteT ?_)
          have hn0 : note' = false := by
            cases note' with
            | false => rfl
            | true => have := W.hn rfl; omega
          subst hn0
          refine next ⟨W.s0, W.gg, W.s1, W.hg, W.hw, W.hd, (fun h => by cases h), W.hb, Nat.le_succ_of_le W.hlen, ?_⟩
          rw [← Tk.resume_behind hbi]
          exact W.hdone
        · rw [decide_eq_false (by omega)]
          refine iteF ⟨_, rfl, _, rfl, ?_⟩
          cases hnn : note' with
          | true =>
            subst hnn
            refine iteT (iteT ?_)
            refine next ⟨W.s0, W.gg, W.s1, W.hg, W.hw, W.hd, (fun h => by omega), W.hb, Nat.le_succ_of_le W.hlen, ?_⟩
            rw [← Tk.resume_note hc (hnote rfl)]
            exact W.hdone
          | false =>
            subst hnn
            refine iteF ⟨_, rfl, rfl, _, rfl, ?_⟩
            rw [eq_one sp_eq]
            have blank : Tk.blank c = true → LawAt K l H H' wd g (i + 1) behind false ps done G := fun hb => ⟨W.s0, W.gg, W.s1, W.hg, W.hw, W.hd, (fun h => by cases h), W.hb, Nat.le_succ_of_le W.hlen, by
              rw [← Tk.resume_blank hc hb (by omega)]
              exact W.hdone⟩
            by_cases h32 : c = 32
            · rw [decide_eq_true h32]
              exact iteT (iteT (next (blank (by rw [h32]; rfl))))
            · rw [decide_eq_false h32]
              refine iteF ⟨_, rfl, rfl, _, rfl, ?_⟩
              rw [eq_one nl_eq]
              by_cases h10 : c = 10
              · rw [decide_eq_true h10]
                exact iteT (next (blank (by rw [h10]; rfl)))
              · rw [decide_eq_false h10]
                have hnb : Tk.blank c = false := by unfold Tk.blank; simp [h32, h10]
                refine iteF ⟨_, rfl, _, _, rfl, rfl, ?_⟩
                -- a token or a note
                refine ⟨_, rfl, rfl, _, rfl, ?_⟩
                rw [eq_one bang_eq]
                by_cases h33 : c = 33
                · rw [decide_eq_true h33]
                  refine iteT ?_
                  refine next (b := i + 1) ⟨W.s0, W.gg, W.s1, W.hg, W.hw, W.hd, fun _ => Nat.le_refl _, hi, Nat.le_succ_of_le W.hlen, ?_⟩
                  rw [← Tk.resume_open (behind := behind) hc h33 (by omega)]
                  exact W.hdone
                · rw [decide_eq_false h33]
                  refine iteF ⟨_, rfl, c, rfl, _, rfl, ?_⟩
                  have ht := Tk.tokEnd_le hc
                  obtain ⟨r, hp⟩ := Tk.piece_head hc
                  have hl2 : ps.length = done.length := by rw [dpAll_len W.hd, List.length_map]
                  have hps : ps.length < sizeLine := Nat.lt_of_le_of_lt (show ps.length ≤ 100000 by have := W.hlen; omega) (by decide)
                  have sort : Tk.sortOf isWord (Tk.piece l i (Tk.tokEnd l i)) = if Tk.letter c then (if isWord (c :: r) then .word else .name) else if Tk.digit c then .number else if Tk.signC c then .sign else .wrong := by rw [hp]; rfl
                  have app : ∀ (sx : Str) (σ2 : L2.St), sx = sortS (Tk.sortOf isWord (Tk.piece l i (Tk.tokEnd l i))) → σ2 = [some (txt l), some (.ref wd), some (.ref g), some (.int ((Tk.tokEnd l i : Nat) : Int)), some (.bl false), some (.int (i : Int)), some (one c)] → ∀ p, H' p = none →
                      ∃ lx xs y, V.ref g = .ref lx ∧ [V.ref p] = [y] ∧ (upd H' p (.tup [.str sx, .int (i : Int), .int ((Tk.tokEnd l i : Nat) : Int)])) lx = some (.lst xs) ∧ xs.length < sizeLine ∧
                        ∃ (behind : Nat) (note : Bool) (ps : List V) (done : List (Tk.Srt × Nat × Nat)) (G : Hp) (e5 e6 : Option V), σ2 = [some (txt l), some (.ref wd), some (.ref g), some (.int (behind : Int)), some (.bl note), e5, e6] ∧
                          LawAt K l H (upd (upd H' p (.tup [.str sx, .int (i : Int), .int ((Tk.tokEnd l i : Nat) : Int)])) lx (.lst (xs ++ [y]))) wd g (i + 1) behind note ps done G := by
                    rintro sx σ2 hs rfl p np
                    obtain ⟨ps', done', G', W'⟩ := W.found hc hnb h33 (by omega) np hs
                    exact ⟨g, ps, _, rfl, rfl, by rw [upd_ne (ne_of_none W.hg np)]; exact W.hg, hps, Tk.tokEnd l i, false, ps', done', G', _, _, rfl, W'⟩
                  cases hL : Tk.letter c with
                  | true =>
                    refine iteT ⟨_, rfl, _, rfl, l, i, c, rfl, hl, hc, .inl hL, ?_⟩
                    refine ⟨_, rfl, .inl ⟨rfl, _, SqL.of W.hg⟩, _, rfl, _, rfl, _, rfl, _, rfl, _, rfl, _, rfl, szt hl, _, rfl, wd, _, rfl, .inl (W.s1.seq W.hw), rfl, words_flat, _, rfl, ?_⟩
                    rw [slice_piece (Nat.le_of_lt hi) ht.1, hp]
                    show (if inV (txt (c :: r)) (wordL.map V.str) = true then _ else _ : Prop)
                    rw [inV_word]
                    cases hw : isWord (c :: r) with
                    | true =>
                      refine iteT ⟨_, rfl, _, rfl, by show 3 ≤ sizeLine; decide, fun p np => ?_⟩
                      exact app "word" _ (by rw [sort, hL, hw]; rfl) rfl p np
                    | false =>
                      refine iteF ⟨_, rfl, _, rfl, by show 3 ≤ sizeLine; decide, fun p np => ?_⟩
                      exact app "name" _ (by rw [sort, hL, hw]; rfl) rfl p np
                  | false =>
                    refine iteF ⟨_, rfl, c, rfl, _, rfl, ?_⟩
                    cases hD : Tk.digit c with
                    | true =>
                      refine iteT ⟨_, rfl, _, rfl, l, i, c, rfl, hl, hc, .inr hD, ?_⟩
                      refine ⟨_, rfl, .inl ⟨rfl, _, SqL.of W.hg⟩, _, rfl, _, rfl, by show 3 ≤ sizeLine; decide, fun p np => ?_⟩
                      exact app "number" _ (by rw [sort, hL, hD]; rfl) rfl p np
                    | false =>
                      have h1 := Tk.piece_one hc hL hD
                      refine iteF ⟨_, rfl, .inl ⟨rfl, _, SqL.of W.hg⟩, _, rfl, _, _, rfl, rfl, _, rfl, ?_⟩
                      rw [in_signsC]
                      cases hS : Tk.signC c with
                      | true =>
                        refine iteT ⟨_, rfl, _, rfl, by show 3 ≤ sizeLine; decide, fun p np => ?_⟩
                        have a := app "sign" _ (by rw [sort, hL, hD, hS]; rfl) rfl p np
                        rw [h1.1] at a
                        exact a
                      | false =>
                        refine iteF ⟨_, rfl, _, rfl, by show 3 ≤ sizeLine; decide, fun p np => ?_⟩
                        have a := app "wrong" _ (by rw [sort, hL, hD, hS]; rfl) rfl p np
                        rw [h1.1] at a
                        exact a
    · rintro σ H1 ⟨behind, note, ps, done, G, e5, e6, rfl, W⟩
      have e := W.hdone
      rw [Tk.resume_end W.hb, List.append_nil] at e
      refine ⟨_, rfl, ?_⟩
      have ng0 : H g = none := s00.free ng
      refine k g H1 (W.s0.trans W.s1) ng0 ?_
      rw [← e]
      exact .lst (SqL.of W.hg) (dpAll_mono W.s1 _ _ W.hd)
end
end K01
namespace K01
open PySem PySem.Spec PyProof.Rows L2
/-! ### _law_same: equal data -/
def okD : Nat → PyData → Prop
  | _, .none => True
  | _, .bool _ => True
  | _, .int _ => True
  | _, .str _ => True
  | 0, .list _ => False
  | 0, .tuple _ => False
  | n + 1, .list ds => ds.length ≤ 1000000 ∧ ∀ d ∈ ds, okD n d
  | n + 1, .tuple ds => ds.length ≤ 1000000 ∧ ∀ d ∈ ds, okD n d
  | _, .dict _ => False
def spIsInt (K : PySem.W.Frag) : Sp := fun vs H Q _ => ∃ i : Int, vs = [.int i] ∧ Q (.bl true) H
def SqX (K : PySem.W.Frag) (H : Hp) (a : Addr) (xs : List V) : Prop := SqL K H a xs ∨ SqT K H a xs
def spItems (K : PySem.W.Frag) (n : Nat) : Sp := fun vs H Q _ => ∃ (a b : Addr) (xs ys : List V) (ds : List PyData), vs = [.ref a, .ref b] ∧ SqX K H a xs ∧ SqX K H b ys ∧ DpAll K H xs ds ∧ DpAll K H ys ds ∧ 0 < n ∧ ds.length ≤ 1000000 ∧ (∀ d ∈ ds, okD (n - 1) d) ∧ Q (.bl true) H
def spSame (K : PySem.W.Frag) (n : Nat) : Sp := fun vs H Q _ => ∃ (x y : V) (d : PyData), vs = [x, y] ∧ Dp K H x d ∧ Dp K H y d ∧ okD n d ∧ Q (.bl true) H
def tyN : PyData → String
  | .none => "NoneType" | .bool _ => "bool" | .int _ => "int" | .str _ => "str" | .list _ => "list" | .tuple _ => "tuple" | .dict _ => "dict"
theorem ty_d {K : PySem.W.Frag} {H : Hp} {v : V} {d : PyData} (h : Dp K H v d) : TyX K H v (.type (tyN d)) := by
  cases h with
  | non => exact .base .non
  | bl b => exact .base (.bl b)
  | int i => exact .base (.int i)
  | str x => exact .base (.str x)
  | lst hs _ =>
    rcases hs with (h | ⟨o, h⟩) | ⟨o, its, n, h, c, _⟩
    · exact .base (.lst h)
    · exact .base (.frz h)
    · exact .kList h c
  | tup hs _ =>
    rcases hs with (h | ⟨o, h⟩) | ⟨o, its, n, h, c, _⟩
    · exact .base (.tup h)
    · exact .fTuple h
    · exact .kTuple h c
theorem isi_test {K : PySem.W.Frag} {σ : L2.St} {H : Hp} {i : Nat} {x : V} {T t : String} {b : Bool} {R : Bool → Hp → Prop} (hs : σ[i]? = some (some x)) (ty : TyX K H x (.type t)) (h : kitB t T = some b) (q : R b H) :
    tB (tCB (rIsi K) (tCons (tVar i) (tCons (tC (.ty T)) tNil))) σ H R := ⟨_, hs, _, _, _, _, _, rfl, .ty _, ty, kit_ty h, _, rfl, q⟩
theorem isi_val {K : PySem.W.Frag} {σ : L2.St} {H : Hp} {i : Nat} {x : V} {T t : String} {b : Bool} {R : V → Hp → Prop} (hs : σ[i]? = some (some x)) (ty : TyX K H x (.type t)) (h : kitB t T = some b) (q : R (.bl b) H) :
    tCB (rIsi K) (tCons (tVar i) (tCons (tC (.ty T)) tNil)) σ H R := ⟨_, hs, _, _, _, _, _, rfl, .ty _, ty, kit_ty h, q⟩
theorem dec_self {α : Type} [DecidableEq α] (x : α) : decide (x = x) = true := decide_eq_true rfl
section
variable {P : Program} {w : World} {K : PySem.W.Frag} {mg : Str → Option Value} {base : Heap} {a_WORDS : Addr}
theorem ok__law_is_integer {f : Addr} {fd : FuncData} (F : Fun K "_law_is_integer" "_law_is_integer" s__law_is_integer f fd) (T : Txt K mg a_WORDS) : FnOk P w K mg base CX0 1 f fd ["actual"] (spIsInt K) := by
  refine F.ok sc__law_is_integer (fun vs H Q E h => ?_) (fun cdv A outer s H vs Q E hr h => ?_)
  · obtain ⟨i, rfl, _⟩ := h
    rfl
  · obtain ⟨i, rfl, k⟩ := h
    refine ⟨_, (pss_one (ps_ret (pe_and (pe_callB call_isi (by rfl) T.b_isinstance (by decide +kernel) (pa_cons (pv 0) (pa_cons (pe_bltn (v := .ty "int") (by rfl) T.b_int (by decide +kernel) rfl) pa_nil))) (pe_one (pe_not (pe_callB call_isi (by rfl) T.b_isinstance (by decide +kernel) (pa_cons (pv 0) (pa_cons (pe_bltn (v := .ty "bool") (by rfl) T.b_bool (by decide +kernel) rfl) pa_nil)))))))), ?_⟩
    refine isi_val rfl (.base (.int i)) (b := true) (by decide +kernel) ⟨_, rfl, iteT ?_⟩
    exact isi_val rfl (.base (.int i)) (b := false) (by decide +kernel) ⟨_, rfl, k⟩
theorem sqx_len {X : Cx} {H : Hp} {a : Addr} {xs : List V} (h : SqX K H a xs) : SqL K H a xs ∨ SqT K H a xs := h
theorem ix_x {H : Hp} {a : Addr} {xs : List V} {i : Nat} {v : V} {R : V → Hp → Prop} (h : SqX K H a xs) (hv : xs[i]? = some v) (q : R v H) : rIx K (.ref a) (.int (i : Int)) H R := by
  rcases h with h | h
  · exact .inl ⟨a, xs, i, v, rfl, rfl, h, atI_nat hv, q⟩
  · exact .inr (.inl ⟨a, xs, i, v, rfl, rfl, h, atI_nat hv, q⟩)
theorem ok__law_same_items {n : Nat} {f : Addr} {fd : FuncData} (F : Fun K "_law_same_items" "_law_same_items" s__law_same_items f fd) (T : Txt K mg a_WORDS) {k0 : Nat} (c__law_same : C8.Cal P w K mg base k0 "_law_same" (spSame K n) []) :
    FnOk P w K mg base CX0 (k0 + 1) f fd ["actual", "expected"] (spItems K (n + 1)) := by
  refine F.ok sc__law_same_items (fun vs H Q E h => ?_) (fun cdv A outer s H vs Q E hr h => ?_)
  · obtain ⟨a, b, xs, ys, ds, rfl, _⟩ := h
    rfl
  · obtain ⟨a, b, xs, ys, ds, rfl, ha, hb, hx, hy, _, hlen, hds, k⟩ := h
    have lx : xs.length = ds.length := dpAll_len hx
    have ly : ys.length = ds.length := dpAll_len hy
    refine ⟨_, (pss_cons (ps_if (pt_cmpR op_ne (pe_callB call_len_seq (by rfl) T.b_len (by decide +kernel) (pa_cons (pv 0) pa_nil)) (pe_callB call_len_seq (by rfl) T.b_len (by decide +kernel) (pa_cons (pv 1) pa_nil)) (nomark _))
      (pss_one (ps_ret pe_bl))
      pss_nil)
    (pss_cons (ps_for PassesOwn.never rfl (pi_range1 (by rfl) T.b_range (pa_cons (pe_callB call_len_seq (by rfl) T.b_len (by decide +kernel) (pa_cons (pv 1) pa_nil)) pa_nil)) (pg_name (i := 2) sc__law_same_items.nd rfl (Or.inl rfl))
      (pss_one (ps_if (pt_not (pt_val (C8.pe_c c__law_same hr (by first | decide | omega) rfl (pa_cons (pe_ix ix_seq (pv 0) (pv 2) (fun _ _ => rfl)) (pa_cons (pe_ix ix_seq (pv 1) (pv 2) (fun _ _ => rfl)) pa_nil)))))
        (pss_one (ps_ret pe_bl))
        pss_nil)))
    (pss_one (ps_ret pe_bl)))), ?_⟩
    refine ⟨_, rfl, _, _, rfl, ha, _, rfl, _, _, rfl, hb, rfl, _, rfl, ?_⟩
    rw [lx, ly, dec_self]
    refine iteF ?_
    refine ⟨_, rfl, _, _, rfl, hb, _, rfl, by omega, by omega, ?_⟩
    rw [ly]
    refine for_range (n := ds.length) (fun i σ H' => H' = H ∧ ∃ e2, σ = [some (.ref a), some (.ref b), e2]) ⟨rfl, none, rfl⟩ ?_ ?_
    · rintro i σ H1 hi ⟨rfl, e2, rfl⟩
      rw [Int.zero_add]
      obtain ⟨x, d, hxi, hdi, hxd⟩ := dpAll_get hx (by omega : i < xs.length)
      obtain ⟨y, d', hyi, hdi', hyd⟩ := dpAll_get hy (by omega : i < ys.length)
      have ed : d = d' := Option.some.inj (hdi.symm.trans hdi')
      subst ed
      refine ⟨_, rfl, _, rfl, ix_x ha hxi ⟨_, rfl, _, rfl, ix_x hb hyi ?_⟩⟩
      exact ⟨x, y, d, rfl, hxd, hyd, hds d (List.mem_of_getElem? hdi), _, rfl, iteF ⟨rfl, _, rfl⟩⟩
    · rintro σ H1 ⟨rfl, e2, rfl⟩
      exact k
theorem ok__law_same {n : Nat} {f : Addr} {fd : FuncData} (F : Fun K "_law_same" "_law_same" s__law_same f fd) (T : Txt K mg a_WORDS) {k0 : Nat} (hk : 1 ≤ k0) (c__law_same_items : C8.Cal P w K mg base k0 "_law_same_items" (spItems K n) []) (c__law_is_integer : C8.Cal P w K mg base 1 "_law_is_integer" (spIsInt K) []) :
    FnOk P w K mg base CX0 (k0 + 1) f fd ["actual", "expected"] (spSame K n) := by
  refine F.ok sc__law_same (fun vs H Q E h => ?_) (fun cdv A outer s H vs Q E hr h => ?_)
  · obtain ⟨x, y, d, rfl, _⟩ := h
    rfl
  · obtain ⟨x, y, d, rfl, hx, hy, hd, k⟩ := h
    have tx := ty_d hx
    have ty := ty_d hy
    refine ⟨_, (pss_cons (ps_if (pt_cmpR op_isN (pv 1) pe_non (nomark _))
      (pss_one (ps_ret (pe_cmpR op_isN (pv 0) pe_non (nomark _))))
      pss_nil)
    (pss_cons (ps_if (pt_val (pe_callB call_isi (by rfl) T.b_isinstance (by decide +kernel) (pa_cons (pv 1) (pa_cons (pe_bltn (v := .ty "bool") (by rfl) T.b_bool (by decide +kernel) rfl) pa_nil))))
      (pss_one (ps_ret (pe_and (pe_callB call_isi (by rfl) T.b_isinstance (by decide +kernel) (pa_cons (pv 0) (pa_cons (pe_bltn (v := .ty "bool") (by rfl) T.b_bool (by decide +kernel) rfl) pa_nil))) (pe_one (pe_cmpR op_eq (pv 0) (pv 1) (nomark _))))))
      pss_nil)
    (pss_cons (ps_if (pt_val (pe_callB call_isi (by rfl) T.b_isinstance (by decide +kernel) (pa_cons (pv 1) (pa_cons (pe_bltn (v := .ty "int") (by rfl) T.b_int (by decide +kernel) rfl) pa_nil))))
      (pss_one (ps_ret (pe_and (C8.pe_c c__law_is_integer hr (by first | decide | omega) rfl (pa_cons (pv 0) pa_nil)) (pe_one (pe_cmpR op_eq (pv 0) (pv 1) (nomark _))))))
      pss_nil)
    (pss_cons (ps_if (pt_val (pe_callB call_isi (by rfl) T.b_isinstance (by decide +kernel) (pa_cons (pv 1) (pa_cons (pe_bltn (v := .ty "str") (by rfl) T.b_str (by decide +kernel) rfl) pa_nil))))
      (pss_one (ps_ret (pe_and (pe_callB call_isi (by rfl) T.b_isinstance (by decide +kernel) (pa_cons (pv 0) (pa_cons (pe_bltn (v := .ty "str") (by rfl) T.b_str (by decide +kernel) rfl) pa_nil))) (pe_one (pe_cmpR op_eq (pv 0) (pv 1) (nomark _))))))
      pss_nil)
    (pss_cons (ps_if (pt_val (pe_callB call_isi (by rfl) T.b_isinstance (by decide +kernel) (pa_cons (pv 1) (pa_cons (pe_bltn (v := .ty "tuple") (by rfl) T.b_tuple (by decide +kernel) rfl) pa_nil))))
      (pss_one (ps_ret (pe_and (pe_callB call_isi (by rfl) T.b_isinstance (by decide +kernel) (pa_cons (pv 0) (pa_cons (pe_bltn (v := .ty "tuple") (by rfl) T.b_tuple (by decide +kernel) rfl) pa_nil))) (pe_one (C8.pe_c c__law_same_items hr (by first | decide | omega) rfl (pa_cons (pv 0) (pa_cons (pv 1) pa_nil)))))))
      pss_nil)
    (pss_cons (ps_if (pt_val (pe_callB call_isi (by rfl) T.b_isinstance (by decide +kernel) (pa_cons (pv 1) (pa_cons (pe_bltn (v := .ty "list") (by rfl) T.b_list (by decide +kernel) rfl) pa_nil))))
      (pss_one (ps_ret (pe_and (pe_callB call_isi (by rfl) T.b_isinstance (by decide +kernel) (pa_cons (pv 0) (pa_cons (pe_bltn (v := .ty "list") (by rfl) T.b_list (by decide +kernel) rfl) pa_nil))) (pe_one (C8.pe_c c__law_same_items hr (by first | decide | omega) rfl (pa_cons (pv 0) (pa_cons (pv 1) pa_nil)))))))
      pss_nil)
    pss_never)))))), ?_⟩
    refine ⟨_, rfl, rfl, _, rfl, ?_⟩
    cases d with
    | none =>
      cases hx
      cases hy
      exact iteT ⟨_, rfl, rfl, k⟩
    | bool b =>
      have tx : TyX K H x (.type "bool") := tx
      have ty : TyX K H y (.type "bool") := ty
      cases hx
      cases hy
      refine iteF (isi_test rfl ty (b := true) (by decide +kernel) (iteT (isi_val rfl tx (b := true) (by decide +kernel) ⟨_, rfl, iteT ⟨_, rfl, _, rfl, rfl, ?_⟩⟩)))
      rw [dec_self]
      exact k
    | int i =>
      have tx : TyX K H x (.type "int") := tx
      have ty : TyX K H y (.type "int") := ty
      cases hx
      cases hy
      refine iteF (isi_test rfl ty (b := false) (by decide +kernel) (iteF (isi_test rfl ty (b := true) (by decide +kernel) (iteT ⟨_, rfl, i, rfl, _, rfl, iteT ⟨_, rfl, _, rfl, rfl, ?_⟩⟩))))
      rw [dec_self]
      exact k
    | str z =>
      have tx : TyX K H x (.type "str") := tx
      have ty : TyX K H y (.type "str") := ty
      cases hx
      cases hy
      refine iteF (isi_test rfl ty (b := false) (by decide +kernel) (iteF (isi_test rfl ty (b := false) (by decide +kernel) (iteF (isi_test rfl ty (b := true) (by decide +kernel) (iteT (isi_val rfl tx (b := true) (by decide +kernel) ⟨_, rfl, iteT ⟨_, rfl, _, rfl, rfl, ?_⟩⟩)))))))
      rw [dec_self]
      exact k
    | tuple ds =>
      have tx : TyX K H x (.type "tuple") := tx
      have ty : TyX K H y (.type "tuple") := ty
      cases hx with
      | tup hx1 hx2 =>
      cases hy with
      | tup hy1 hy2 =>
      refine iteF (isi_test rfl ty (b := false) (by decide +kernel) (iteF (isi_test rfl ty (b := false) (by decide +kernel) (iteF (isi_test rfl ty (b := false) (by decide +kernel) (iteF (isi_test rfl ty (b := true) (by decide +kernel) (iteT (isi_val rfl tx (b := true) (by decide +kernel) ⟨_, rfl, iteT ⟨_, rfl, _, rfl, ?_⟩⟩)))))))))
      cases n with
      | zero => exact hd.elim
      | succ n => exact ⟨_, _, _, _, ds, rfl, .inr hx1, .inr hy1, hx2, hy2, Nat.succ_pos _, hd.1, hd.2, k⟩
    | list ds =>
      have tx : TyX K H x (.type "list") := tx
      have ty : TyX K H y (.type "list") := ty
      cases hx with
      | lst hx1 hx2 =>
      cases hy with
      | lst hy1 hy2 =>
      refine iteF (isi_test rfl ty (b := false) (by decide +kernel) (iteF (isi_test rfl ty (b := false) (by decide +kernel) (iteF (isi_test rfl ty (b := false) (by decide +kernel) (iteF (isi_test rfl ty (b := false) (by decide +kernel) (iteF (isi_test rfl ty (b := true) (by decide +kernel) (iteT (isi_val rfl tx (b := true) (by decide +kernel) ⟨_, rfl, iteT ⟨_, rfl, _, rfl, ?_⟩⟩)))))))))))
      cases n with
      | zero => exact hd.elim
      | succ n => exact ⟨_, _, _, _, ds, rfl, .inl hx1, .inl hy1, hx2, hy2, Nat.succ_pos _, hd.1, hd.2, k⟩
    | dict _ => cases hx
/-- both, at any depth -/
theorem cal_same {f1 f2 f3 : Addr} {fd1 fd2 fd3 : FuncData} (F1 : Fun K "_law_is_integer" "_law_is_integer" s__law_is_integer f1 fd1) (g1 : mg "_law_is_integer" = some (.ref f1)) (b1 : Binds K fd1 ["actual"] [])
    (F2 : Fun K "_law_same_items" "_law_same_items" s__law_same_items f2 fd2) (g2 : mg "_law_same_items" = some (.ref f2)) (b2 : Binds K fd2 ["actual", "expected"] [])
    (F3 : Fun K "_law_same" "_law_same" s__law_same f3 fd3) (g3 : mg "_law_same" = some (.ref f3)) (b3 : Binds K fd3 ["actual", "expected"] []) (T : Txt K mg a_WORDS) : ∀ n, C8.Cal P w K mg base (2 * n + 2) "_law_same" (spSame K n) []
  | 0 => by
    have c1 : C8.Cal P w K mg base 1 "_law_is_integer" (spIsInt K) [] := cal F1 g1 b1 (ok__law_is_integer F1 T)
    have c2 : C8.Cal P w K mg base 1 "_law_same_items" (spItems K 0) [] := cal F2 g2 b2 (F2.ok sc__law_same_items (fun vs H Q E h => by
      obtain ⟨_, _, _, _, _, _, _, _, _, _, h, _⟩ := h
      exact absurd h (Nat.lt_irrefl _)) (fun cdv A outer s H vs Q E hr h => by
      obtain ⟨_, _, _, _, _, _, _, _, _, _, h, _⟩ := h
      exact absurd h (Nat.lt_irrefl _)))
    exact cal F3 g3 b3 (ok__law_same F3 T (Nat.le_refl _) c2 c1)
  | n + 1 => by
    have c1 : C8.Cal P w K mg base 1 "_law_is_integer" (spIsInt K) [] := cal F1 g1 b1 (ok__law_is_integer F1 T)
    have c0 := cal_same F1 g1 b1 F2 g2 b2 F3 g3 b3 T n
    have c2 : C8.Cal P w K mg base (2 * n + 2 + 1) "_law_same_items" (spItems K (n + 1)) [] := cal F2 g2 b2 (ok__law_same_items F2 T c0)
    exact cal F3 g3 b3 (ok__law_same F3 T (by omega) c2 c1)
end
end K01
namespace K01
open PySem PySem.Spec PyProof.Rows L2
/-! ### the tape -/
abbrev kCells : Key := Sum.inr "cells"
abbrev kAt : Key := Sum.inr "at"
abbrev kLeft : Key := Sum.inr "left"
abbrev kSeed : Key := Sum.inr "seed"
abbrev kSalt : Key := Sum.inr "salt"
def tapeK (c : Addr) (at_ left seed salt : Int) : List (Key × V) := [(kCells, .ref c), (kAt, .int at_), (kLeft, .int left), (kSeed, .int seed), (kSalt, .int salt)]
section
variable {c : Addr} {a l s z x : Int}
theorem s_cells_at : ¬ Str.ofString "cells" = Str.ofString "at" := by decide +kernel
theorem s_cells_left : ¬ Str.ofString "cells" = Str.ofString "left" := by decide +kernel
theorem s_cells_seed : ¬ Str.ofString "cells" = Str.ofString "seed" := by decide +kernel
theorem s_cells_salt : ¬ Str.ofString "cells" = Str.ofString "salt" := by decide +kernel
theorem s_at_cells : ¬ Str.ofString "at" = Str.ofString "cells" := by decide +kernel
theorem s_at_left : ¬ Str.ofString "at" = Str.ofString "left" := by decide +kernel
theorem s_at_seed : ¬ Str.ofString "at" = Str.ofString "seed" := by decide +kernel
theorem s_at_salt : ¬ Str.ofString "at" = Str.ofString "salt" := by decide +kernel
theorem s_left_cells : ¬ Str.ofString "left" = Str.ofString "cells" := by decide +kernel
theorem s_left_at : ¬ Str.ofString "left" = Str.ofString "at" := by decide +kernel
theorem s_left_seed : ¬ Str.ofString "left" = Str.ofString "seed" := by decide +kernel
theorem s_left_salt : ¬ Str.ofString "left" = Str.ofString "salt" := by decide +kernel
theorem s_seed_cells : ¬ Str.ofString "seed" = Str.ofString "cells" := by decide +kernel
theorem s_seed_at : ¬ Str.ofString "seed" = Str.ofString "at" := by decide +kernel
theorem s_seed_left : ¬ Str.ofString "seed" = Str.ofString "left" := by decide +kernel
theorem s_seed_salt : ¬ Str.ofString "seed" = Str.ofString "salt" := by decide +kernel
theorem s_salt_cells : ¬ Str.ofString "salt" = Str.ofString "cells" := by decide +kernel
theorem s_salt_at : ¬ Str.ofString "salt" = Str.ofString "at" := by decide +kernel
theorem s_salt_left : ¬ Str.ofString "salt" = Str.ofString "left" := by decide +kernel
theorem s_salt_seed : ¬ Str.ofString "salt" = Str.ofString "seed" := by decide +kernel
theorem n1 : ¬ kCells = kAt := by decide +kernel
theorem n2 : ¬ kCells = kLeft := by decide +kernel
theorem n3 : ¬ kCells = kSeed := by decide +kernel
theorem n4 : ¬ kCells = kSalt := by decide +kernel
theorem n5 : ¬ kAt = kLeft := by decide +kernel
theorem n6 : ¬ kAt = kSeed := by decide +kernel
theorem n7 : ¬ kAt = kSalt := by decide +kernel
theorem n8 : ¬ kLeft = kSeed := by decide +kernel
theorem n9 : ¬ kLeft = kSalt := by decide +kernel
theorem n10 : ¬ kSeed = kSalt := by decide +kernel
theorem m5 : ¬ kLeft = kAt := by decide +kernel
theorem m6 : ¬ kSeed = kAt := by decide +kernel
theorem m7 : ¬ kSalt = kAt := by decide +kernel
theorem m8 : ¬ kSeed = kLeft := by decide +kernel
theorem m9 : ¬ kSalt = kLeft := by decide +kernel
theorem m10 : ¬ kSalt = kSeed := by decide +kernel
theorem v_cells : valV (tapeK c a l s z) kCells = some (.ref c) := valV_pos rfl
theorem v_at : valV (tapeK c a l s z) kAt = some (.int a) := by
  unfold tapeK
  rw [valV_neg n1, valV_pos rfl]
theorem v_left : valV (tapeK c a l s z) kLeft = some (.int l) := by
  unfold tapeK
  rw [valV_neg n2, valV_neg n5, valV_pos rfl]
theorem v_seed : valV (tapeK c a l s z) kSeed = some (.int s) := by
  unfold tapeK
  rw [valV_neg n3, valV_neg n6, valV_neg n8, valV_pos rfl]
theorem v_salt : valV (tapeK c a l s z) kSalt = some (.int z) := by
  unfold tapeK
  rw [valV_neg n4, valV_neg n7, valV_neg n9, valV_neg n10, valV_pos rfl]
theorem p_at : putK (tapeK c a l s z) kAt (.int x) = tapeK c x l s z := by
  unfold putK tapeK
  simp [s_cells_at, s_cells_left, s_cells_seed, s_cells_salt, s_at_cells, s_at_left, s_at_seed, s_at_salt, s_left_cells, s_left_at, s_left_seed, s_left_salt, s_seed_cells, s_seed_at, s_seed_left, s_seed_salt, s_salt_cells, s_salt_at, s_salt_left, s_salt_seed]
theorem p_left : putK (tapeK c a l s z) kLeft (.int x) = tapeK c a x s z := by
  unfold putK tapeK
  simp [s_cells_at, s_cells_left, s_cells_seed, s_cells_salt, s_at_cells, s_at_left, s_at_seed, s_at_salt, s_left_cells, s_left_at, s_left_seed, s_left_salt, s_seed_cells, s_seed_at, s_seed_left, s_seed_salt, s_salt_cells, s_salt_at, s_salt_left, s_salt_seed]
theorem p_salt : putK (tapeK c a l s z) kSalt (.int x) = tapeK c a l s x := by
  unfold putK tapeK
  simp [s_cells_at, s_cells_left, s_cells_seed, s_cells_salt, s_at_cells, s_at_left, s_at_seed, s_at_salt, s_left_cells, s_left_at, s_left_seed, s_left_salt, s_seed_cells, s_seed_at, s_seed_left, s_seed_salt, s_salt_cells, s_salt_at, s_salt_left, s_salt_seed]
theorem p_new : mergeK [] (tapeK c a l s z) = tapeK c a l s z := by
  unfold mergeK tapeK
  simp [putK, s_cells_at, s_cells_left, s_cells_seed, s_cells_salt, s_at_cells, s_at_left, s_at_seed, s_at_salt, s_left_cells, s_left_at, s_left_seed, s_left_salt, s_seed_cells, s_seed_at, s_seed_left, s_seed_salt, s_salt_cells, s_salt_at, s_salt_left, s_salt_seed]
theorem dg_cells {H : Hp} {t : Addr} (ht : H t = some (.dK (tapeK c a l s z))) : DGet H t (V.str "cells") (some (.ref c)) := by
  have h := DGet.k (k := kCells) ht
  rwa [v_cells] at h
theorem dg_at {H : Hp} {t : Addr} (ht : H t = some (.dK (tapeK c a l s z))) : DGet H t (V.str "at") (some (.int a)) := by
  have h := DGet.k (k := kAt) ht
  rwa [v_at] at h
theorem dg_left {H : Hp} {t : Addr} (ht : H t = some (.dK (tapeK c a l s z))) : DGet H t (V.str "left") (some (.int l)) := by
  have h := DGet.k (k := kLeft) ht
  rwa [v_left] at h
theorem dg_seed {H : Hp} {t : Addr} (ht : H t = some (.dK (tapeK c a l s z))) : DGet H t (V.str "seed") (some (.int s)) := by
  have h := DGet.k (k := kSeed) ht
  rwa [v_seed] at h
theorem dg_salt {H : Hp} {t : Addr} (ht : H t = some (.dK (tapeK c a l s z))) : DGet H t (V.str "salt") (some (.int z)) := by
  have h := DGet.k (k := kSalt) ht
  rwa [v_salt] at h
theorem dp_at {H : Hp} {t : Addr} (ht : H t = some (.dK (tapeK c a l s z))) : DPut H t (V.str "at") (.int x) (upd H t (.dK (tapeK c x l s z))) := by
  have h := DPut.k (k := kAt) (v := .int x) ht (by show 5 < sizeLine; decide)
  rwa [p_at] at h
theorem dp_left {H : Hp} {t : Addr} (ht : H t = some (.dK (tapeK c a l s z))) : DPut H t (V.str "left") (.int x) (upd H t (.dK (tapeK c a x s z))) := by
  have h := DPut.k (k := kLeft) (v := .int x) ht (by show 5 < sizeLine; decide)
  rwa [p_left] at h
theorem dp_salt {H : Hp} {t : Addr} (ht : H t = some (.dK (tapeK c a l s z))) : DPut H t (V.str "salt") (.int x) (upd H t (.dK (tapeK c a l s x))) := by
  have h := DPut.k (k := kSalt) (v := .int x) ht (by show 5 < sizeLine; decide)
  rwa [p_salt] at h
end
/-- a tape over these cells, its list at c -/
def TapeK (c : Addr) (cs : List Int) (kvs : List (Key × V)) : Prop :=
  ∃ (a l s z : Int), kvs = tapeK c a l s z ∧ 0 ≤ a ∧ a ≤ cs.length ∧ 0 ≤ l ∧ 0 ≤ s ∧ s < 2147483647
structure Tape (t c : Addr) (cs : List Int) (H : Hp) : Prop where
  dc : ∃ kvs, H t = some (.dK kvs) ∧ TapeK c cs kvs
  ls : H c = some (.lst (cs.map V.int))
  nn : ∀ x ∈ cs, 0 ≤ x
theorem Tape.ne {t c : Addr} {cs : List Int} {H : Hp} (T : Tape t c cs H) : c ≠ t := by
  obtain ⟨kvs, h, _⟩ := T.dc
  exact ne_of T.ls h (by intro z; cases z)
theorem Tape.new {t c : Addr} {cs : List Int} {H : Hp} {kvs : List (Key × V)} (T : Tape t c cs H) (h : TapeK c cs kvs) : Tape t c cs (upd H t (.dK kvs)) :=
  ⟨⟨kvs, upd_same, h⟩, by rw [upd_ne T.ne]; exact T.ls, T.nn⟩
/-- all but what stands at t stays -/
def SameX (t : Addr) (H H' : Hp) : Prop := ∀ b o, b ≠ t → H b = some o → H' b = some o
theorem SameX.of_same {t : Addr} {H H' : Hp} (h : Same H H') : SameX t H H' := fun b o _ e => h b o e
theorem SameX.trans {t : Addr} {H H1 H2 : Hp} (a : SameX t H H1) (b : SameX t H1 H2) : SameX t H H2 := fun x o n e => b x o n (a x o n e)
theorem SameX.upd {t : Addr} {H : Hp} {o : HO} : SameX t H (upd H t o) := fun b u n e => by rw [upd_ne n]; exact e
theorem upd_id {H : Hp} {t : Addr} {o : HO} (h : H t = some o) : upd H t o = H := by
  funext b
  by_cases hb : b = t
  · subst hb; rw [upd_same, h]
  · rw [upd_ne hb]
def spTape (K : PySem.W.Frag) : Sp := fun vs H Q _ => ∃ (a : Addr) (ns : List Int), vs = [.ref a] ∧ SqL K H a (ns.map V.int) ∧ ns.length ≤ 63 ∧
  ∀ (t c : Addr) (cs : List Int) (H' : Hp), Same H H' → H t = none → H c = none → Tape t c cs H' → Q (.ref t) H'
def spTake : Sp := fun vs H Q _ => ∃ (t c : Addr) (cs : List Int) (many : Int), vs = [.ref t, .int many] ∧ Tape t c cs H ∧ 0 < many ∧ many < 1000000 ∧
  ∀ (r : Int) (kvs : List (Key × V)), 0 ≤ r → r < many → TapeK c cs kvs → Q (.int r) (upd H t (.dK kvs))
def absI (n : Int) : Int := if n < 0 then -n else n
section
variable {P : Program} {w : World} {K : PySem.W.Frag} {mg : Str → Option Value} {base : Heap} {a_WORDS : Addr}
theorem ok__law_tape {f : Addr} {fd : FuncData} (F : Fun K "_law_tape" "_law_tape" s__law_tape f fd) (T : Txt K mg a_WORDS) : FnOk P w K mg base CX0 1 f fd ["script"] (spTape K) := by
  refine F.ok sc__law_tape (fun vs H Q E h => ?_) (fun cdv A outer s H vs Q E hr h => ?_)
  · obtain ⟨a, ns, rfl, _⟩ := h
    rfl
  · obtain ⟨a, ns, rfl, hS, hlen, k⟩ := h
    refine ⟨_, (pss_cons (ps_setLc (i := 1) rfl sc__law_tape.nd rfl rfl (sw_true rfl rfl rfl (by decide +kernel)) (own := [("cell", 3)]) (pi_list (pv 0)) (blkOk_by (own := [("cell", 3)]) (N := N__law_tape) (sc := defScope s__law_tape) (by decide +kernel)) (fun _ _ _ _ _ => (pg_name (i := 3) sc__law_tape.nd rfl (Or.inl rfl))) (fun _ _ _ _ _ => pts_nil) (fun _ _ _ _ _ => (pe_callB call_abs (by rfl) T.b_abs (by decide +kernel) (pa_cons (pe_callTy call_int1 (by rfl) T.b_int (by decide +kernel) (pa_cons (pv 3) pa_nil)) pa_nil))))
    (pss_cons (ps_set (i := 2) sc__law_tape.nd rfl (Or.inl rfl) pe_int)
    (pss_cons (ps_for PassesOwn.never rfl (pi_list (pv 1)) (pg_name (i := 3) sc__law_tape.nd rfl (Or.inl rfl))
      (pss_one (ps_set (i := 2) sc__law_tape.nd rfl (Or.inl rfl) (pe_op op_mod (pe_callTy call_int1 (by rfl) T.b_int (by decide +kernel) (pa_cons (pe_op op_add (pe_op op_mul (pv 2) pe_int) (pv 3)) pa_nil)) pe_int))))
    (pss_one (ps_ret (pe_disp (pps_cons pe_str (pv 1) (pps_cons pe_str pe_int (pps_cons pe_str pe_int (pps_cons pe_str (pv 2) (pps_cons pe_str pe_int pps_nil))))) (by rfl) (by rfl) (fun z => by cases z) (by decide))))))), ?_⟩
    refine ⟨_, rfl, a, rfl, ⟨_, hS⟩, fun D hD => lc_list (K := K) (a := a) (xs := ns.map V.int) (fun i H' => Same H H' ∧ H' D = some (.lst ((ns.take i).map fun n => V.int (absI n)))) ⟨same_upd hD, by rw [upd_same]; rfl⟩ (fun i H' _ h => h.1.seq hS) ?_ ?_⟩
    · rintro i x H1 hx ⟨s1, hd⟩
      obtain ⟨n, hn, rfl⟩ : ∃ n, ns[i]? = some n ∧ V.int n = x := by
        rw [List.getElem?_map] at hx
        cases e : ns[i]? with
        | none => rw [e] at hx; cases hx
        | some n => rw [e] at hx; exact ⟨n, rfl, Option.some.inj hx⟩
      have hi := (List.getElem?_eq_some_iff.mp hn).1
      refine ⟨rfl, _, rfl, .inl ⟨_, rfl, _, rfl, _, hd, ?_, ?_, ?_⟩⟩
      · rw [List.length_map, List.length_take]
        exact Nat.lt_of_le_of_lt (show min i ns.length ≤ 100 by omega) (by decide)
      · exact fun b o e => by
          rw [upd_ne (ne_of_none e hD)]
          exact s1 b o e
      · rw [upd_same, List.take_add_one, hn, List.map_append]
        rfl
    · rintro H1 ⟨s1, hd⟩
      rw [List.length_map, List.take_length] at hd
      have hd' : H1 D = some (.lst ((ns.map absI).map V.int)) := by rw [hd, List.map_map]; rfl
      -- seed
      refine ⟨_, rfl, D, rfl, ⟨_, SqL.of hd'⟩, for_list (K := K) (a := D) (xs := (ns.map absI).map V.int) (fun i σ H' => H' = H1 ∧ ∃ (s : Int) (e3 : Option V), σ = [some (.ref a), some (.ref D), some (.int s), e3] ∧ 0 ≤ s ∧ s < 2147483647)
        ⟨rfl, 7, none, rfl, by decide, by decide⟩ (fun i σ H' _ h => by rw [h.1]; exact SqL.of hd') ?_ ?_⟩
      · rintro i x σ H2 hx ⟨rfl, s, e3, rfl, h0, h1⟩
        obtain ⟨n, hn, rfl⟩ : ∃ n, (ns.map absI)[i]? = some n ∧ V.int n = x := by
          rw [List.getElem?_map] at hx
          cases e : (ns.map absI)[i]? with
          | none => rw [e] at hx; cases hx
          | some n => rw [e] at hx; exact ⟨n, rfl, Option.some.inj hx⟩
        refine ⟨_, rfl, _, _, rfl, rfl, .inl ⟨by omega, by omega⟩, _, rfl, _, _, rfl, rfl, .inl ⟨_, rfl, _, _, rfl, rfl, (by show (0 : Int) < 2147483647; decide), ?_⟩⟩
        exact ⟨rfl, _, _, rfl, Int.emod_nonneg _ (by decide), Int.emod_lt_of_pos _ (by decide)⟩
      · rintro σ H2 ⟨rfl, s, e3, rfl, h0, h1⟩
        refine fun t nt => ⟨_, rfl, _, rfl, upd_same, tapeK D 0 0 s 0, rfl, by show 5 ≤ 15; decide, ?_⟩
        rw [p_new, upd_upd]
        have nD : D ≠ t := ne_of_none hd' nt
        refine k t D (ns.map absI) _ (s1.trans (same_upd nt)) (s1.free nt) hD ⟨⟨_, upd_same, 0, 0, s, 0, rfl, by decide, by omega, by decide, h0, h1⟩, by rw [upd_ne nD]; exact hd', fun x hx => ?_⟩
        obtain ⟨y, _, rfl⟩ := List.mem_map.mp hx
        unfold absI
        split <;> omega
theorem ok__law_take {f : Addr} {fd : FuncData} (F : Fun K "_law_take" "_law_take" s__law_take f fd) (T : Txt K mg a_WORDS) : FnOk P w K mg base CX0 1 f fd ["tape", "many"] spTake := by
  refine F.ok sc__law_take (fun vs H Q E h => ?_) (fun cdv A outer s H vs Q E hr h => ?_)
  · obtain ⟨t, c, cs, many, rfl, _⟩ := h
    rfl
  · obtain ⟨t, c, cs, many, rfl, W, hm0, hm1, k⟩ := h
    have hu := hu_of hr
    refine ⟨_, (C8.pss_cut (ps_if (PW.pt (pw_and (pt_cmpR op_eq (pe_dget hu (pv 0) pe_str (fun _ _ => rfl)) pe_int (nomark _)) (pw_and1 (pt_cmpR op_lt (pe_dget hu (pv 0) pe_str (fun _ _ => rfl)) (pe_callB call_len_seq (by rfl) T.b_len (by decide +kernel) (pa_cons (pe_dget hu (pv 0) pe_str (fun _ _ => rfl)) pa_nil)) (nomark _)))))
      (pss_cons (ps_dput hu (pv 0) pe_str (pe_ix ix_list (pe_dget hu (pv 0) pe_str (fun _ _ => rfl)) (pe_dget hu (pv 0) pe_str (fun _ _ => rfl)) (fun _ _ => rfl)) rfl)
      (pss_one (ps_dput hu (pv 0) pe_str (pe_op op_add (pe_dget hu (pv 0) pe_str (fun _ _ => rfl)) pe_int) rfl)))
      pss_nil)
    (pss_cons (ps_if (pt_cmpR op_gt (pe_dget hu (pv 0) pe_str (fun _ _ => rfl)) pe_int (nomark _))
      (pss_cons (ps_set (i := 2) sc__law_take.nd rfl (Or.inl rfl) (pe_op op_modN (pe_callTy call_int1 (by rfl) T.b_int (by decide +kernel) (pa_cons (pe_dget hu (pv 0) pe_str (fun _ _ => rfl)) pa_nil)) (pv 1)))
      (pss_cons (ps_dput hu (pv 0) pe_str (pe_op op_fdivN (pe_dget hu (pv 0) pe_str (fun _ _ => rfl)) (pv 1)) rfl)
      (pss_one (ps_ret (pv 2)))))
      pss_nil)
    (pss_cons (ps_dput hu (pv 0) pe_str (pe_op op_add (pe_dget hu (pv 0) pe_str (fun _ _ => rfl)) pe_int) rfl)
    (pss_cons (ps_set (i := 3) sc__law_take.nd rfl (Or.inl rfl) (pe_op op_mod (pe_callTy call_int1 (by rfl) T.b_int (by decide +kernel) (pa_cons (pe_op op_add (pe_op op_mul (pe_dget hu (pv 0) pe_str (fun _ _ => rfl)) pe_int) (pe_op op_mul (pe_dget hu (pv 0) pe_str (fun _ _ => rfl)) pe_int)) pa_nil)) pe_int))
    (pss_cons (ps_set (i := 3) sc__law_take.nd rfl (Or.inl rfl) (pe_op op_mod (pe_callTy call_int1 (by rfl) T.b_int (by decide +kernel) (pa_cons (pe_op op_add (pe_op op_add (pe_op op_mul (pv 3) (pv 3)) (pe_op op_mul (pe_dget hu (pv 0) pe_str (fun _ _ => rfl)) pe_int)) pe_int) pa_nil)) pe_int))
    (pss_one (ps_ret (pe_op op_modN (pe_callTy call_int1 (by rfl) T.b_int (by decide +kernel) (pa_cons (pv 3) pa_nil)) (pv 1))))))))), ?_⟩
    obtain ⟨kvs, ht, a, l, s, z, rfl, ha0, ha1, hl0, hs0, hs1⟩ := W.dc
    refine ⟨fun σ' H' => σ' = [some (.ref t), some (.int many), none, none] ∧ ∃ (a l s z : Int), H' = upd H t (.dK (tapeK c a l s z)) ∧ 0 ≤ a ∧ a ≤ cs.length ∧ 0 ≤ l ∧ 0 ≤ s ∧ s < 2147483647, ?_, ?_⟩
    · have stay : ∃ (a' l' s' z' : Int), H = upd H t (.dK (tapeK c a' l' s' z')) ∧ 0 ≤ a' ∧ a' ≤ cs.length ∧ 0 ≤ l' ∧ 0 ≤ s' ∧ s' < 2147483647 := ⟨a, l, s, z, (upd_id ht).symm, ha0, ha1, hl0, hs0, hs1⟩
      refine ⟨_, rfl, t, _, rfl, dg_left ht, rfl, _, rfl, ite2 (fun h1 => ?_) (fun h1 => iteF ⟨rfl, stay⟩)⟩
      refine ⟨_, rfl, t, _, rfl, dg_at ht, _, rfl, t, _, rfl, dg_cells ht, c, _, rfl, .inl (SqL.of W.ls), _, _, rfl, rfl, _, rfl, ite2 (fun h2 => ?_) (fun h2 => ⟨rfl, stay⟩)⟩
      have h2 : a < (cs.length : Int) := by
        rw [List.length_map] at h2
        simpa using h2
      obtain ⟨x, hx⟩ : ∃ x, cs[a.toNat]? = some x := ⟨_, List.getElem?_eq_getElem (by omega)⟩
      have hx2 : (cs.map V.int)[a.toNat]? = some (.int x) := by rw [List.getElem?_map, hx]; rfl
      have hxn : 0 ≤ x := W.nn x (List.mem_of_getElem? hx)
      refine ⟨_, rfl, t, _, rfl, dg_cells ht, _, rfl, t, _, rfl, dg_at ht, c, _, _, _, rfl, rfl, SqL.of W.ls, at_of (by omega : a = (a.toNat : Int)) hx2, _, rfl, t, _, rfl, dp_left ht, ?_⟩
      refine ⟨_, rfl, t, _, rfl, dg_at upd_same, _, _, rfl, rfl, _, rfl, t, _, rfl, dp_at upd_same, rfl, a + 1, x, s, z, upd_upd, by omega, by omega, hxn, hs0, hs1⟩
    · rintro σ' H' ⟨rfl, a, l, s, z, rfl, ha0, ha1, hl0, hs0, hs1⟩
      refine ⟨_, rfl, t, _, rfl, dg_left upd_same, _, _, rfl, rfl, _, rfl, ite2 (fun h1 => ?_) (fun h1 => ?_)⟩
      · have h1 : 0 < l := by simpa using h1
        refine ⟨_, rfl, t, _, rfl, dg_left upd_same, .inl ⟨_, rfl, _, rfl, _, _, rfl, rfl, by omega, ?_⟩⟩
        refine ⟨_, rfl, t, _, rfl, dg_left upd_same, _, rfl, _, _, rfl, rfl, ⟨by omega, by omega⟩, _, rfl, t, _, rfl, dp_left upd_same, _, rfl, ?_⟩
        rw [upd_upd]
        show Q (V.int (Int.fmod l many)) (upd H t (.dK (tapeK c a (Int.fdiv l many) s z)))
        rw [Int.fmod_eq_emod_of_nonneg _ (by omega), Int.fdiv_eq_ediv_of_nonneg _ (by omega)]
        exact k _ _ (Int.emod_nonneg _ (by omega)) (Int.emod_lt_of_pos _ hm0) ⟨a, l / many, s, z, rfl, ha0, ha1, Int.ediv_nonneg hl0 (by omega), hs0, hs1⟩
      · refine ⟨_, rfl, t, _, rfl, dg_salt upd_same, _, _, rfl, rfl, _, rfl, t, _, rfl, dp_salt upd_same, ?_⟩
        refine ⟨_, rfl, t, _, rfl, dg_seed upd_same, _, _, rfl, rfl, .inl ⟨by omega, by omega⟩, _, rfl, t, _, rfl, dg_salt upd_same, _, _, rfl, rfl, .inr ⟨by decide, by decide⟩, _, _, rfl, rfl, .inl ⟨_, rfl, _, _, rfl, rfl, (by show (0 : Int) < 2147483647; decide), ?_⟩⟩
        have b1 := Int.emod_nonneg (s * 48271 + (z + 1) * 69621) (show (2147483647 : Int) ≠ 0 by decide)
        have b2 := Int.emod_lt_of_pos (s * 48271 + (z + 1) * 69621) (show (0 : Int) < 2147483647 by decide)
        refine ⟨_, rfl, _, rfl, _, _, rfl, rfl, .inl ⟨by omega, by omega⟩, _, rfl, t, _, rfl, dg_salt upd_same, _, _, rfl, rfl, .inr ⟨by decide, by decide⟩, _, _, rfl, rfl, _, _, rfl, rfl, .inl ⟨_, rfl, _, _, rfl, rfl, (by show (0 : Int) < 2147483399; decide), ?_⟩⟩
        refine ⟨_, rfl, .inl ⟨_, rfl, _, rfl, _, _, rfl, rfl, by omega, ?_⟩⟩
        rw [upd_upd]
        show Q (V.int (Int.fmod _ many)) _
        rw [Int.fmod_eq_emod_of_nonneg _ (by omega)]
        exact k _ _ (Int.emod_nonneg _ (by omega)) (Int.emod_lt_of_pos _ hm0) ⟨a, l, s, z + 1, rfl, ha0, ha1, hl0, hs0, hs1⟩
end
end K01
namespace K01
open PySem PySem.Spec PyProof.Rows L2
/-! ### scraps, the law -/
def scrapL : List Str := ["kind ", "a", "b.0", "#", "{", "}", ":", ";", "=", "*", "+", "number", " ref ", " fixed", " thing ", "17", "none", "told ", "index", "keep ", "move ", " to ", "adopt ", " as ", "most ", "! x", "\n", " ", "_", "?"]
theorem scrap_len : ∀ y ∈ scrapL, y.length ≤ 8 := by
  have h : (scrapL.all fun y => decide (y.length ≤ 8)) = true := by decide +kernel
  exact fun y hy => of_decide_eq_true (List.all_eq_true.mp h y hy)
theorem joinL_nil_len : ∀ ps : List (List Nat), (TL.joinL [] ps).length = (ps.map (·.length)).sum
  | [] => rfl
  | [p] => by simp [TL.joinL]
  | p :: q :: r => by
    show (p ++ ([] ++ TL.joinL [] (q :: r))).length = _
    rw [List.nil_append, List.length_append, joinL_nil_len (q :: r)]
    simp
theorem tl_len (x : Str) : (TL.tl x).length = x.length := by simp [TL.tl, Str.length]
theorem join_len (ys : List Str) (e : Str) (he : e = ⟨#[]⟩) : (Txt.join e ys).length = (ys.map (·.length)).sum := by
  rw [← tl_len, TL.join_eq, TL.tl_join]
  subst he
  have : TL.tl (⟨#[]⟩ : Str) = [] := rfl
  rw [this, joinL_nil_len, List.map_map]
  have e : (fun y : List Nat => y.length) ∘ TL.tl = fun y : Str => y.length := funext tl_len
  exact congrArg (fun f => (ys.map f).sum) e
theorem sum_le {ys : List Str} {k : Nat} (h : ∀ y ∈ ys, y.length ≤ k) : (ys.map (·.length)).sum ≤ k * ys.length := by
  induction ys with
  | nil => simp
  | cons y r ih =>
    have h1 := h y (List.mem_cons_self ..)
    have h2 := ih fun z hz => h z (List.mem_cons_of_mem _ hz)
    simp only [List.map_cons, List.sum_cons, List.length_cons]
    rw [Nat.mul_add, Nat.mul_one]
    omega
theorem empty_eq : Str.ofString "" = ⟨#[]⟩ := by decide +kernel
def spScraps : Sp := fun vs H Q _ => ∃ (t c : Addr) (cs : List Int) (most : Int), vs = [.ref t, .int most] ∧ Tape t c cs H ∧ 0 ≤ most ∧ most < 1000 ∧
  ∀ (l : List Nat) (H' : Hp), l.length ≤ 50000 → Tape t c cs H' → SameX t H H' → Q (txt l) H'
section
variable {P : Program} {w : World} {K : PySem.W.Frag} {mg : Str → Option Value} {base : Heap} {a_WORDS : Addr}
theorem ok__law_scraps {f : Addr} {fd : FuncData} (F : Fun K "_law_scraps" "_law_scraps" s__law_scraps f fd) (T : Txt K mg a_WORDS) (c__law_take : C8.Cal P w K mg base 1 "_law_take" spTake []) : FnOk P w K mg base CX0 2 f fd ["tape", "most"] spScraps := by
  refine F.ok sc__law_scraps (fun vs H Q E h => ?_) (fun cdv A outer s H vs Q E hr h => ?_)
  · obtain ⟨t, c, cs, many, rfl, _⟩ := h
    rfl
  · obtain ⟨t, c, cs, most, rfl, W, hm0, hm1, k⟩ := h
    refine ⟨_, (pss_cons (ps_set (i := 2) sc__law_scraps.nd rfl (Or.inr rfl) (pe_lst (pa_cons pe_str (pa_cons pe_str (pa_cons pe_str (pa_cons pe_str (pa_cons pe_str (pa_cons pe_str (pa_cons pe_str (pa_cons pe_str (pa_cons pe_str (pa_cons pe_str (pa_cons pe_str (pa_cons pe_str (pa_cons pe_str (pa_cons pe_str (pa_cons pe_str (pa_cons pe_str (pa_cons pe_str pa_nil)))))))))))))))))))
    (C8.pss_cut (ps_set (i := 2) sc__law_scraps.nd rfl (Or.inr rfl) (pe_op op_cat (pv 2) (pe_lst (pa_cons pe_str (pa_cons pe_str (pa_cons pe_str (pa_cons pe_str (pa_cons pe_str (pa_cons pe_str (pa_cons pe_str (pa_cons pe_str (pa_cons pe_str (pa_cons pe_str (pa_cons pe_str (pa_cons pe_str (pa_cons pe_str pa_nil))))))))))))))))
    (pss_one (ps_ret (pe_join pe_str (pe_lc (own := [("k", 3)]) rfl sc__law_scraps.nd (pi_range1 (by rfl) T.b_range (pa_cons (C8.pe_c c__law_take hr (by first | decide | omega) rfl (pa_cons (pv 0) (pa_cons (pe_op op_add (pv 1) pe_int) pa_nil))) pa_nil)) (blkOk_by (own := [("k", 3)]) (N := N__law_scraps) (sc := defScope s__law_scraps) (by decide +kernel)) (fun _ _ _ _ _ => (pg_name (i := 3) sc__law_scraps.nd rfl (Or.inl rfl))) (fun _ _ _ _ _ => pts_nil) (fun _ _ _ _ _ => (pe_ix (ix_list : IxR _ (rIxL K)) (pv 2) (C8.pe_c c__law_take hr (by first | decide | omega) rfl (pa_cons (pv 0) (pa_cons pe_int pa_nil))) (fun _ _ => rfl))))))))), ?_⟩
    -- words
    refine ⟨by show 17 ≤ sizeLine; decide, fun w1 nw1 => ?_⟩
    refine ⟨fun σ' H' => ∃ wd, σ' = [some (.ref t), some (.int most), some (.ref wd), none] ∧ Same H H' ∧ H' wd = some (.lst (scrapL.map V.str)), ?_, ?_⟩
    · refine ⟨_, rfl, by show 13 ≤ sizeLine; decide, fun w2 nw2 => ?_⟩
      have h12 : w1 ≠ w2 := ne_of_none upd_same nw2
      refine ⟨w1, w2, _, _, rfl, rfl, (upd_ne h12).trans upd_same, upd_same, by show 17 + 13 ≤ sizeLine; decide, fun wd nwd => ?_⟩
      exact ⟨wd, rfl, ((same_upd nw1).trans (same_upd nw2)).trans (same_upd nwd), upd_same⟩
    rintro σ' H1 ⟨wd, rfl, s00, hw⟩
    have W1 : Tape t c cs H1 := ⟨by obtain ⟨kvs, h, q⟩ := W.dc; exact ⟨kvs, s00 _ _ h, q⟩, s00 _ _ W.ls, W.nn⟩
    obtain ⟨kv1, ht1, _⟩ := id W1.dc
    have wdt : wd ≠ t := ne_of hw ht1 (by intro z; cases z)
    refine ⟨⟨_, rfl⟩, _, rfl, _, rfl, _, _, rfl, rfl, t, c, cs, most + 1, rfl, W1, by omega, by omega, fun r kvs hr0 hr1 hk => ?_⟩
    have W2 := W1.new hk
    have hw2 : (upd H1 t (.dK kvs)) wd = some (.lst (scrapL.map V.str)) := by rw [upd_ne wdt]; exact hw
    have x2 : SameX t H (upd H1 t (.dK kvs)) := (SameX.of_same s00).trans .upd
    generalize upd H1 t (.dK kvs) = H2 at W2 hw2 x2 ⊢
    refine ⟨_, rfl, by omega, by omega, fun D nD => lc_range (lo := 0) (n := r.toNat) (fun i H' => ∃ ys : List Str, ys.length = i ∧ (∀ y ∈ ys, y.length ≤ 8) ∧ Tape t c cs H' ∧ H' wd = some (.lst (scrapL.map V.str)) ∧ H' D = some (.lst (ys.map V.str)) ∧ ∀ b o, b ≠ t → H2 b = some o → H' b = some o)
      ⟨[], rfl, fun _ h => (by cases h), ?_, ?_, upd_same, fun b o _ e => same_upd nD b o e⟩ ?_ ?_⟩
    · obtain ⟨kvs, h, q⟩ := W2.dc
      exact ⟨⟨kvs, same_upd nD _ _ h, q⟩, same_upd nD _ _ W2.ls, W2.nn⟩
    · exact same_upd nD _ _ hw2
    · rintro i H3 hi ⟨ys, hlen, h8, W3, hw3, hD3, x3⟩
      obtain ⟨kv3, ht3, _⟩ := id W3.dc
      have Dt : D ≠ t := ne_of hD3 ht3 (by intro z; cases z)
      refine ⟨rfl, _, rfl, _, rfl, t, c, cs, 30, rfl, W3, by decide, by decide, fun j kvs hj0 hj1 hk3 => ?_⟩
      obtain ⟨y, hy⟩ : ∃ y, scrapL[j.toNat]? = some y := ⟨_, List.getElem?_eq_getElem (by show j.toNat < 30; omega)⟩
      have hy2 : (scrapL.map V.str)[j.toNat]? = some (.str y) := by rw [List.getElem?_map, hy]; rfl
      refine ⟨wd, _, _, _, rfl, rfl, SqL.of (by rw [upd_ne wdt]; exact hw3), at_of (by omega : j = (j.toNat : Int)) hy2, _, (by rw [upd_ne Dt]; exact hD3), ?_, ys ++ [y], ?_, ?_, ?_, ?_, ?_, ?_⟩
      · rw [List.length_map, hlen]
        exact Nat.lt_of_le_of_lt (show i ≤ 1000 by omega) (by decide)
      · rw [List.length_append, hlen]; rfl
      · intro z hz
        rcases List.mem_append.mp hz with h | h
        · exact h8 z h
        · rw [List.mem_singleton.mp h]
          exact scrap_len y (List.mem_of_getElem? hy)
      · have W4 := W3.new hk3
        obtain ⟨kvs, h, q⟩ := W4.dc
        exact ⟨⟨kvs, by rw [upd_ne Dt.symm]; exact h, q⟩, by rw [upd_ne (ne_of_none W2.ls nD)]; exact W4.ls, W4.nn⟩
      · rw [upd_ne (ne_of_none hw2 nD), upd_ne wdt]; exact hw3
      · rw [upd_same, List.map_append]; rfl
      · exact fun b o hb e => by
          rw [upd_ne (ne_of_none e nD), upd_ne hb]
          exact x3 b o hb e
    · rintro H3 ⟨ys, hlen, h8, W3, hw3, hD3, x3⟩
      have h1 := sum_le h8
      refine ⟨_, D, ys, rfl, rfl, .inl (SqL.of hD3), ?_, ?_⟩
      · rw [empty_eq]
        show _ + ys.length * 0 ≤ _
        omega
      · have e : (⟨(Txt.join (Str.ofString "") ys).cps.toList.toArray⟩ : Str) = Txt.join (Str.ofString "") ys := rfl
        have hl := join_len ys _ empty_eq
        rw [← e]
        refine k _ H3 ?_ W3 (x2.trans x3)
        have : (Txt.join (Str.ofString "") ys).cps.toList.length = (Txt.join (Str.ofString "") ys).length := by simp [Str.length]
        rw [this, hl]
        omega
end
end K01
namespace K01
open PySem PySem.Spec PyProof.Rows L2
theorem toks_len {iw : List Nat → Bool} : ∀ (n i : Nat) (l : List Nat), l.length ≤ n → (Tk.toks iw i l).length ≤ l.length
  | 0, i, l, h => by
    have : l = [] := List.eq_nil_of_length_eq_zero (Nat.le_zero.mp h)
    subst this
    rw [Tk.toks_nil]
    exact Nat.le_refl _
  | n + 1, i, [], h => by
    rw [Tk.toks_nil]
    exact Nat.le_refl _
  | n + 1, i, c :: r, h => by
    have hr : r.length ≤ n := Nat.le_of_succ_le_succ h
    cases hb : Tk.blank c with
    | true =>
      rw [Tk.toks_blank hb]
      exact Nat.le_succ_of_le (toks_len n _ r hr)
    | false =>
      by_cases h2 : c = 33
      · rw [Tk.toks_note h2]
        refine Nat.le_trans (toks_len n _ _ (by rw [List.length_drop]; omega)) ?_
        rw [List.length_drop, List.length_cons]
        omega
      · rw [Tk.toks_tok hb h2, List.length_cons, List.length_cons]
        refine Nat.succ_le_succ (Nat.le_trans (toks_len n _ _ (by rw [List.length_drop]; omega)) ?_)
        rw [List.length_drop]
        omega
theorem ok_toks (ts : List (Tk.Srt × Nat × Nat)) (h : ts.length ≤ 1000000) : okD 2 (.list (ts.map tokD)) := by
  refine ⟨by rw [List.length_map]; exact h, fun d hd => ?_⟩
  obtain ⟨t, _, rfl⟩ := List.mem_map.mp hd
  refine ⟨by show 3 ≤ 1000000; decide, fun d hd => ?_⟩
  rcases List.mem_cons.mp hd with rfl | hd
  · exact True.intro
  rcases List.mem_cons.mp hd with rfl | hd
  · exact True.intro
  rcases List.mem_cons.mp hd with rfl | hd
  · exact True.intro
  cases hd
def spLaw (K : PySem.W.Frag) : Sp := fun vs H Q _ => ∃ (a : Addr) (ns : List Int), vs = [.ref a] ∧ SqL K H a (ns.map V.int) ∧ ns.length ≤ 63 ∧ ∀ H', Q (.bl true) H'
section
variable {P : Program} {w : World} {K : PySem.W.Frag} {mg : Str → Option Value} {base : Heap} {a_WORDS : Addr}
theorem ok_law {f : Addr} {fd : FuncData} (F : Fun K "law" "law" s_law f fd) (T : Txt K mg a_WORDS) (c__law_tape : C8.Cal P w K mg base 1 "_law_tape" (spTape K) []) (c__law_scraps : C8.Cal P w K mg base 2 "_law_scraps" spScraps [])
    (c_tokens : C8.Cal P w K mg base 3 "tokens" (spTokens K) []) (c__law_tokens : C8.Cal P w K mg base 3 "_law_tokens" (spTokens K) []) (c__law_same : C8.Cal P w K mg base 6 "_law_same" (spSame K 2) []) : FnOk P w K mg base CX0 7 f fd ["script"] (spLaw K) := by
  refine F.ok sc_law (fun vs H Q E h => ?_) (fun cdv A outer s H vs Q E hr h => ?_)
  · obtain ⟨a, ns, rfl, _⟩ := h
    rfl
  · obtain ⟨a, ns, rfl, hS, hlen, k⟩ := h
    refine ⟨_, (pss_cons (ps_set (i := 1) sc_law.nd rfl (Or.inl rfl) (C8.pe_c c__law_tape hr (by first | decide | omega) rfl (pa_cons (pv 0) pa_nil)))
    (pss_cons (ps_for PassesOwn.never rfl (pi_range1 (by rfl) T.b_range (pa_cons pe_int pa_nil)) (pg_name (i := 2) sc_law.nd rfl (Or.inl rfl))
      (pss_cons (ps_set (i := 3) sc_law.nd rfl (Or.inl rfl) (C8.pe_c c__law_scraps hr (by first | decide | omega) rfl (pa_cons (pv 1) (pa_cons pe_int pa_nil))))
      (pss_one (ps_if (pt_not (pt_val (C8.pe_c c__law_same hr (by first | decide | omega) rfl (pa_cons (C8.pe_c c_tokens hr (by first | decide | omega) rfl (pa_cons (pv 3) pa_nil)) (pa_cons (C8.pe_c c__law_tokens hr (by first | decide | omega) rfl (pa_cons (pv 3) pa_nil)) pa_nil)))))
        (pss_one (ps_ret pe_bl))
        pss_nil))))
    (pss_one (ps_ret pe_bl)))), ?_⟩
    refine ⟨_, rfl, a, ns, rfl, hS, hlen, fun t c cs H1 s1 nt nc W => ?_⟩
    refine ⟨2, rfl, by decide, by decide, for_range (n := 2) (fun i σ H' => ∃ e2 e3, σ = [some (.ref a), some (.ref t), e2, e3] ∧ Tape t c cs H') ⟨none, none, rfl, W⟩ ?_ ?_⟩
    · rintro i σ H2 hi ⟨e2, e3, rfl, W2⟩
      refine ⟨_, rfl, t, c, cs, 40, rfl, W2, by decide, by decide, fun l H3 hl W3 _ => ?_⟩
      refine ⟨_, rfl, l, rfl, hl, fun p H4 s4 np hp => ⟨_, rfl, l, rfl, hl, fun q H5 s5 nq hq => ?_⟩⟩
      have hlen2 : (Tk.from_ isWord l 0).length ≤ 1000000 := Nat.le_trans (toks_len _ _ _ (Nat.le_refl _)) (by rw [List.length_drop]; omega)
      refine ⟨.ref p, .ref q, _, rfl, dp_mono s5 _ _ hp, hq, ok_toks _ hlen2, _, rfl, iteF ?_⟩
      refine ⟨_, _, rfl, ?_⟩
      obtain ⟨kvs, h, qq⟩ := W3.dc
      exact ⟨⟨kvs, s5 _ _ (s4 _ _ h), qq⟩, s5 _ _ (s4 _ _ W3.ls), W3.nn⟩
    · rintro σ H2 ⟨e2, e3, rfl, W2⟩
      exact k _
end
theorem all_mk {l : PySem.W.OpenLaw} {w : World} {K : PySem.W.Frag} {h : Heap} {mg : Str → Option Value} {fa : Addr} (X : K.In h) (G : h.Ns mainGlobals mg) (hfa : mg "law" = some (.ref fa))
    {f0 : Addr} {od0 an0 : Option Addr} {sl0 : Array (Option Value)} {oc0 kV0 dc0 pm0 cd0 ct0 : Value}
    (a0 : PySem.W.nsIn K mainGlobals "tokens" = some (some (.ref f0))) (l0 : K.lookup f0 = some ⟨oc0, od0, .func (PySem.W.fnOf "tokens" "tokens" (defArgs s_tokens) (defBody s_tokens) (defScope s_tokens) .none kV0 dc0 pm0 an0 cd0 ct0), sl0⟩) (c0 : PySem.W.codeIn K cd0 "tokens" = true) (k0 : PySem.W.keepIn K (.ref f0) = true)
    {f1 : Addr} {od1 an1 : Option Addr} {sl1 : Array (Option Value)} {oc1 kV1 dc1 pm1 cd1 ct1 : Value}
    (a1 : PySem.W.nsIn K mainGlobals "_end_of_note" = some (some (.ref f1))) (l1 : K.lookup f1 = some ⟨oc1, od1, .func (PySem.W.fnOf "_end_of_note" "_end_of_note" (defArgs s__end_of_note) (defBody s__end_of_note) (defScope s__end_of_note) .none kV1 dc1 pm1 an1 cd1 ct1), sl1⟩) (c1 : PySem.W.codeIn K cd1 "_end_of_note" = true) (k1 : PySem.W.keepIn K (.ref f1) = true)
    {f2 : Addr} {od2 an2 : Option Addr} {sl2 : Array (Option Value)} {oc2 kV2 dc2 pm2 cd2 ct2 : Value}
    (a2 : PySem.W.nsIn K mainGlobals "_end_of_token" = some (some (.ref f2))) (l2 : K.lookup f2 = some ⟨oc2, od2, .func (PySem.W.fnOf "_end_of_token" "_end_of_token" (defArgs s__end_of_token) (defBody s__end_of_token) (defScope s__end_of_token) .none kV2 dc2 pm2 an2 cd2 ct2), sl2⟩) (c2 : PySem.W.codeIn K cd2 "_end_of_token" = true) (k2 : PySem.W.keepIn K (.ref f2) = true)
    {f3 : Addr} {od3 an3 : Option Addr} {sl3 : Array (Option Value)} {oc3 kV3 dc3 pm3 cd3 ct3 : Value}
    (a3 : PySem.W.nsIn K mainGlobals "_end_of_run" = some (some (.ref f3))) (l3 : K.lookup f3 = some ⟨oc3, od3, .func (PySem.W.fnOf "_end_of_run" "_end_of_run" (defArgs s__end_of_run) (defBody s__end_of_run) (defScope s__end_of_run) .none kV3 dc3 pm3 an3 cd3 ct3), sl3⟩) (c3 : PySem.W.codeIn K cd3 "_end_of_run" = true) (k3 : PySem.W.keepIn K (.ref f3) = true)
    {f4 : Addr} {od4 an4 : Option Addr} {sl4 : Array (Option Value)} {oc4 kV4 dc4 pm4 cd4 ct4 : Value}
    (a4 : PySem.W.nsIn K mainGlobals "_sort_of" = some (some (.ref f4))) (l4 : K.lookup f4 = some ⟨oc4, od4, .func (PySem.W.fnOf "_sort_of" "_sort_of" (defArgs s__sort_of) (defBody s__sort_of) (defScope s__sort_of) .none kV4 dc4 pm4 an4 cd4 ct4), sl4⟩) (c4 : PySem.W.codeIn K cd4 "_sort_of" = true) (k4 : PySem.W.keepIn K (.ref f4) = true)
    {f5 : Addr} {od5 an5 : Option Addr} {sl5 : Array (Option Value)} {oc5 kV5 dc5 pm5 cd5 ct5 : Value}
    (a5 : PySem.W.nsIn K mainGlobals "_law_tape" = some (some (.ref f5))) (l5 : K.lookup f5 = some ⟨oc5, od5, .func (PySem.W.fnOf "_law_tape" "_law_tape" (defArgs s__law_tape) (defBody s__law_tape) (defScope s__law_tape) .none kV5 dc5 pm5 an5 cd5 ct5), sl5⟩) (c5 : PySem.W.codeIn K cd5 "_law_tape" = true) (k5 : PySem.W.keepIn K (.ref f5) = true)
    {f6 : Addr} {od6 an6 : Option Addr} {sl6 : Array (Option Value)} {oc6 kV6 dc6 pm6 cd6 ct6 : Value}
    (a6 : PySem.W.nsIn K mainGlobals "_law_take" = some (some (.ref f6))) (l6 : K.lookup f6 = some ⟨oc6, od6, .func (PySem.W.fnOf "_law_take" "_law_take" (defArgs s__law_take) (defBody s__law_take) (defScope s__law_take) .none kV6 dc6 pm6 an6 cd6 ct6), sl6⟩) (c6 : PySem.W.codeIn K cd6 "_law_take" = true) (k6 : PySem.W.keepIn K (.ref f6) = true)
    {f7 : Addr} {od7 an7 : Option Addr} {sl7 : Array (Option Value)} {oc7 kV7 dc7 pm7 cd7 ct7 : Value}
    (a7 : PySem.W.nsIn K mainGlobals "_law_is_integer" = some (some (.ref f7))) (l7 : K.lookup f7 = some ⟨oc7, od7, .func (PySem.W.fnOf "_law_is_integer" "_law_is_integer" (defArgs s__law_is_integer) (defBody s__law_is_integer) (defScope s__law_is_integer) .none kV7 dc7 pm7 an7 cd7 ct7), sl7⟩) (c7 : PySem.W.codeIn K cd7 "_law_is_integer" = true) (k7 : PySem.W.keepIn K (.ref f7) = true)
    {f8 : Addr} {od8 an8 : Option Addr} {sl8 : Array (Option Value)} {oc8 kV8 dc8 pm8 cd8 ct8 : Value}
    (a8 : PySem.W.nsIn K mainGlobals "_law_same_items" = some (some (.ref f8))) (l8 : K.lookup f8 = some ⟨oc8, od8, .func (PySem.W.fnOf "_law_same_items" "_law_same_items" (defArgs s__law_same_items) (defBody s__law_same_items) (defScope s__law_same_items) .none kV8 dc8 pm8 an8 cd8 ct8), sl8⟩) (c8 : PySem.W.codeIn K cd8 "_law_same_items" = true) (k8 : PySem.W.keepIn K (.ref f8) = true)
    {f9 : Addr} {od9 an9 : Option Addr} {sl9 : Array (Option Value)} {oc9 kV9 dc9 pm9 cd9 ct9 : Value}
    (a9 : PySem.W.nsIn K mainGlobals "_law_same" = some (some (.ref f9))) (l9 : K.lookup f9 = some ⟨oc9, od9, .func (PySem.W.fnOf "_law_same" "_law_same" (defArgs s__law_same) (defBody s__law_same) (defScope s__law_same) .none kV9 dc9 pm9 an9 cd9 ct9), sl9⟩) (c9 : PySem.W.codeIn K cd9 "_law_same" = true) (k9 : PySem.W.keepIn K (.ref f9) = true)
    {f10 : Addr} {od10 an10 : Option Addr} {sl10 : Array (Option Value)} {oc10 kV10 dc10 pm10 cd10 ct10 : Value}
    (a10 : PySem.W.nsIn K mainGlobals "_law_letter" = some (some (.ref f10))) (l10 : K.lookup f10 = some ⟨oc10, od10, .func (PySem.W.fnOf "_law_letter" "_law_letter" (defArgs s__law_letter) (defBody s__law_letter) (defScope s__law_letter) .none kV10 dc10 pm10 an10 cd10 ct10), sl10⟩) (c10 : PySem.W.codeIn K cd10 "_law_letter" = true) (k10 : PySem.W.keepIn K (.ref f10) = true)
    {f11 : Addr} {od11 an11 : Option Addr} {sl11 : Array (Option Value)} {oc11 kV11 dc11 pm11 cd11 ct11 : Value}
    (a11 : PySem.W.nsIn K mainGlobals "_law_digit" = some (some (.ref f11))) (l11 : K.lookup f11 = some ⟨oc11, od11, .func (PySem.W.fnOf "_law_digit" "_law_digit" (defArgs s__law_digit) (defBody s__law_digit) (defScope s__law_digit) .none kV11 dc11 pm11 an11 cd11 ct11), sl11⟩) (c11 : PySem.W.codeIn K cd11 "_law_digit" = true) (k11 : PySem.W.keepIn K (.ref f11) = true)
    {f12 : Addr} {od12 an12 : Option Addr} {sl12 : Array (Option Value)} {oc12 kV12 dc12 pm12 cd12 ct12 : Value}
    (a12 : PySem.W.nsIn K mainGlobals "_law_stretch" = some (some (.ref f12))) (l12 : K.lookup f12 = some ⟨oc12, od12, .func (PySem.W.fnOf "_law_stretch" "_law_stretch" (defArgs s__law_stretch) (defBody s__law_stretch) (defScope s__law_stretch) .none kV12 dc12 pm12 an12 cd12 ct12), sl12⟩) (c12 : PySem.W.codeIn K cd12 "_law_stretch" = true) (k12 : PySem.W.keepIn K (.ref f12) = true)
    {f13 : Addr} {od13 an13 : Option Addr} {sl13 : Array (Option Value)} {oc13 kV13 dc13 pm13 cd13 ct13 : Value}
    (a13 : PySem.W.nsIn K mainGlobals "_law_tokens" = some (some (.ref f13))) (l13 : K.lookup f13 = some ⟨oc13, od13, .func (PySem.W.fnOf "_law_tokens" "_law_tokens" (defArgs s__law_tokens) (defBody s__law_tokens) (defScope s__law_tokens) .none kV13 dc13 pm13 an13 cd13 ct13), sl13⟩) (c13 : PySem.W.codeIn K cd13 "_law_tokens" = true) (k13 : PySem.W.keepIn K (.ref f13) = true)
    {f14 : Addr} {od14 an14 : Option Addr} {sl14 : Array (Option Value)} {oc14 kV14 dc14 pm14 cd14 ct14 : Value}
    (a14 : PySem.W.nsIn K mainGlobals "_law_scraps" = some (some (.ref f14))) (l14 : K.lookup f14 = some ⟨oc14, od14, .func (PySem.W.fnOf "_law_scraps" "_law_scraps" (defArgs s__law_scraps) (defBody s__law_scraps) (defScope s__law_scraps) .none kV14 dc14 pm14 an14 cd14 ct14), sl14⟩) (c14 : PySem.W.codeIn K cd14 "_law_scraps" = true) (k14 : PySem.W.keepIn K (.ref f14) = true)
    {f15 : Addr} {od15 an15 : Option Addr} {sl15 : Array (Option Value)} {oc15 kV15 dc15 pm15 cd15 ct15 : Value}
    (a15 : PySem.W.nsIn K mainGlobals "law" = some (some (.ref f15))) (l15 : K.lookup f15 = some ⟨oc15, od15, .func (PySem.W.fnOf "law" "law" (defArgs s_law) (defBody s_law) (defScope s_law) .none kV15 dc15 pm15 an15 cd15 ct15), sl15⟩) (c15 : PySem.W.codeIn K cd15 "law" = true) (k15 : PySem.W.keepIn K (.ref f15) = true)
    (z_len : PySem.W.nsIn K mainGlobals "len" = some none)
    (z_range : PySem.W.nsIn K mainGlobals "range" = some none)
    (z_abs : PySem.W.nsIn K mainGlobals "abs" = some none)
    (z_int : PySem.W.nsIn K mainGlobals "int" = some none)
    (z_str : PySem.W.nsIn K mainGlobals "str" = some none)
    (z_bool : PySem.W.nsIn K mainGlobals "bool" = some none)
    (z_tuple : PySem.W.nsIn K mainGlobals "tuple" = some none)
    (z_list : PySem.W.nsIn K mainGlobals "list" = some none)
    (z_isinstance : PySem.W.nsIn K mainGlobals "isinstance" = some none)
    {t_BLANKS : Tok} (y_BLANKS : PySem.W.nsIn K mainGlobals "BLANKS" = some (some (.str sBLANKS t_BLANKS)))
    {t_DIGITS : Tok} (y_DIGITS : PySem.W.nsIn K mainGlobals "DIGITS" = some (some (.str sDIGITS t_DIGITS)))
    {t_LETTERS : Tok} (y_LETTERS : PySem.W.nsIn K mainGlobals "LETTERS" = some (some (.str sLETTERS t_LETTERS)))
    {t_NAME_CHARACTERS : Tok} (y_NAME_CHARACTERS : PySem.W.nsIn K mainGlobals "NAME_CHARACTERS" = some (some (.str sNAMES t_NAME_CHARACTERS)))
    {t_SIGNS : Tok} (y_SIGNS : PySem.W.nsIn K mainGlobals "SIGNS" = some (some (.str sSIGNS t_SIGNS)))
    {p_WORDS : Addr} {d_WORDS : Option Addr} {u_WORDS : List Value} {n_WORDS : Nat} {q_WORDS : Array (Option Value)} (y_WORDS : PySem.W.nsIn K mainGlobals "WORDS" = some (some (.ref p_WORDS))) (x_WORDS : K.lookup p_WORDS = some ⟨.type "tuple", d_WORDS, .seq u_WORDS.toArray n_WORDS, q_WORDS⟩) (v_WORDS : Vals (wordL.map V.str) u_WORDS) (w_WORDS : u_WORDS.length ≤ sizeLine)
    : ∃ fd : FuncData, (∀ (s : Shared) (v : Value), BindsTo s fd ⟨[v], []⟩ [("script", v)]) ∧ ∀ base : Heap, K.In base → base.Ns mainGlobals mg → FnOk l.prog w K mg base CX0 7 fa fd ["script"] (spLaw K) := by
  have e := hfa.symm.trans (PySem.W.mg_of X G a15)
  cases e
  have F_tokens := fun_mk (st := s_tokens) l0 c0 k0
  have b_tokens := F_tokens.binds (ps := ["text"]) fun _ _ _ _ _ _ us hl => match us, hl with | [_], _ => rfl
  have g_tokens := PySem.W.mg_of X G a0
  have F__end_of_note := fun_mk (st := s__end_of_note) l1 c1 k1
  have b__end_of_note := F__end_of_note.binds (ps := ["text", "start"]) fun _ _ _ _ _ _ us hl => match us, hl with | [_, _], _ => rfl
  have g__end_of_note := PySem.W.mg_of X G a1
  have F__end_of_token := fun_mk (st := s__end_of_token) l2 c2 k2
  have b__end_of_token := F__end_of_token.binds (ps := ["text", "start"]) fun _ _ _ _ _ _ us hl => match us, hl with | [_, _], _ => rfl
  have g__end_of_token := PySem.W.mg_of X G a2
  have F__end_of_run := fun_mk (st := s__end_of_run) l3 c3 k3
  have b__end_of_run := F__end_of_run.binds (ps := ["text", "start", "characters"]) fun _ _ _ _ _ _ us hl => match us, hl with | [_, _, _], _ => rfl
  have g__end_of_run := PySem.W.mg_of X G a3
  have F__sort_of := fun_mk (st := s__sort_of) l4 c4 k4
  have b__sort_of := F__sort_of.binds (ps := ["piece"]) fun _ _ _ _ _ _ us hl => match us, hl with | [_], _ => rfl
  have g__sort_of := PySem.W.mg_of X G a4
  have F__law_tape := fun_mk (st := s__law_tape) l5 c5 k5
  have b__law_tape := F__law_tape.binds (ps := ["script"]) fun _ _ _ _ _ _ us hl => match us, hl with | [_], _ => rfl
  have g__law_tape := PySem.W.mg_of X G a5
  have F__law_take := fun_mk (st := s__law_take) l6 c6 k6
  have b__law_take := F__law_take.binds (ps := ["tape", "many"]) fun _ _ _ _ _ _ us hl => match us, hl with | [_, _], _ => rfl
  have g__law_take := PySem.W.mg_of X G a6
  have F__law_is_integer := fun_mk (st := s__law_is_integer) l7 c7 k7
  have b__law_is_integer := F__law_is_integer.binds (ps := ["actual"]) fun _ _ _ _ _ _ us hl => match us, hl with | [_], _ => rfl
  have g__law_is_integer := PySem.W.mg_of X G a7
  have F__law_same_items := fun_mk (st := s__law_same_items) l8 c8 k8
  have b__law_same_items := F__law_same_items.binds (ps := ["actual", "expected"]) fun _ _ _ _ _ _ us hl => match us, hl with | [_, _], _ => rfl
  have g__law_same_items := PySem.W.mg_of X G a8
  have F__law_same := fun_mk (st := s__law_same) l9 c9 k9
  have b__law_same := F__law_same.binds (ps := ["actual", "expected"]) fun _ _ _ _ _ _ us hl => match us, hl with | [_, _], _ => rfl
  have g__law_same := PySem.W.mg_of X G a9
  have F__law_letter := fun_mk (st := s__law_letter) l10 c10 k10
  have b__law_letter := F__law_letter.binds (ps := ["char"]) fun _ _ _ _ _ _ us hl => match us, hl with | [_], _ => rfl
  have g__law_letter := PySem.W.mg_of X G a10
  have F__law_digit := fun_mk (st := s__law_digit) l11 c11 k11
  have b__law_digit := F__law_digit.binds (ps := ["char"]) fun _ _ _ _ _ _ us hl => match us, hl with | [_], _ => rfl
  have g__law_digit := PySem.W.mg_of X G a11
  have F__law_stretch := fun_mk (st := s__law_stretch) l12 c12 k12
  have b__law_stretch := F__law_stretch.binds (ps := ["text", "at"]) fun _ _ _ _ _ _ us hl => match us, hl with | [_, _], _ => rfl
  have g__law_stretch := PySem.W.mg_of X G a12
  have F__law_tokens := fun_mk (st := s__law_tokens) l13 c13 k13
  have b__law_tokens := F__law_tokens.binds (ps := ["text"]) fun _ _ _ _ _ _ us hl => match us, hl with | [_], _ => rfl
  have g__law_tokens := PySem.W.mg_of X G a13
  have F__law_scraps := fun_mk (st := s__law_scraps) l14 c14 k14
  have b__law_scraps := F__law_scraps.binds (ps := ["tape", "most"]) fun _ _ _ _ _ _ us hl => match us, hl with | [_, _], _ => rfl
  have g__law_scraps := PySem.W.mg_of X G a14
  have F_law := fun_mk (st := s_law) l15 c15 k15
  have T : Txt K mg p_WORDS := {
    b_len := PySem.W.mg_none_of X G z_len, b_range := PySem.W.mg_none_of X G z_range, b_abs := PySem.W.mg_none_of X G z_abs, b_int := PySem.W.mg_none_of X G z_int, b_str := PySem.W.mg_none_of X G z_str, b_bool := PySem.W.mg_none_of X G z_bool, b_tuple := PySem.W.mg_none_of X G z_tuple, b_list := PySem.W.mg_none_of X G z_list, b_isinstance := PySem.W.mg_none_of X G z_isinstance, g_BLANKS := ⟨_, PySem.W.mg_of X G y_BLANKS, ⟨_, rfl⟩⟩, g_DIGITS := ⟨_, PySem.W.mg_of X G y_DIGITS, ⟨_, rfl⟩⟩, g_LETTERS := ⟨_, PySem.W.mg_of X G y_LETTERS, ⟨_, rfl⟩⟩, g_NAME_CHARACTERS := ⟨_, PySem.W.mg_of X G y_NAME_CHARACTERS, ⟨_, rfl⟩⟩, g_SIGNS := ⟨_, PySem.W.mg_of X G y_SIGNS, ⟨_, rfl⟩⟩, g_WORDS := ⟨_, PySem.W.mg_of X G y_WORDS, rfl⟩, o_WORDS := fun H => .inr ⟨_, _, _, x_WORDS, rfl, rfl, (by simpa using w_WORDS), (by simpa using v_WORDS)⟩ }
  refine ⟨PySem.W.fnOf "law" "law" (defArgs s_law) (defBody s_law) (defScope s_law) .none kV15 dc15 pm15 an15 cd15 ct15, fun s v => .of_eq rfl, fun base _ _ => ?_⟩

  have c1 : C8.Cal l.prog w K mg base 1 "_law_tape" (spTape K) [] := cal F__law_tape g__law_tape b__law_tape (ok__law_tape F__law_tape T)
  have c2 : C8.Cal l.prog w K mg base 1 "_law_take" spTake [] := cal F__law_take g__law_take b__law_take (ok__law_take F__law_take T)
  have c3 : C8.Cal l.prog w K mg base 2 "_law_scraps" spScraps [] := cal F__law_scraps g__law_scraps b__law_scraps (ok__law_scraps F__law_scraps T c2)
  have c4 : C8.Cal l.prog w K mg base 1 "_law_letter" spLetter [] := cal F__law_letter g__law_letter b__law_letter (ok__law_letter F__law_letter)
  have c5 : C8.Cal l.prog w K mg base 1 "_law_digit" spDigit [] := cal F__law_digit g__law_digit b__law_digit (ok__law_digit F__law_digit)
  have c6 : C8.Cal l.prog w K mg base 2 "_law_stretch" spStretch [] := cal F__law_stretch g__law_stretch b__law_stretch (ok__law_stretch F__law_stretch c4 c5)
  have c7 : C8.Cal l.prog w K mg base 3 "_law_tokens" (spTokens K) [] := cal F__law_tokens g__law_tokens b__law_tokens (ok__law_tokens F__law_tokens T c4 c5 c6)
  have c8 : C8.Cal l.prog w K mg base 1 "_end_of_run" spRun [] := cal F__end_of_run g__end_of_run b__end_of_run (ok__end_of_run F__end_of_run T)
  have c9 : C8.Cal l.prog w K mg base 2 "_end_of_token" spEnd [] := cal F__end_of_token g__end_of_token b__end_of_token (ok__end_of_token F__end_of_token T c8)
  have c10 : C8.Cal l.prog w K mg base 1 "_end_of_note" spNote [] := cal F__end_of_note g__end_of_note b__end_of_note (ok__end_of_note F__end_of_note T)
  have c11 : C8.Cal l.prog w K mg base 1 "_sort_of" spSort [] := cal F__sort_of g__sort_of b__sort_of (ok__sort_of F__sort_of T)
  have c12 : C8.Cal l.prog w K mg base 3 "tokens" (spTokens K) [] := cal F_tokens g_tokens b_tokens (ok_tokens F_tokens T c10 c9 c11)
  have c13 : C8.Cal l.prog w K mg base 6 "_law_same" (spSame K 2) [] := cal_same F__law_is_integer g__law_is_integer b__law_is_integer F__law_same_items g__law_same_items b__law_same_items F__law_same g__law_same b__law_same T 2
  exact ok_law F_law T c1 c3 c12 c7 c13
end K01
open PySem PySem.W PyProof.Rows L2
set_option maxHeartbeats 0 in
theorem PySem.Challenge.cw_settledland_k01_tokens_of_texts_holds : PySem.Challenge.rw_settledland_k01_tokens_of_texts.Holds := by
  w_on; o_law; k_head; (case hw => w_witness2)
  k_fill
  refine L2.walk_of (l := PySem.Challenge.rw_settledland_k01_tokens_of_texts) (n := 63) (k := 7) (x := "script") (CX := fun _ => L2.CX0) (sp := fun w => K01.spLaw _) rfl (by decide) rfl ⟨by decide, by decide, by decide⟩ (fun w h Y => PySem.W.kIn_of Y) ?F (fun _ _ a ns hl _ hS => ⟨a, ns, rfl, hS, hl, fun _ => rfl⟩) (fun _ _ _ _ _ h => h)
  case F =>
    intro w mg fa h KX G hmg
    refine' K01.all_mk KX G hmg ?a0 ?l0 ?c0 ?k0 ?a1 ?l1 ?c1 ?k1 ?a2 ?l2 ?c2 ?k2 ?a3 ?l3 ?c3 ?k3 ?a4 ?l4 ?c4 ?k4 ?a5 ?l5 ?c5 ?k5 ?a6 ?l6 ?c6 ?k6 ?a7 ?l7 ?c7 ?k7 ?a8 ?l8 ?c8 ?k8 ?a9 ?l9 ?c9 ?k9 ?a10 ?l10 ?c10 ?k10 ?a11 ?l11 ?c11 ?k11 ?a12 ?l12 ?c12 ?k12 ?a13 ?l13 ?c13 ?k13 ?a14 ?l14 ?c14 ?k14 ?a15 ?l15 ?c15 ?k15 ?z_len ?z_range ?z_abs ?z_int ?z_str ?z_bool ?z_tuple ?z_list ?z_isinstance ?y_BLANKS ?y_DIGITS ?y_LETTERS ?y_NAME_CHARACTERS ?y_SIGNS ?y_WORDS ?x_WORDS ?v_WORDS ?w_WORDS
    (case a0 => k_is); (case l0 => k_is); (case c0 => k_is); (case k0 => k_is); (case a1 => k_is); (case l1 => k_is); (case c1 => k_is); (case k1 => k_is); (case a2 => k_is); (case l2 => k_is); (case c2 => k_is); (case k2 => k_is); (case a3 => k_is); (case l3 => k_is); (case c3 => k_is); (case k3 => k_is); (case a4 => k_is); (case l4 => k_is); (case c4 => k_is); (case k4 => k_is); (case a5 => k_is); (case l5 => k_is); (case c5 => k_is); (case k5 => k_is); (case a6 => k_is); (case l6 => k_is); (case c6 => k_is); (case k6 => k_is); (case a7 => k_is); (case l7 => k_is); (case c7 => k_is); (case k7 => k_is); (case a8 => k_is); (case l8 => k_is); (case c8 => k_is); (case k8 => k_is); (case a9 => k_is); (case l9 => k_is); (case c9 => k_is); (case k9 => k_is); (case a10 => k_is); (case l10 => k_is); (case c10 => k_is); (case k10 => k_is); (case a11 => k_is); (case l11 => k_is); (case c11 => k_is); (case k11 => k_is); (case a12 => k_is); (case l12 => k_is); (case c12 => k_is); (case k12 => k_is); (case a13 => k_is); (case l13 => k_is); (case c13 => k_is); (case k13 => k_is); (case a14 => k_is); (case l14 => k_is); (case c14 => k_is); (case k14 => k_is); (case a15 => k_is); (case l15 => k_is); (case c15 => k_is); (case k15 => k_is); (case z_len => k_is); (case z_range => k_is); (case z_abs => k_is); (case z_int => k_is); (case z_str => k_is); (case z_bool => k_is); (case z_tuple => k_is); (case z_list => k_is); (case z_isinstance => k_is); (case y_BLANKS => k_is); (case y_DIGITS => k_is); (case y_LETTERS => k_is); (case y_NAME_CHARACTERS => k_is); (case y_SIGNS => k_is); (case y_WORDS => k_is); (case x_WORDS => k_is); (case v_WORDS => (repeat (first | exact .nil | refine .cons ⟨_, rfl⟩ ?_))); (case w_WORDS => (simp only [List.length_cons, List.length_nil]; decide))
