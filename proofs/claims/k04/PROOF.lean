import PyProof.Rows.All
import Wide.All
import OpenK.AllK
import Wide.FinOn
import HandS.ForMost
import HandS.IsInst
import HandS.StrMore
import HandS.Codes
import HandS.Walk
import HandS.FStr
import HandS.ReplaceList
import HandS.Replace
import PyProof.ToksMono
import PySem.Challenge.RW_settledland_k04_things_written_out
set_option Elab.async false
set_option linter.all false
set_option maxRecDepth 100000
set_option maxHeartbeats 4000000
/-! What all laws share: texts, heaps, data, the tape. -/
namespace LB
open PySem PySem.Spec PyProof.Rows L2
theorem beq_of {a b : Bool} (h : a = true ↔ b = true) : a = b := by
  cases a <;> cases b <;> simp_all
abbrev one (c : Nat) : V := .str ⟨#[c]⟩
abbrev txt (l : List Nat) : V := .str ⟨l.toArray⟩
theorem slen (l : List Nat) : (⟨l.toArray⟩ : Str).length = l.length := by simp [Str.length]
theorem stl (l : List Nat) : (⟨l.toArray⟩ : Str).cps.toList = l := by simp
theorem szl {n : Nat} (h : n ≤ 100000) : n ≤ sizeLine := Nat.le_trans h (by decide)
theorem szt {l : List Nat} (h : l.length ≤ 100000) : (⟨l.toArray⟩ : Str).length ≤ sizeLine := by
  rw [slen]; exact szl h
theorem at_txt {l : List Nat} {i c : Nat} (h : l[i]? = some c) : atI (⟨l.toArray⟩ : Str).cps.toList (i : Int) = some c := by
  rw [stl]; exact atI_nat h
theorem getD_of {l : List Nat} {i : Nat} (h : i < l.length) : ∃ c, l[i]? = some c := ⟨l[i], List.getElem?_eq_getElem h⟩
theorem same_seqT {K : PySem.W.Frag} {H H' : Hp} {a : Addr} {xs : List V} (e : Same H H') (h : SqT K H a xs) : SqT K H' a xs := by
  rcases h with (h | ⟨o, h⟩) | h
  · exact .inl (.inl (e _ _ h))
  · exact .inl (.inr ⟨o, e _ _ h⟩)
  · exact .inr h
mutual
theorem dp_mono {K : PySem.W.Frag} {H H' : Hp} (e : Same H H') : ∀ (d : PyData) (v : V), Dp K H v d → Dp K H' v d
  | .none, _, h => by cases h; exact .non
  | .bool b, _, h => by cases h; exact .bl b
  | .int i, _, h => by cases h; exact .int i
  | .str x, _, h => by cases h; exact .str x
  | .list ds, _, h => by
    cases h with
    | lst hs ha => exact .lst (e.seq hs) (dpAll_mono e ds _ ha)
  | .tuple ds, _, h => by
    cases h with
    | tup hs ha => exact .tup (same_seqT e hs) (dpAll_mono e ds _ ha)
  | .dict _, _, h => by cases h
theorem dpAll_mono {K : PySem.W.Frag} {H H' : Hp} (e : Same H H') : ∀ (ds : List PyData) (vs : List V), DpAll K H vs ds → DpAll K H' vs ds
  | [], _, h => by cases h; exact .nil
  | d :: ds, _, h => by
    cases h with
    | cons h1 h2 => exact .cons (dp_mono e d _ h1) (dpAll_mono e ds _ h2)
end
theorem dpAll_snoc {K : PySem.W.Frag} {H : Hp} : ∀ {vs : List V} {ds : List PyData} {v : V} {d : PyData}, DpAll K H vs ds → Dp K H v d → DpAll K H (vs ++ [v]) (ds ++ [d])
  | _, _, _, _, .nil, h => .cons h .nil
  | _, _, _, _, .cons a b, h => .cons a (dpAll_snoc b h)
theorem dpAll_len {K : PySem.W.Frag} {H : Hp} : ∀ {vs : List V} {ds : List PyData}, DpAll K H vs ds → vs.length = ds.length
  | _, _, .nil => rfl
  | _, _, .cons _ b => congrArg (· + 1) (dpAll_len b)
theorem dpAll_get {K : PySem.W.Frag} {H : Hp} : ∀ {vs : List V} {ds : List PyData} {i : Nat}, DpAll K H vs ds → i < vs.length → ∃ v d, vs[i]? = some v ∧ ds[i]? = some d ∧ Dp K H v d
  | _, _, _, .nil, h => absurd h (Nat.not_lt_zero _)
  | _, _, 0, .cons a _, _ => ⟨_, _, rfl, rfl, a⟩
  | _, _, i + 1, .cons _ b, h => dpAll_get (i := i) b (Nat.lt_of_succ_lt_succ h)
theorem same_upd {H : Hp} {p : Addr} {o : HO} (h : H p = none) : Same H (upd H p o) := fun b x e => by
  rw [upd_ne (ne_of_none e h)]
  exact e
theorem eq_one {c d : Nat} {s : Str} (h : s = ⟨#[d]⟩) : decide (one c = .str s) = decide (c = d) := by
  subst h
  refine decide_eq_decide.mpr ⟨fun e => ?_, fun e => by rw [e]⟩
  have e1 : (⟨#[c]⟩ : Str) = ⟨#[d]⟩ := V.str.inj e
  have e2 : ([c] : List Nat) = [d] := congrArg (fun z : Str => z.cps.toList) e1
  exact (List.cons.inj e2).1
/-! ### _law_same: equal data -/
def okD : Nat → PyData → Prop
  | _, .none => True
  | _, .bool _ => True
  | _, .int _ => True
  | _, .str _ => True
  | 0, .list _ => False
  | 0, .tuple _ => False
  | n + 1, .list ds => ds.length ≤ 1000000 ∧ ∀ d ∈ ds, okD n d
  | n + 1, .tuple ds => ds.length ≤ 1000000 ∧ ∀ d ∈ ds, okD n d
  | _, .dict _ => False
def spIsInt (K : PySem.W.Frag) : Sp := fun vs H Q _ => ∃ i : Int, vs = [.int i] ∧ Q (.bl true) H
def SqX (K : PySem.W.Frag) (H : Hp) (a : Addr) (xs : List V) : Prop := SqL K H a xs ∨ SqT K H a xs
def spItems (K : PySem.W.Frag) (n : Nat) : Sp := fun vs H Q _ => ∃ (a b : Addr) (xs ys : List V) (ds : List PyData), vs = [.ref a, .ref b] ∧ SqX K H a xs ∧ SqX K H b ys ∧ DpAll K H xs ds ∧ DpAll K H ys ds ∧ 0 < n ∧ ds.length ≤ 1000000 ∧ (∀ d ∈ ds, okD (n - 1) d) ∧ Q (.bl true) H
def spSame (K : PySem.W.Frag) (n : Nat) : Sp := fun vs H Q _ => ∃ (x y : V) (d : PyData), vs = [x, y] ∧ Dp K H x d ∧ Dp K H y d ∧ okD n d ∧ Q (.bl true) H
def tyN : PyData → String
  | .none => "NoneType" | .bool _ => "bool" | .int _ => "int" | .str _ => "str" | .list _ => "list" | .tuple _ => "tuple" | .dict _ => "dict"
theorem ty_d {K : PySem.W.Frag} {H : Hp} {v : V} {d : PyData} (h : Dp K H v d) : TyX K H v (.type (tyN d)) := by
  cases h with
  | non => exact .base .non
  | bl b => exact .base (.bl b)
  | int i => exact .base (.int i)
  | str x => exact .base (.str x)
  | lst hs _ =>
    rcases hs with (h | ⟨o, h⟩) | ⟨o, its, n, h, c, _⟩
    · exact .base (.lst h)
    · exact .base (.frz h)
    · exact .kList h c
  | tup hs _ =>
    rcases hs with (h | ⟨o, h⟩) | ⟨o, its, n, h, c, _⟩
    · exact .base (.tup h)
    · exact .fTuple h
    · exact .kTuple h c
theorem isi_test {K : PySem.W.Frag} {σ : L2.St} {H : Hp} {i : Nat} {x : V} {T t : String} {b : Bool} {R : Bool → Hp → Prop} (hs : σ[i]? = some (some x)) (ty : TyX K H x (.type t)) (h : kitB t T = some b) (q : R b H) :
    tB (tCB (rIsi K) (tCons (tVar i) (tCons (tC (.ty T)) tNil))) σ H R := ⟨_, hs, _, _, _, _, _, rfl, .ty _, ty, kit_ty h, _, rfl, q⟩
theorem isi_val {K : PySem.W.Frag} {σ : L2.St} {H : Hp} {i : Nat} {x : V} {T t : String} {b : Bool} {R : V → Hp → Prop} (hs : σ[i]? = some (some x)) (ty : TyX K H x (.type t)) (h : kitB t T = some b) (q : R (.bl b) H) :
    tCB (rIsi K) (tCons (tVar i) (tCons (tC (.ty T)) tNil)) σ H R := ⟨_, hs, _, _, _, _, _, rfl, .ty _, ty, kit_ty h, q⟩
theorem dec_self {α : Type} [DecidableEq α] (x : α) : decide (x = x) = true := decide_eq_true rfl
/-! ### the tape -/
abbrev kCells : Key := Sum.inr "cells"
abbrev kAt : Key := Sum.inr "at"
abbrev kLeft : Key := Sum.inr "left"
abbrev kSeed : Key := Sum.inr "seed"
abbrev kSalt : Key := Sum.inr "salt"
def tapeK (c : Addr) (at_ left seed salt : Int) : List (Key × V) := [(kCells, .ref c), (kAt, .int at_), (kLeft, .int left), (kSeed, .int seed), (kSalt, .int salt)]
section
variable {c : Addr} {a l s z x : Int}
theorem s_cells_at : ¬ Str.ofString "cells" = Str.ofString "at" := by decide +kernel
theorem s_cells_left : ¬ Str.ofString "cells" = Str.ofString "left" := by decide +kernel
theorem s_cells_seed : ¬ Str.ofString "cells" = Str.ofString "seed" := by decide +kernel
theorem s_cells_salt : ¬ Str.ofString "cells" = Str.ofString "salt" := by decide +kernel
theorem s_at_cells : ¬ Str.ofString "at" = Str.ofString "cells" := by decide +kernel
theorem s_at_left : ¬ Str.ofString "at" = Str.ofString "left" := by decide +kernel
theorem s_at_seed : ¬ Str.ofString "at" = Str.ofString "seed" := by decide +kernel
theorem s_at_salt : ¬ Str.ofString "at" = Str.ofString "salt" := by decide +kernel
theorem s_left_cells : ¬ Str.ofString "left" = Str.ofString "cells" := by decide +kernel
theorem s_left_at : ¬ Str.ofString "left" = Str.ofString "at" := by decide +kernel
theorem s_left_seed : ¬ Str.ofString "left" = Str.ofString "seed" := by decide +kernel
theorem s_left_salt : ¬ Str.ofString "left" = Str.ofString "salt" := by decide +kernel
theorem s_seed_cells : ¬ Str.ofString "seed" = Str.ofString "cells" := by decide +kernel
theorem s_seed_at : ¬ Str.ofString "seed" = Str.ofString "at" := by decide +kernel
theorem s_seed_left : ¬ Str.ofString "seed" = Str.ofString "left" := by decide +kernel
theorem s_seed_salt : ¬ Str.ofString "seed" = Str.ofString "salt" := by decide +kernel
theorem s_salt_cells : ¬ Str.ofString "salt" = Str.ofString "cells" := by decide +kernel
theorem s_salt_at : ¬ Str.ofString "salt" = Str.ofString "at" := by decide +kernel
theorem s_salt_left : ¬ Str.ofString "salt" = Str.ofString "left" := by decide +kernel
theorem s_salt_seed : ¬ Str.ofString "salt" = Str.ofString "seed" := by decide +kernel
theorem n1 : ¬ kCells = kAt := by decide +kernel
theorem n2 : ¬ kCells = kLeft := by decide +kernel
theorem n3 : ¬ kCells = kSeed := by decide +kernel
theorem n4 : ¬ kCells = kSalt := by decide +kernel
theorem n5 : ¬ kAt = kLeft := by decide +kernel
theorem n6 : ¬ kAt = kSeed := by decide +kernel
theorem n7 : ¬ kAt = kSalt := by decide +kernel
theorem n8 : ¬ kLeft = kSeed := by decide +kernel
theorem n9 : ¬ kLeft = kSalt := by decide +kernel
theorem n10 : ¬ kSeed = kSalt := by decide +kernel
theorem m5 : ¬ kLeft = kAt := by decide +kernel
theorem m6 : ¬ kSeed = kAt := by decide +kernel
theorem m7 : ¬ kSalt = kAt := by decide +kernel
theorem m8 : ¬ kSeed = kLeft := by decide +kernel
theorem m9 : ¬ kSalt = kLeft := by decide +kernel
theorem m10 : ¬ kSalt = kSeed := by decide +kernel
theorem v_cells : valV (tapeK c a l s z) kCells = some (.ref c) := valV_pos rfl
theorem v_at : valV (tapeK c a l s z) kAt = some (.int a) := by
  unfold tapeK
  rw [valV_neg n1, valV_pos rfl]
theorem v_left : valV (tapeK c a l s z) kLeft = some (.int l) := by
  unfold tapeK
  rw [valV_neg n2, valV_neg n5, valV_pos rfl]
theorem v_seed : valV (tapeK c a l s z) kSeed = some (.int s) := by
  unfold tapeK
  rw [valV_neg n3, valV_neg n6, valV_neg n8, valV_pos rfl]
theorem v_salt : valV (tapeK c a l s z) kSalt = some (.int z) := by
  unfold tapeK
  rw [valV_neg n4, valV_neg n7, valV_neg n9, valV_neg n10, valV_pos rfl]
theorem p_at : putK (tapeK c a l s z) kAt (.int x) = tapeK c x l s z := by
  unfold putK tapeK
  simp [s_cells_at, s_cells_left, s_cells_seed, s_cells_salt, s_at_cells, s_at_left, s_at_seed, s_at_salt, s_left_cells, s_left_at, s_left_seed, s_left_salt, s_seed_cells, s_seed_at, s_seed_left, s_seed_salt, s_salt_cells, s_salt_at, s_salt_left, s_salt_seed]
theorem p_left : putK (tapeK c a l s z) kLeft (.int x) = tapeK c a x s z := by
  unfold putK tapeK
  simp [s_cells_at, s_cells_left, s_cells_seed, s_cells_salt, s_at_cells, s_at_left, s_at_seed, s_at_salt, s_left_cells, s_left_at, s_left_seed, s_left_salt, s_seed_cells, s_seed_at, s_seed_left, s_seed_salt, s_salt_cells, s_salt_at, s_salt_left, s_salt_seed]
theorem p_salt : putK (tapeK c a l s z) kSalt (.int x) = tapeK c a l s x := by
  unfold putK tapeK
  simp [s_cells_at, s_cells_left, s_cells_seed, s_cells_salt, s_at_cells, s_at_left, s_at_seed, s_at_salt, s_left_cells, s_left_at, s_left_seed, s_left_salt, s_seed_cells, s_seed_at, s_seed_left, s_seed_salt, s_salt_cells, s_salt_at, s_salt_left, s_salt_seed]
theorem p_new : mergeK [] (tapeK c a l s z) = tapeK c a l s z := by
  unfold mergeK tapeK
  simp [putK, s_cells_at, s_cells_left, s_cells_seed, s_cells_salt, s_at_cells, s_at_left, s_at_seed, s_at_salt, s_left_cells, s_left_at, s_left_seed, s_left_salt, s_seed_cells, s_seed_at, s_seed_left, s_seed_salt, s_salt_cells, s_salt_at, s_salt_left, s_salt_seed]
theorem dg_cells {H : Hp} {t : Addr} (ht : H t = some (.dK (tapeK c a l s z))) : DGet H t (V.str "cells") (some (.ref c)) := by
  have h := DGet.k (k := kCells) ht
  rwa [v_cells] at h
theorem dg_at {H : Hp} {t : Addr} (ht : H t = some (.dK (tapeK c a l s z))) : DGet H t (V.str "at") (some (.int a)) := by
  have h := DGet.k (k := kAt) ht
  rwa [v_at] at h
theorem dg_left {H : Hp} {t : Addr} (ht : H t = some (.dK (tapeK c a l s z))) : DGet H t (V.str "left") (some (.int l)) := by
  have h := DGet.k (k := kLeft) ht
  rwa [v_left] at h
theorem dg_seed {H : Hp} {t : Addr} (ht : H t = some (.dK (tapeK c a l s z))) : DGet H t (V.str "seed") (some (.int s)) := by
  have h := DGet.k (k := kSeed) ht
  rwa [v_seed] at h
theorem dg_salt {H : Hp} {t : Addr} (ht : H t = some (.dK (tapeK c a l s z))) : DGet H t (V.str "salt") (some (.int z)) := by
  have h := DGet.k (k := kSalt) ht
  rwa [v_salt] at h
theorem dp_at {H : Hp} {t : Addr} (ht : H t = some (.dK (tapeK c a l s z))) : DPut H t (V.str "at") (.int x) (upd H t (.dK (tapeK c x l s z))) := by
  have h := DPut.k (k := kAt) (v := .int x) ht (by show 5 < sizeLine; decide)
  rwa [p_at] at h
theorem dp_left {H : Hp} {t : Addr} (ht : H t = some (.dK (tapeK c a l s z))) : DPut H t (V.str "left") (.int x) (upd H t (.dK (tapeK c a x s z))) := by
  have h := DPut.k (k := kLeft) (v := .int x) ht (by show 5 < sizeLine; decide)
  rwa [p_left] at h
theorem dp_salt {H : Hp} {t : Addr} (ht : H t = some (.dK (tapeK c a l s z))) : DPut H t (V.str "salt") (.int x) (upd H t (.dK (tapeK c a l s x))) := by
  have h := DPut.k (k := kSalt) (v := .int x) ht (by show 5 < sizeLine; decide)
  rwa [p_salt] at h
end
/-- a tape over these cells, its list at c -/
def TapeK (c : Addr) (cs : List Int) (kvs : List (Key × V)) : Prop :=
  ∃ (a l s z : Int), kvs = tapeK c a l s z ∧ 0 ≤ a ∧ a ≤ cs.length ∧ 0 ≤ l ∧ 0 ≤ s ∧ s < 2147483647
structure Tape (t c : Addr) (cs : List Int) (H : Hp) : Prop where
  dc : ∃ kvs, H t = some (.dK kvs) ∧ TapeK c cs kvs
  ls : H c = some (.lst (cs.map V.int))
  nn : ∀ x ∈ cs, 0 ≤ x
theorem Tape.ne {t c : Addr} {cs : List Int} {H : Hp} (T : Tape t c cs H) : c ≠ t := by
  obtain ⟨kvs, h, _⟩ := T.dc
  exact ne_of T.ls h (by intro z; cases z)
theorem Tape.new {t c : Addr} {cs : List Int} {H : Hp} {kvs : List (Key × V)} (T : Tape t c cs H) (h : TapeK c cs kvs) : Tape t c cs (upd H t (.dK kvs)) :=
  ⟨⟨kvs, upd_same, h⟩, by rw [upd_ne T.ne]; exact T.ls, T.nn⟩
/-- all but what stands at t stays -/
def SameX (t : Addr) (H H' : Hp) : Prop := ∀ b o, b ≠ t → H b = some o → H' b = some o
theorem SameX.of_same {t : Addr} {H H' : Hp} (h : Same H H') : SameX t H H' := fun b o _ e => h b o e
theorem SameX.trans {t : Addr} {H H1 H2 : Hp} (a : SameX t H H1) (b : SameX t H1 H2) : SameX t H H2 := fun x o n e => b x o n (a x o n e)
theorem SameX.upd {t : Addr} {H : Hp} {o : HO} : SameX t H (upd H t o) := fun b u n e => by rw [upd_ne n]; exact e
theorem upd_id {H : Hp} {t : Addr} {o : HO} (h : H t = some o) : upd H t o = H := by
  funext b
  by_cases hb : b = t
  · subst hb; rw [upd_same, h]
  · rw [upd_ne hb]
def spTape (K : PySem.W.Frag) : Sp := fun vs H Q _ => ∃ (a : Addr) (ns : List Int), vs = [.ref a] ∧ SqL K H a (ns.map V.int) ∧ ns.length ≤ 63 ∧
  ∀ (t c : Addr) (cs : List Int) (H' : Hp), Same H H' → H t = none → H c = none → Tape t c cs H' → Q (.ref t) H'
def spTake : Sp := fun vs H Q _ => ∃ (t c : Addr) (cs : List Int) (many : Int), vs = [.ref t, .int many] ∧ Tape t c cs H ∧ 0 < many ∧ many < 1000000 ∧
  ∀ (r : Int) (kvs : List (Key × V)), 0 ≤ r → r < many → TapeK c cs kvs → Q (.int r) (upd H t (.dK kvs))
def absI (n : Int) : Int := if n < 0 then -n else n
/-- the built-ins' names are the built-ins -/
structure Blt (mg : Str → Option Value) : Prop where
  b_len : mg "len" = none
  b_range : mg "range" = none
  b_abs : mg "abs" = none
  b_int : mg "int" = none
  b_str : mg "str" = none
  b_bool : mg "bool" = none
  b_tuple : mg "tuple" = none
  b_list : mg "list" = none
  b_dict : mg "dict" = none
  b_isinstance : mg "isinstance" = none
section
variable {P : Program} {w : World} {K : PySem.W.Frag} {mg : Str → Option Value} {base : Heap}
/-- a def by its body, as one that may be called by its name -/
theorem cal {x : Str} {st : Stmt} {f : Addr} {fd : FuncData} {ps : List Str} {k : Nat} {sp : Sp} (F : Fun K x x st f fd) (gf : mg x = some (.ref f)) (b : Binds K fd ps []) (G : FnOk P w K mg base CX0 k f fd ps sp) : C8.Cal P w K mg base k x sp [] :=
  ⟨f, fd, ps, [], G, gf, F.kp, b, .nil⟩
theorem sqx_len {X : Cx} {H : Hp} {a : Addr} {xs : List V} (h : SqX K H a xs) : SqL K H a xs ∨ SqT K H a xs := h
theorem ix_x {H : Hp} {a : Addr} {xs : List V} {i : Nat} {v : V} {R : V → Hp → Prop} (h : SqX K H a xs) (hv : xs[i]? = some v) (q : R v H) : rIx K (.ref a) (.int (i : Int)) H R := by
  rcases h with h | h
  · exact .inl ⟨a, xs, i, v, rfl, rfl, h, atI_nat hv, q⟩
  · exact .inr (.inl ⟨a, xs, i, v, rfl, rfl, h, atI_nat hv, q⟩)
end
/-! ### heaps but for some open objects -/
/-- the heap without what stands at S -/
def wo (S : List Addr) (H : Hp) : Hp := fun b => if b ∈ S then none else H b
theorem wo_some {S : List Addr} {H : Hp} {b : Addr} {o : HO} : wo S H b = some o ↔ b ∉ S ∧ H b = some o := by
  unfold wo
  by_cases h : b ∈ S
  · rw [if_pos h]
    exact ⟨fun e => (by cases e), fun e => absurd h e.1⟩
  · rw [if_neg h]
    exact ⟨fun e => ⟨h, e⟩, fun e => e.2⟩
/-- all that stands outside S stays -/
def Out (S : List Addr) (H H' : Hp) : Prop := ∀ b o, b ∉ S → H b = some o → H' b = some o
theorem Out.refl {S : List Addr} {H : Hp} : Out S H H := fun _ _ _ e => e
theorem Out.trans {S : List Addr} {H H1 H2 : Hp} (a : Out S H H1) (b : Out S H1 H2) : Out S H H2 := fun x o n e => b x o n (a x o n e)
theorem Out.of_same {S : List Addr} {H H' : Hp} (h : Same H H') : Out S H H' := fun b o _ e => h b o e
theorem Out.mono {S S' : List Addr} {H H' : Hp} (s : ∀ b ∈ S, b ∈ S') (h : Out S H H') : Out S' H H' := fun b o n e => h b o (fun q => n (s b q)) e
theorem Out.upd_in {S : List Addr} {H : Hp} {p : Addr} {o : HO} (h : p ∈ S) : Out S H (upd H p o) := fun b u n e => by
  rw [upd_ne (fun q => n (by rw [q]; exact h))]
  exact e
theorem Out.upd_new {S : List Addr} {H : Hp} {p : Addr} {o : HO} (h : H p = none) : Out S H (upd H p o) := .of_same (same_upd h)
theorem Out.same {S : List Addr} {H H' : Hp} (h : Out S H H') : Same (wo S H) (wo S H') := fun b o e => by
  obtain ⟨n, e⟩ := wo_some.mp e
  exact wo_some.mpr ⟨n, h b o n e⟩
theorem Out.free {S : List Addr} {H H' : Hp} {p : Addr} (h : Out S H H') (hp : p ∉ S) (e : H' p = none) : H p = none := by
  cases q : H p with
  | none => rfl
  | some o =>
    rw [h p o hp q] at e
    cases e
theorem wo_le {S : List Addr} {H : Hp} : Same (wo S H) H := fun _ _ e => (wo_some.mp e).2
theorem wo_anti {S S' : List Addr} {H : Hp} (s : ∀ b ∈ S', b ∈ S) : Same (wo S H) (wo S' H) := fun b o e => by
  obtain ⟨n, e⟩ := wo_some.mp e
  exact wo_some.mpr ⟨fun q => n (s b q), e⟩
/-- a new open object -/
theorem wo_open {S : List Addr} {H : Hp} {f : Addr} {o : HO} (h : H f = none) : Same (wo S H) (wo (f :: S) (upd H f o)) := fun b u e => by
  obtain ⟨n, e⟩ := wo_some.mp e
  have hb : b ≠ f := ne_of_none e h
  exact wo_some.mpr ⟨fun q => (List.mem_cons.mp q).elim hb n, by rw [upd_ne hb]; exact e⟩
theorem SameX.out {t : Addr} {H H' : Hp} (h : SameX t H H') : Out [t] H H' := fun b o n e => h b o (fun q => n (by rw [q]; exact List.mem_singleton.mpr rfl)) e
/-- what is open is there -/
def Alive (S : List Addr) (H : Hp) : Prop := ∀ b ∈ S, H b ≠ none
theorem Alive.new {S : List Addr} {H : Hp} {p : Addr} (a : Alive S H) (h : H p = none) : p ∉ S := fun q => a p q h
theorem Alive.cons {S : List Addr} {H : Hp} {p : Addr} {o : HO} (a : Alive S H) (h : H p = some o) : Alive (p :: S) H := fun b hb => by
  rcases List.mem_cons.mp hb with rfl | hb
  · rw [h]; exact fun z => by cases z
  · exact a b hb
theorem Alive.nil {H : Hp} : Alive [] H := fun _ h => by cases h
theorem Alive.upd {S : List Addr} {H : Hp} {p : Addr} {o : HO} (a : Alive S H) : Alive S (upd H p o) := fun b hb => by
  by_cases h : b = p
  · subst h; rw [upd_same]; exact fun z => by cases z
  · rw [upd_ne h]; exact a b hb
theorem Alive.out {S T : List Addr} {H H' : Hp} (a : Alive S H) (h : Out T H H') (t : ∀ b ∈ T, H' b ≠ none) : Alive S H' := fun b hb => by
  by_cases hT : b ∈ T
  · exact t b hT
  · cases e : H b with
    | none => exact absurd e (a b hb)
    | some o => rw [h b o hT e]; exact fun z => by cases z
/-- data outside the open objects -/
abbrev DpS (K : PySem.W.Frag) (S : List Addr) (H : Hp) (v : V) (d : PyData) : Prop := Dp K (wo S H) v d
abbrev DsS (K : PySem.W.Frag) (S : List Addr) (H : Hp) (vs : List V) (ds : List PyData) : Prop := DpAll K (wo S H) vs ds
section
variable {K : PySem.W.Frag} {S : List Addr} {H H' : Hp}
theorem dpS_tup {p : Addr} {xs : List V} {ds : List PyData} (np : p ∉ S) (h : H p = some (.tup xs)) (a : DsS K S H xs ds) : DpS K S H (.ref p) (.tuple ds) := .tup (SqT.of (wo_some.mpr ⟨np, h⟩)) a
theorem dpS_lst {p : Addr} {xs : List V} {ds : List PyData} (np : p ∉ S) (h : H p = some (.lst xs)) (a : DsS K S H xs ds) : DpS K S H (.ref p) (.list ds) := .lst (SqL.of (wo_some.mpr ⟨np, h⟩)) a
theorem dpS_out {v : V} {d : PyData} (h : Out S H H') (a : DpS K S H v d) : DpS K S H' v d := dp_mono h.same _ _ a
theorem dsS_out {vs : List V} {ds : List PyData} (h : Out S H H') (a : DsS K S H vs ds) : DsS K S H' vs ds := dpAll_mono h.same _ _ a
theorem dpS_in {v : V} {d : PyData} (a : DpS K S H v d) : Dp K H v d := dp_mono wo_le _ _ a
theorem dsS_in {vs : List V} {ds : List PyData} (a : DsS K S H vs ds) : DpAll K H vs ds := dpAll_mono wo_le _ _ a
theorem dp_all {v : V} {d : PyData} (a : Dp K H v d) : DpS K [] H v d := dp_mono (fun b o e => wo_some.mpr ⟨List.not_mem_nil, e⟩) _ _ a
/-- what data are -/
theorem dp_tuple {v : V} {ds : List PyData} (h : Dp K H v (.tuple ds)) : ∃ a xs, v = .ref a ∧ SqT K H a xs ∧ DpAll K H xs ds := by
  cases h with
  | tup a b => exact ⟨_, _, rfl, a, b⟩
theorem dp_list {v : V} {ds : List PyData} (h : Dp K H v (.list ds)) : ∃ a xs, v = .ref a ∧ SqL K H a xs ∧ DpAll K H xs ds := by
  cases h with
  | lst a b => exact ⟨_, _, rfl, a, b⟩
theorem dp_str {v : V} {x : Str} (h : Dp K H v (.str x)) : v = .str x := by cases h; rfl
theorem dp_int {v : V} {x : Int} (h : Dp K H v (.int x)) : v = .int x := by cases h; rfl
theorem dp_none {v : V} (h : Dp K H v .none) : v = .non := by cases h; rfl
theorem ds_nil {vs : List V} (h : DpAll K H vs []) : vs = [] := by cases h; rfl
theorem ds_cons {vs : List V} {d : PyData} {ds : List PyData} (h : DpAll K H vs (d :: ds)) : ∃ v r, vs = v :: r ∧ Dp K H v d ∧ DpAll K H r ds := by
  cases h with
  | cons a b => exact ⟨_, _, rfl, a, b⟩
end
end LB
/-! Drawn trees: data, open lists. -/
namespace LB
open PySem PySem.Spec PyProof.Rows L2
/-! ### the state in which things are drawn -/
structure Live (t c : Addr) (cs : List Int) (S : List Addr) (H : Hp) : Prop where
  tape : Tape t c cs H
  al : Alive S H
  tS : t ∈ S
  cS : c ∉ S
section
variable {t c : Addr} {cs : List Int} {S : List Addr} {H H' : Hp}
theorem Tape.out {T : List Addr} (W : Tape t c cs H) (h : Out T H H') (ht : t ∉ T) (hc : c ∉ T) : Tape t c cs H' := by
  obtain ⟨kvs, e, q⟩ := W.dc
  exact ⟨⟨kvs, h t _ ht e, q⟩, h c _ hc W.ls, W.nn⟩
theorem Live.take (L : Live t c cs S H) {kvs : List (Key × V)} (h : TapeK c cs kvs) : Live t c cs S (upd H t (.dK kvs)) := ⟨L.tape.new h, L.al.upd, L.tS, L.cS⟩
theorem Live.new (L : Live t c cs S H) {p : Addr} {o : HO} (h : H p = none) : Live t c cs S (upd H p o) := ⟨L.tape.out (T := []) (.upd_new h) List.not_mem_nil List.not_mem_nil, L.al.upd, L.tS, L.cS⟩
theorem Live.nt (L : Live t c cs S H) {f : Addr} {xs : List V} (h : H f = some (.lst xs)) : f ≠ t := by
  obtain ⟨kvs, e, _⟩ := L.tape.dc
  exact ne_of h e (by intro z; cases z)
theorem Live.list (L : Live t c cs S H) {f : Addr} {xs ys : List V} (h : H f = some (.lst xs)) (hf : f ∈ S) : Live t c cs S (upd H f (.lst ys)) :=
  ⟨L.tape.out (T := [f]) (.upd_in (List.mem_singleton.mpr rfl)) (fun q => L.nt h (List.mem_singleton.mp q).symm) (fun q => L.cS (by rw [List.mem_singleton.mp q]; exact hf)), L.al.upd, L.tS, L.cS⟩
theorem Live.open_ (L : Live t c cs S H) {f : Addr} {o : HO} (h : H f = none) : Live t c cs (f :: S) (upd H f o) :=
  ⟨(L.new h).tape, (L.new h).al.cons upd_same, List.mem_cons_of_mem _ L.tS, fun q => (List.mem_cons.mp q).elim (ne_of_none L.tape.ls h) L.cS⟩
theorem Live.less (L : Live t c cs S H) {S' : List Addr} (h : ∀ b ∈ S', b ∈ S) (ht : t ∈ S') : Live t c cs S' H := ⟨L.tape, fun b hb => L.al b (h b hb), ht, fun q => L.cS (h c q)⟩
theorem Live.free (L : Live t c cs S H) {p : Addr} (h : H p = none) : p ∉ S := L.al.new h
theorem out_take {kvs : List (Key × V)} : Out [t] H (upd H t (.dK kvs)) := .upd_in (List.mem_singleton.mpr rfl)
end
/-- a list that grows -/
structure OpenL (K : PySem.W.Frag) (S : List Addr) (H : Hp) (f : Addr) (ds : List PyData) : Prop where
  at_ : ∃ xs, H f = some (.lst xs) ∧ DsS K S H xs ds
  mem : f ∈ S
section
variable {K : PySem.W.Frag} {t c : Addr} {cs : List Int} {S : List Addr} {H H' : Hp} {f : Addr} {ds : List PyData}
theorem OpenL.out {T : List Addr} (O : OpenL K S H f ds) (h : Out T H H') (sub : ∀ b ∈ T, b ∈ S) (hf : f ∉ T) : OpenL K S H' f ds := by
  obtain ⟨xs, e, a⟩ := O.at_
  exact ⟨⟨xs, h f _ hf e, dsS_out (h.mono sub) a⟩, O.mem⟩
theorem OpenL.nt (O : OpenL K S H f ds) (L : Live t c cs S H) : f ≠ t := by
  obtain ⟨xs, e, _⟩ := O.at_
  exact L.nt e
theorem OpenL.take (O : OpenL K S H f ds) (L : Live t c cs S H) (h : Out [t] H H') : OpenL K S H' f ds :=
  O.out h (fun b hb => by rw [List.mem_singleton.mp hb]; exact L.tS) fun q => O.nt L (List.mem_singleton.mp q)
theorem OpenL.new (O : OpenL K S H f ds) {p : Addr} {o : HO} (h : H p = none) : OpenL K S (upd H p o) f ds := O.out (T := []) (.upd_new h) (fun b q => absurd q List.not_mem_nil) List.not_mem_nil
theorem OpenL.ne {p : Addr} (O : OpenL K S H f ds) (h : H p = none) : f ≠ p := by
  obtain ⟨xs, e, _⟩ := O.at_
  exact ne_of_none e h
/-- another one opened behind it -/
theorem OpenL.more (O : OpenL K S H f ds) {g : Addr} {o : HO} (h : H g = none) : OpenL K (g :: S) (upd H g o) f ds := by
  obtain ⟨xs, e, a⟩ := O.at_
  exact ⟨⟨xs, by rw [upd_ne (ne_of_none e h)]; exact e, dpAll_mono (wo_open h) _ _ a⟩, List.mem_cons_of_mem _ O.mem⟩
theorem OpenL.less {S' : List Addr} (O : OpenL K S H f ds) (sub : ∀ b ∈ S', b ∈ S) (hf : f ∈ S') : OpenL K S' H f ds := by
  obtain ⟨xs, e, a⟩ := O.at_
  exact ⟨⟨xs, e, dpAll_mono (wo_anti sub) _ _ a⟩, hf⟩
theorem OpenL.start {f : Addr} (h : H f = none) : OpenL K (f :: S) (upd H f (.lst [])) f [] := ⟨⟨[], upd_same, .nil⟩, List.mem_cons_self ..⟩
theorem OpenL.snoc (O : OpenL K S H f ds) {v : V} {d : PyData} (a : DpS K S H v d) {xs : List V} (h : H f = some (.lst xs)) : OpenL K S (upd H f (.lst (xs ++ [v]))) f (ds ++ [d]) := by
  obtain ⟨xs', e, b⟩ := O.at_
  rw [h] at e
  cases e
  exact ⟨⟨_, upd_same, dpAll_snoc (dsS_out (.upd_in O.mem) b) (dpS_out (.upd_in O.mem) a)⟩, O.mem⟩
/-- the other ones when one has grown -/
theorem OpenL.other (O : OpenL K S H f ds) {g : Addr} {o : HO} (hg : g ∈ S) (n : f ≠ g) : OpenL K S (upd H g o) f ds :=
  O.out (T := [g]) (.upd_in (List.mem_singleton.mpr rfl)) (fun b hb => by rw [List.mem_singleton.mp hb]; exact hg) fun q => n (List.mem_singleton.mp q)
theorem OpenL.len (O : OpenL K S H f ds) {xs : List V} (h : H f = some (.lst xs)) : xs.length = ds.length := by
  obtain ⟨xs', e, b⟩ := O.at_
  rw [h] at e
  cases e
  exact dpAll_len b
theorem seq_out {T : List Addr} {a : Addr} {xs : List V} (h : H a = some (.lst xs)) (o : Out T H H') (ha : a ∉ T) : H' a = some (.lst xs) := o a _ ha h
end
/-- a new tuple of data, handed out -/
theorem fin_tup {K : PySem.W.Frag} {t c : Addr} {cs : List Int} {S : List Addr} {H H1 : Hp} {p : Addr} {xs : List V} {ds : List PyData} (L : Live t c cs S H1) (o : Out [t] H H1) (np : H1 p = none) (a : DsS K S H1 xs ds) :
    Live t c cs S (upd H1 p (.tup xs)) ∧ Out [t] H (upd H1 p (.tup xs)) ∧ DpS K S (upd H1 p (.tup xs)) (.ref p) (.tuple ds) :=
  ⟨L.new np, o.trans (.upd_new np), dpS_tup (L.free np) upd_same (dsS_out (.upd_new np) a)⟩
/-! ### drawing with open lists: F the lists that grow (the newest first), R lists that are read -/
structure Bg (K : PySem.W.Frag) (t c : Addr) (cs : List Int) (H : Hp) (S : List Addr) (F : List (Addr × List PyData)) (R : List (Addr × List V)) (H' : Hp) : Prop where
  live : Live t c cs (F.map (·.1) ++ S) H'
  out : Out [t] H H'
  op : ∀ p ∈ F, OpenL K (F.map (·.1) ++ S) H' p.1 p.2 ∧ H p.1 = none
  ro : ∀ p ∈ R, H' p.1 = some (.lst p.2) ∧ p.1 ∉ F.map (·.1) ++ S
  nd : (F.map (·.1)).Nodup
  al0 : Alive S H
section
variable {K : PySem.W.Frag} {t c : Addr} {cs : List Int} {H H' : Hp} {S : List Addr} {F : List (Addr × List PyData)} {R : List (Addr × List V)}
theorem Out.fresh {T : List Addr} {p : Addr} {o : HO} (h : Out T H H') (hp : H p = none) : Out T H (upd H' p o) := fun b u n e => by
  rw [upd_ne (ne_of_none e hp)]
  exact h b u n e
theorem Bg.start (L : Live t c cs S H) : Bg K t c cs H S [] [] H := ⟨L, .refl, fun _ h => absurd h List.not_mem_nil, fun _ h => absurd h List.not_mem_nil, List.nodup_nil, L.al⟩
theorem Bg.call (B : Bg K t c cs H S F R H') {H2 : Hp} (L : Live t c cs (F.map (·.1) ++ S) H2) (o : Out [t] H' H2) : Bg K t c cs H S F R H2 :=
  ⟨L, B.out.trans o, fun p hp => ⟨(B.op p hp).1.take B.live o, (B.op p hp).2⟩, fun p hp => ⟨o _ _ (fun q => (B.ro p hp).2 (by rw [List.mem_singleton.mp q]; exact B.live.tS)) (B.ro p hp).1, (B.ro p hp).2⟩, B.nd, B.al0⟩
theorem Bg.take (B : Bg K t c cs H S F R H') {kvs : List (Key × V)} (h : TapeK c cs kvs) : Bg K t c cs H S F R (upd H' t (.dK kvs)) := B.call (B.live.take h) out_take
theorem Bg.new (B : Bg K t c cs H S F R H') {p : Addr} {o : HO} (h : H' p = none) : Bg K t c cs H S F R (upd H' p o) := B.call (B.live.new h) (.upd_new h)
theorem Bg.free0 (B : Bg K t c cs H S F R H') {p : Addr} (h : H' p = none) : H p = none := B.out.free (fun q => by
  obtain ⟨kvs, e, _⟩ := B.live.tape.dc
  rw [List.mem_singleton.mp q, e] at h
  cases h) h
theorem Bg.read (B : Bg K t c cs H S F R H') {p : Addr} {xs : List V} (h : H' p = none) : Bg K t c cs H S F ((p, xs) :: R) (upd H' p (.lst xs)) := by
  have B2 := B.new (o := .lst xs) h
  refine ⟨B2.live, B2.out, B2.op, fun q hq => ?_, B2.nd, B.al0⟩
  rcases List.mem_cons.mp hq with rfl | hq
  · exact ⟨upd_same, B.live.free h⟩
  · exact B2.ro q hq
theorem Bg.drop (B : Bg K t c cs H S F R H') {R' : List (Addr × List V)} (h : ∀ p ∈ R', p ∈ R) : Bg K t c cs H S F R' H' := ⟨B.live, B.out, B.op, fun p hp => B.ro p (h p hp), B.nd, B.al0⟩
theorem Bg.open_ (B : Bg K t c cs H S F R H') {p : Addr} (h : H' p = none) : Bg K t c cs H S ((p, []) :: F) R (upd H' p (.lst [])) := by
  have hF : p ∉ F.map (·.1) := fun q => B.live.free h (List.mem_append_left _ q)
  refine ⟨B.live.open_ h, B.out.fresh (B.free0 h), fun q hq => ?_, fun q hq => ?_, List.nodup_cons.mpr ⟨hF, B.nd⟩, B.al0⟩
  · rcases List.mem_cons.mp hq with rfl | hq
    · exact ⟨OpenL.start h, B.free0 h⟩
    · exact ⟨(B.op q hq).1.more h, (B.op q hq).2⟩
  · have e := (B.ro q hq).1
    refine ⟨by rw [upd_ne (ne_of_none e h)]; exact e, fun z => ?_⟩
    rcases List.mem_cons.mp z with z | z
    · exact ne_of_none e h z
    · exact (B.ro q hq).2 z
theorem Bg.head {f : Addr} {ds : List PyData} (B : Bg K t c cs H S ((f, ds) :: F) R H') : ∃ xs, H' f = some (.lst xs) ∧ DsS K (f :: (F.map (·.1) ++ S)) H' xs ds := (B.op _ (List.mem_cons_self ..)).1.at_
theorem Bg.snoc {f : Addr} {ds : List PyData} (B : Bg K t c cs H S ((f, ds) :: F) R H') {xs : List V} {v : V} {d : PyData} (h : H' f = some (.lst xs)) (a : DpS K (f :: (F.map (·.1) ++ S)) H' v d) : Bg K t c cs H S ((f, ds ++ [d]) :: F) R (upd H' f (.lst (xs ++ [v]))) := by
  have O := (B.op _ (List.mem_cons_self ..)).1
  have fS : f ∈ ((f, ds) :: F).map (·.1) ++ S := List.mem_cons_self ..
  have nF : f ∉ F.map (·.1) := (List.nodup_cons.mp B.nd).1
  refine ⟨B.live.list h fS, B.out.fresh (B.op _ (List.mem_cons_self ..)).2, fun q hq => ?_, fun q hq => ?_, B.nd, B.al0⟩
  · rcases List.mem_cons.mp hq with rfl | hq
    · exact ⟨O.snoc a h, (B.op _ (List.mem_cons_self ..)).2⟩
    · have hq2 := B.op q (List.mem_cons_of_mem _ hq)
      exact ⟨hq2.1.other fS (fun z => nF (by rw [← z]; exact List.mem_map_of_mem hq)), hq2.2⟩
  · have e := B.ro q hq
    exact ⟨by rw [upd_ne (fun z => e.2 (by rw [z]; exact fS))]; exact e.1, e.2⟩
theorem Bg.close {f : Addr} {ds : List PyData} (B : Bg K t c cs H S ((f, ds) :: F) R H') : Bg K t c cs H S F R H' :=
  ⟨B.live.less (fun b hb => List.mem_cons_of_mem _ hb) (by
    rcases List.mem_cons.mp B.live.tS with h | h
    · obtain ⟨xs, e, _⟩ := B.head
      obtain ⟨kvs, e2, _⟩ := B.live.tape.dc
      rw [h] at e2
      rw [e] at e2
      cases e2
    · exact h), B.out, fun p hp => by
      have hp2 := B.op p (List.mem_cons_of_mem _ hp)
      exact ⟨hp2.1.less (fun b hb => List.mem_cons_of_mem _ hb) (List.mem_append_left _ (List.mem_map_of_mem hp)), hp2.2⟩,
    fun p hp => ⟨(B.ro p hp).1, fun q => (B.ro p hp).2 (List.mem_cons_of_mem _ q)⟩, (List.nodup_cons.mp B.nd).2, B.al0⟩
/-- a list that grows no more, to be read -/
theorem Bg.freeze {f : Addr} {ds : List PyData} (B : Bg K t c cs H S ((f, ds) :: F) R H') {xs : List V} (h : H' f = some (.lst xs)) : Bg K t c cs H S F ((f, xs) :: R) H' := by
  have B2 := B.close
  refine ⟨B2.live, B2.out, B2.op, fun q hq => ?_, B2.nd, B.al0⟩
  rcases List.mem_cons.mp hq with rfl | hq
  · refine ⟨h, fun z => ?_⟩
    rcases List.mem_append.mp z with z | z
    · exact (List.nodup_cons.mp B.nd).1 z
    · exact B.al0 _ z (B.op _ (List.mem_cons_self ..)).2
  · exact B2.ro q hq
/-- data are data still when a list is closed -/
theorem dp_close {f : Addr} {S' : List Addr} {v : V} {d : PyData} (a : DpS K (f :: S') H' v d) : DpS K S' H' v d := dp_mono (wo_anti fun _ hb => List.mem_cons_of_mem _ hb) _ _ a
theorem ds_close {f : Addr} {S' : List Addr} {vs : List V} {ds : List PyData} (a : DsS K (f :: S') H' vs ds) : DsS K S' H' vs ds := dpAll_mono (wo_anti fun _ hb => List.mem_cons_of_mem _ hb) _ _ a
/-- a new tuple -/
theorem Bg.tup (B : Bg K t c cs H S F R H') {p : Addr} {xs : List V} {ds : List PyData} (h : H' p = none) (a : DsS K (F.map (·.1) ++ S) H' xs ds) : Bg K t c cs H S F R (upd H' p (.tup xs)) ∧ DpS K (F.map (·.1) ++ S) (upd H' p (.tup xs)) (.ref p) (.tuple ds) :=
  ⟨B.new h, dpS_tup (B.live.free h) upd_same (dsS_out (.upd_new h) a)⟩
theorem Bg.dp_new (B : Bg K t c cs H S F R H') {p : Addr} {o : HO} (h : H' p = none) {v : V} {d : PyData} (a : DpS K (F.map (·.1) ++ S) H' v d) : DpS K (F.map (·.1) ++ S) (upd H' p o) v d := dpS_out (.upd_new h) a
theorem Bg.dp_take (B : Bg K t c cs H S F R H') {kvs : List (Key × V)} {v : V} {d : PyData} (a : DpS K (F.map (·.1) ++ S) H' v d) : DpS K (F.map (·.1) ++ S) (upd H' t (.dK kvs)) v d := dpS_out (.upd_in B.live.tS) a
end
/-! ### trees -/
inductive Vl where
  | number (n : Int) | none | index (n : Int) | name (s : Str) | told (s : Str) (n : Int)
def Vl.d : Vl → PyData
  | .number n => .tuple [.str "number", .int n]
  | .none => .tuple [.str "none"]
  | .index n => .tuple [.str "index", .int n]
  | .name s => .tuple [.str "name", .str s]
  | .told s n => .tuple [.str "told", .str s, .int n]
def strD (l : List Str) : List PyData := l.map .str
theorem strD_ds {K : PySem.W.Frag} {H : Hp} : ∀ ms : List Str, DpAll K H (ms.map V.str) (strD ms)
  | [] => .nil
  | m :: r => .cons (.str m) (strD_ds r)
structure Fd where
  name : Str
  target : Str
  marks : List Str
def Fd.d (f : Fd) : PyData := .tuple [.str f.name, .str f.target, .tuple (strD f.marks)]
structure Kd where
  name : Str
  fields : List Fd
def Kd.d (k : Kd) : PyData := .tuple [.str k.name, .tuple (k.fields.map Fd.d)]
def valD (p : Str × Vl) : PyData := .tuple [.str p.1, p.2.d]
def cntD : Option Int → PyData
  | none => .none
  | some n => .int n
inductive Im where
  | thing (name : Str) (count : Option Int) (kind : Str) (vals : List (Str × Vl))
  | keep (name : Str) | most (n : Int) | adopt (n : Int) (name : Str) | move (old new : Str)
def Im.d : Im → PyData
  | .thing n c k vs => .tuple [.str "thing", .str n, cntD c, .str k, .tuple (vs.map valD)]
  | .keep n => .tuple [.str "keep", .str n]
  | .most n => .tuple [.str "most", .int n]
  | .adopt n x => .tuple [.str "adopt", .int n, .str x]
  | .move a b => .tuple [.str "move", .str a, .str b]
structure Tree where
  kinds : List Kd
  items : List Im
def Tree.d (T : Tree) : PyData := .tuple [.tuple (T.kinds.map Kd.d), .tuple (T.items.map Im.d)]
/-! ### what is drawn -/
def namesL : List Str := ["a", "b", "c.1", "d_#", "e"]
def fieldL : List Str := ["p", "q", "r"]
def markL : List Str := ["empty", "fixed", "single"]
def kindL : List Str := ["k0", "k1", "k2"]
def targetL : List Str := ["", "", "k0", "k1"]
def numL : List Int := [0, 1, 7, 4294967295]
def cntL : List (Option Int) := [none, none, some 0, some 1, some 3]
def Vl.ok (nm : List Str) : Vl → Prop
  | .number n => n ∈ numL
  | .none => True
  | .index n => 0 ≤ n ∧ n < 3
  | .name s => s ∈ nm
  | .told s n => s ∈ nm ∧ 0 ≤ n ∧ n < 3
def marksOk (m : List Str) : Prop := m.Sublist markL
structure Fd.ok (f : Fd) : Prop where
  name : f.name ∈ fieldL
  target : f.target ∈ targetL
  marks : marksOk f.marks
structure Kd.ok (k : Kd) : Prop where
  name : k.name ∈ kindL
  fields : ∀ f ∈ k.fields, f.ok
  few : k.fields.length ≤ 3
def Im.ok : Im → Prop
  | .thing n c k vs => n ∈ namesL ∧ c ∈ cntL ∧ k ∈ kindL ∧ (∀ p ∈ vs, p.1 ∈ fieldL ∧ p.2.ok namesL) ∧ vs.length ≤ 3
  | .keep n => n ∈ namesL
  | .most n => 0 ≤ n ∧ n < 9
  | .adopt n x => 0 ≤ n ∧ n < 4 ∧ x ∈ namesL
  | .move a b => a ∈ namesL ∧ b ∈ namesL
structure Tree.ok (T : Tree) : Prop where
  kinds : ∀ k ∈ T.kinds, k.ok
  items : ∀ i ∈ T.items, i.ok
  fewK : T.kinds.length ≤ 3
  fewI : T.items.length ≤ 5
/-- a drawn place of a list -/
theorem drawn {α : Type} {l : List α} {r : Int} (h0 : 0 ≤ r) (h1 : r < l.length) : ∃ x, l[r.toNat]? = some x ∧ x ∈ l ∧ r = (r.toNat : Int) := by
  have h : r.toNat < l.length := by omega
  exact ⟨l[r.toNat], List.getElem?_eq_getElem h, List.getElem_mem h, by omega⟩
theorem drawn_at {xs : List V} {r : Int} {v : V} (e : r = (r.toNat : Int)) (h : xs[r.toNat]? = some v) : atI xs r = some v := at_of e h
def spValueOf (K : PySem.W.Frag) : Sp := fun vs H Q _ => ∃ (t c a : Addr) (cs : List Int) (x : V) (nm : List Str) (S : List Addr), vs = [.ref t, x, .ref a] ∧ Live t c cs S H ∧ H a = some (.lst (nm.map V.str)) ∧ a ∉ S ∧ 0 < nm.length ∧ nm.length ≤ 1000 ∧
  ∀ (v : V) (x : Vl) (H' : Hp), x.ok nm → Live t c cs S H' → Out [t] H H' → DpS K S H' v x.d → Q v H'
def spAnyTree (K : PySem.W.Frag) : Sp := fun vs H Q _ => ∃ (t c : Addr) (cs : List Int) (S : List Addr), vs = [.ref t] ∧ Live t c cs S H ∧
  ∀ (v : V) (T : Tree) (H' : Hp), T.ok → Live t c cs S H' → Out [t] H H' → DpS K S H' v T.d → Q v H'
def cntV : Option Int → V
  | none => .non
  | some n => .int n
theorem cnt_dp {K : PySem.W.Frag} {H : Hp} (c : Option Int) : Dp K H (cntV c) (cntD c) := by
  cases c with
  | none => exact .non
  | some n => exact .int n
theorem kname {k : Int} (h0 : 0 ≤ k) (h1 : k < 3) : (Str.ofString "k" ++ Str.ofString (toString k)) ∈ kindL := by
  have : k = 0 ∨ k = 1 ∨ k = 2 := by omega
  rcases this with rfl | rfl | rfl <;> decide +kernel
theorem kname_len {k : Int} (h0 : 0 ≤ k) (h1 : k < 3) : (Str.ofString "k").length + (Str.ofString (toString k)).length ≤ sizeLine := by
  have : k = 0 ∨ k = 1 ∨ k = 2 := by omega
  rcases this with rfl | rfl | rfl <;> decide +kernel
theorem small_log {k : Int} (h0 : 0 ≤ k) (h1 : k < 1000000) : k.natAbs.log2 < 1920 := by
  have h : k.natAbs < 2 ^ 20 := by
    have : (2 : Nat) ^ 20 = 1048576 := by decide
    omega
  by_cases hz : k.natAbs = 0
  · rw [hz]; decide
  · exact Nat.lt_trans ((Nat.log2_lt hz).mpr h) (by decide)
end LB
/-! e.replace('#', str(k)), the new text made on the spot; a tuple that begins with a written text -/
namespace LB
open PySem PySem.Spec PyProof.Rows L2
def tReplI (to : TE) (ta : TA) (y : Str) : TE := fun σ H Q => to σ H fun v H1 => ∃ x, v = .str x ∧ ta σ H1 fun vs H2 => ∃ i : Int, vs = [.int i] ∧ i.natAbs.log2 < 1920 ∧ (y == Str.ofString (toString i)) = false ∧
  x.length + (x.length + 1) * (Str.ofString (toString i)).length ≤ 16777216 ∧ Q (.str (Txt.replace x y (Str.ofString (toString i)))) H2
section
variable {X : Cx} {o e : Expr} {te : TE} {to : TE} {y : Str} {j : Nat} {c0 apos pos p cp : Pos} {es : List Expr} {ta : TA}
theorem pet_replI (ho : PE X o to) (ha : PA X [e] ta) (hg : Gl X "str") (hm : X.mg "str" = none)
    (hst : starEach [.Constant (.str y) j c0, .Call (.Name "str" p) [e] [] cp] X.env = [(false, eval (.Constant (.str y) j c0) X.env), (false, eval (.Call (.Name "str" p) [e] [] cp) X.env)] := by rfl)
    (hbase : attributeBase o "replace" X.env (eval o X.env) = eval o X.env := by rfl) (hline : (apos.endLine == pos.line) = true := by rfl)
    (he : starEach [e] X.env = (false, eval e X.env) :: starEach [] X.env := by rfl) (hpl : (backTo cp (starEach [] X.env)).any (·.1) = false := by rfl) :
    PET X (.Call (.Attribute o "replace" apos) [.Constant (.str y) j c0, .Call (.Name "str" p) [e] [] cp] [] pos) (tReplI to ta y) := by
  intro pins s σ H Q h0 I h
  refine PySem.Call_method2 hbase hst hline (wpAny_mono (PySem.wpAny_toks (ho.run pins s σ H _ I h)) (fun v s1 q => ?_) fun _ _ z => z.2)
  obtain ⟨hk1, v', H1, I1, r1, x, e1, q⟩ := q
  subst e1
  obtain ⟨tx, e2⟩ := r1
  subst e2
  refine ⟨"str", _, PySem.F.plainAttrs_str, PySem.F.slot_str_replace, PySem.F.type_str_replace, typeIs_str _ _ _, (fun _ e => nomatch e), Calls.callWith_builtin rfl (Calls.evalArgs_plain (Calls.spliced_cons ?_))⟩
  refine Calls.Constant_str (Calls.spliced_cons ?_)
  refine wpAny_Call_Name_kw (ld_blt (I1.tok _) hg hm (by decide +kernel : bootBuiltins "str" = some (.type "str")) ?_)
  refine PyProof.Rows.callWith_type1 (wpAny_mono (PySem.wpAny_toks (ha.run cp pins _ σ H1 _ (I1.tok _) q)) (fun us s2 q2 => ?_) fun _ _ z => z.2) he hpl
  obtain ⟨hk2, vs, H2, I2, r2, i, rfl, hz, hyz, hl, q3⟩ := q2
  obtain ⟨uu, rfl, t2, rfl⟩ := vals1 r2
  refine PySem.P.str_of_int hz (Calls.spliced_nil ?_)
  have hk2 : s1.toks + 1 ≤ s2.toks := hk2
  exact PySem.SC.replace (by show s1.toks ≠ 0; omega) (by show s2.toks ≠ 0; omega) (by show s1.toks ≠ s2.toks; omega) hyz hl fun t' k => ⟨.str _, H2, I2.tok k, ⟨t', rfl⟩, q3⟩
/-- the arguments behind a written text -/
theorem pa_strT {x : Str} (hr : PAT X es ta) (hs : starEach (.Constant (.str x) j c0 :: es) X.env = (false, eval (.Constant (.str x) j c0) X.env) :: starEach es X.env := by rfl) : PA X (.Constant (.str x) j c0 :: es) (tCons (tC (.str x)) ta) := by
  refine ⟨fun pos pins s σ H Q I h => ?_⟩
  rw [hs]
  show wpAny _ _ (spliced ((false, eval (.Constant (.str x) j c0) X.env) :: backTo pos (starEach es X.env))) _ _ s
  refine Calls.spliced_cons (Calls.Constant_str ?_)
  exact thn (hr pos pins _ σ H _ (by show 1 ≤ s.toks + 1; omega) (I.tok _) h) fun us s2 ⟨xs, H2, I2, r2, q2⟩ => ⟨.str x :: xs, H2, I2, .cons ⟨_, rfl⟩ r2, q2⟩
theorem pat_of (h : PA X es ta) : PAT X es ta := fun pos pins s σ H Q _ I q => h.run pos pins s σ H Q I q
end
end LB
/-! Things written out: the mathematics, the promises. -/
namespace LB
open PySem PySem.Spec PyProof.Rows L2
abbrev numS (k : Int) : Str := Str.ofString (toString k)
/-- each # is k -/
def hashS (k : Int) (s : Str) : Str := Txt.replace s "#" (numS k)
def copyV (k : Int) : Vl → Vl
  | .index n => .number ((n + k) % 4294967296)
  | .name s => .name (hashS k s)
  | .told s n => .told (hashS k s) n
  | x => x
def outs : Im → List (Str × Str × List (Str × Vl))
  | .thing n none kd vs => [(n, kd, vs)]
  | .thing n (some m) kd vs => (List.range m.toNat).map fun k : Nat => (n ++ Str.ofString "." ++ numS (k : Int), kd, vs.map fun p => (p.1, copyV (k : Int) p.2))
  | _ => []
def outD (x : Str × Str × List (Str × Vl)) : PyData := .tuple [.str x.1, .str x.2.1, .tuple (x.2.2.map valD)]
def written (T : Tree) : List (Str × Str × List (Str × Vl)) := T.items.flatMap outs
theorem hash_eq : Str.ofString "#" = ⟨#[35]⟩ := by decide +kernel
open PySem.StrLaws in
theorem repl_one (c : Nat) (d : List Nat) : ∀ l : List Nat, replL [c] d l = l.flatMap fun x => if x = c then d else [x]
  | [] => replL_nil
  | x :: r => by
    rw [List.flatMap_cons]
    by_cases h : x = c
    · rw [replL_hit (by simp) (by simp [h]), if_pos h]
      rw [show ([c] : List Nat).length = 1 from rfl, List.drop_succ_cons, List.drop_zero, repl_one c d r]
    · rw [replL_miss (by simp [h]), if_neg h, repl_one c d r]
      rfl
theorem hashS_cps (k : Int) (s : Str) : (hashS k s).cps.toList = s.cps.toList.flatMap fun x => if x = 35 then (numS k).cps.toList else [x] := by
  unfold hashS
  rw [PySem.StrLaws.replace_list (by rw [hash_eq]; decide), hash_eq]
  exact repl_one 35 _ _
theorem tl_of (x : Str) : TL.tl x = x.cps.toList := rfl
theorem joinL_nil : ∀ ps : List (List Nat), TL.joinL [] ps = ps.flatMap id
  | [] => rfl
  | [p] => by simp [TL.joinL]
  | p :: q :: r => by
    show p ++ ([] ++ TL.joinL [] (q :: r)) = _
    rw [List.nil_append, joinL_nil (q :: r)]
    rfl
theorem empty_eq : Str.ofString "" = ⟨#[]⟩ := by decide +kernel
theorem join_cps (ys : List Str) : (Txt.join (Str.ofString "") ys).cps.toList = ys.flatMap fun y => y.cps.toList := by
  rw [← tl_of, TL.join_eq, TL.tl_join, empty_eq]
  have : TL.tl (⟨#[]⟩ : Str) = [] := rfl
  rw [this, joinL_nil, List.flatMap_map]
  rfl
theorem str_ext {a b : Str} (h : a.cps.toList = b.cps.toList) : a = b := TL.ext_tl h
theorem str_append_cps (a b : Str) : (a ++ b).cps.toList = a.cps.toList ++ b.cps.toList := TL.tl_append a b
theorem empty_append (a : Str) : Str.empty ++ a = a := str_ext (by rw [str_append_cps]; rfl)
/-- a text's signs, each its own text, # replaced: joined again -/
theorem join_hash (k : Int) (s : Str) : Txt.join (Str.ofString "") (s.cps.toList.map fun c => if c = 35 then numS k else ⟨#[c]⟩) = hashS k s := by
  refine str_ext ?_
  rw [join_cps, hashS_cps, List.flatMap_map]
  congr 1
  funext c
  by_cases h : c = 35
  · rw [if_pos h, if_pos h]
  · rw [if_neg h, if_neg h]
theorem num_len {k : Int} (h0 : 0 ≤ k) (h1 : k < 100) : (numS k).length ≤ 4 := by
  obtain ⟨n, rfl⟩ : ∃ n : Nat, k = (n : Int) := ⟨k.toNat, by omega⟩
  have hn : n < 100 := by omega
  have : ∀ m : Fin 100, (numS ((m.1 : Nat) : Int)).length ≤ 4 := by decide +kernel
  exact this ⟨n, hn⟩
theorem num_not_hash {k : Int} (h0 : 0 ≤ k) (h1 : k < 100) : (Str.ofString "#" == numS k) = false := by
  obtain ⟨n, rfl⟩ : ∃ n : Nat, k = (n : Int) := ⟨k.toNat, by omega⟩
  have hn : n < 100 := by omega
  have : ∀ m : Fin 100, (Str.ofString "#" == numS ((m.1 : Nat) : Int)) = false := by decide +kernel
  exact this ⟨n, hn⟩
theorem Live.same {t c : Addr} {cs : List Int} {S : List Addr} {H H' : Hp} (L : Live t c cs S H) (h : Same H H') : Live t c cs S H' :=
  ⟨L.tape.out (T := []) (.of_same h) List.not_mem_nil List.not_mem_nil, L.al.out (T := []) (.of_same h) (fun _ q => absurd q List.not_mem_nil), L.tS, L.cS⟩
theorem Alive.same {S : List Addr} {H H' : Hp} (a : Alive S H) (h : Same H H') : Alive S H' := a.out (T := []) (.of_same h) (fun _ q => absurd q List.not_mem_nil)
theorem dpS_same {K : PySem.W.Frag} {S : List Addr} {H H' : Hp} {v : V} {d : PyData} (h : Same H H') (a : DpS K S H v d) : DpS K S H' v d := dpS_out (.of_same h) a
theorem Bg.same {K : PySem.W.Frag} {t c : Addr} {cs : List Int} {H H' H2 : Hp} {S : List Addr} {F : List (Addr × List PyData)} {R : List (Addr × List V)} (B : Bg K t c cs H S F R H') (h : Same H' H2) : Bg K t c cs H S F R H2 := B.call (B.live.same h) (.of_same h)
/-- several at once -/
theorem dsS_app {K : PySem.W.Frag} {H : Hp} : ∀ {vs ws : List V} {ds es : List PyData}, DpAll K H vs ds → DpAll K H ws es → DpAll K H (vs ++ ws) (ds ++ es)
  | _, _, _, _, .nil, h => h
  | _, _, _, _, .cons a b, h => .cons a (dsS_app b h)
theorem OpenL.snocs {K : PySem.W.Frag} {S : List Addr} {H : Hp} {f : Addr} {ds : List PyData} (O : OpenL K S H f ds) {ws : List V} {es : List PyData} (a : DsS K S H ws es) {xs : List V} (h : H f = some (.lst xs)) : OpenL K S (upd H f (.lst (xs ++ ws))) f (ds ++ es) := by
  obtain ⟨xs', e, b⟩ := O.at_
  rw [h] at e
  cases e
  exact ⟨⟨_, upd_same, dsS_app (dsS_out (.upd_in O.mem) b) (dsS_out (.upd_in O.mem) a)⟩, O.mem⟩
theorem Bg.snocs {K : PySem.W.Frag} {t c : Addr} {cs : List Int} {H H' : Hp} {S : List Addr} {F : List (Addr × List PyData)} {R : List (Addr × List V)} {f : Addr} {ds : List PyData} (B : Bg K t c cs H S ((f, ds) :: F) R H') {xs ws : List V} {es : List PyData} (h : H' f = some (.lst xs)) (a : DsS K (f :: (F.map (·.1) ++ S)) H' ws es) : Bg K t c cs H S ((f, ds ++ es) :: F) R (upd H' f (.lst (xs ++ ws))) := by
  have O := (B.op _ (List.mem_cons_self ..)).1
  have fS : f ∈ ((f, ds) :: F).map (·.1) ++ S := List.mem_cons_self ..
  have nF : f ∉ F.map (·.1) := (List.nodup_cons.mp B.nd).1
  refine ⟨B.live.list h fS, B.out.fresh (B.op _ (List.mem_cons_self ..)).2, fun q hq => ?_, fun q hq => ?_, B.nd, B.al0⟩
  · rcases List.mem_cons.mp hq with rfl | hq
    · exact ⟨O.snocs a h, (B.op _ (List.mem_cons_self ..)).2⟩
    · have hq2 := B.op q (List.mem_cons_of_mem _ hq)
      exact ⟨hq2.1.other fS (fun z => nF (by rw [← z]; exact List.mem_map_of_mem hq)), hq2.2⟩
  · have e := B.ro q hq
    exact ⟨by rw [upd_ne (fun z => e.2 (by rw [z]; exact fS))]; exact e.1, e.2⟩
theorem sum_le {ys : List Str} {k : Nat} (h : ∀ y ∈ ys, y.length ≤ k) : (ys.map (·.length)).sum ≤ k * ys.length := by
  induction ys with
  | nil => simp
  | cons y r ih =>
    have h1 := h y (List.mem_cons_self ..)
    have h2 := ih fun z hz => h z (List.mem_cons_of_mem _ hz)
    simp only [List.map_cons, List.sum_cons, List.length_cons]
    rw [Nat.mul_add, Nat.mul_one]
    omega
theorem dec_strE (a b : Str) : decide (V.str a = V.str b) = decide (a = b) := decide_eq_decide.mpr ⟨fun e => V.str.inj e, fun e => by rw [e]⟩
theorem Bg.see {K : PySem.W.Frag} {t c : Addr} {cs : List Int} {H H' : Hp} {S : List Addr} {F : List (Addr × List PyData)} {R : List (Addr × List V)} (B : Bg K t c cs H S F R H') {p : Addr} {xs : List V} (h : H' p = some (.lst xs)) (n : p ∉ F.map (·.1) ++ S) : Bg K t c cs H S F ((p, xs) :: R) H' :=
  ⟨B.live, B.out, B.op, fun q hq => by
    rcases List.mem_cons.mp hq with rfl | hq
    · exact ⟨h, n⟩
    · exact B.ro q hq, B.nd, B.al0⟩
/-! ### promises -/
def Vl.short : Vl → Prop
  | .name s => s.length ≤ 1000
  | .told s _ => s.length ≤ 1000
  | _ => True
def spName : Sp := fun vs H Q _ => ∃ (s : Str) (k : Int), vs = [.str s, .int k] ∧ s.length ≤ 1000 ∧ 0 ≤ k ∧ k < 100 ∧ ∀ H', Same H H' → Q (.str (hashS k s)) H'
def spCopy (K : PySem.W.Frag) : Sp := fun vs H Q _ => ∃ (v : V) (k : Int) (x : Vl) (S : List Addr), vs = [v, .int k] ∧ Alive S H ∧ DpS K S H v x.d ∧ x.short ∧ 0 ≤ k ∧ k < 100 ∧ ∀ v' H', Same H H' → DpS K S H' v' (copyV k x).d → Q v' H'
def Im.tag : Im → Str
  | .thing .. => "thing" | .keep _ => "keep" | .most _ => "most" | .adopt .. => "adopt" | .move .. => "move"
theorem Im.head (i : Im) : ∃ r, i.d = .tuple (.str i.tag :: r) := by
  cases i <;> exact ⟨_, rfl⟩
def spItemsOf (K : PySem.W.Frag) : Sp := fun vs H Q _ => ∃ (v : V) (word : Str) (is : List Im) (S : List Addr), vs = [v, .str word] ∧ Alive S H ∧ DpS K S H v (.tuple (is.map Im.d)) ∧ is.length ≤ 1000 ∧
  ∀ D H' ys, Same H H' → H D = none → H' D = some (.lst ys) → DsS K S H' ys ((is.filter fun i => i.tag = word).map Im.d) → Q (.ref D) H'
def spValuesCopy (K : PySem.W.Frag) : Sp := fun vs H Q _ => ∃ (v : V) (k : Int) (xs : List (Str × Vl)) (S : List Addr), vs = [v, .int k] ∧ Alive S H ∧ DpS K S H v (.tuple (xs.map valD)) ∧ xs.length ≤ 1000 ∧ (∀ p ∈ xs, p.2.short) ∧ 0 ≤ k ∧ k < 100 ∧
  ∀ v' H', Same H H' → DpS K S H' v' (.tuple ((xs.map fun p => (p.1, copyV k p.2)).map valD)) → Q v' H'
def spWritten (K : PySem.W.Frag) : Sp := fun vs H Q _ => ∃ (t c : Addr) (cs : List Int) (S : List Addr) (v : V) (T : Tree), vs = [v] ∧ Live t c cs S H ∧ DpS K S H v T.d ∧ T.ok ∧
  ∀ v' H', Live t c cs S H' → Out [t] H H' → DpS K S H' v' (.tuple ((written T).map outD)) → Q v' H'
theorem thing_tag : ∀ i : Im, i.tag = "thing" → ∃ n c k vs, i = .thing n c k vs := by
  intro i h
  cases i with
  | thing n c k vs => exact ⟨n, c, k, vs, rfl⟩
  | keep n => exact absurd h (by show ¬ (Str.ofString "keep" = Str.ofString "thing"); decide +kernel)
  | most n => exact absurd h (by show ¬ (Str.ofString "most" = Str.ofString "thing"); decide +kernel)
  | adopt n x => exact absurd h (by show ¬ (Str.ofString "adopt" = Str.ofString "thing"); decide +kernel)
  | move a b => exact absurd h (by show ¬ (Str.ofString "move" = Str.ofString "thing"); decide +kernel)
theorem outs_else {i : Im} (h : ¬ i.tag = "thing") : outs i = [] := by
  cases i with
  | thing n c k vs => exact absurd rfl h
  | _ => rfl
theorem written_filter : ∀ is : List Im, (is.filter fun i => decide (i.tag = Str.ofString "thing")).flatMap outs = is.flatMap outs
  | [] => rfl
  | i :: r => by
    rw [List.filter_cons, List.flatMap_cons]
    by_cases h : i.tag = "thing"
    · rw [if_pos (decide_eq_true h), List.flatMap_cons, written_filter r]
    · rw [if_neg (by simp [h]), written_filter r, outs_else h]
      rfl
theorem cnt_small {m : Int} (h : some m ∈ cntL) : 0 ≤ m ∧ m ≤ 3 := by
  unfold cntL at h
  simp at h
  omega
theorem outs_len {i : Im} (h : i.ok) : (outs i).length ≤ 3 := by
  cases i with
  | thing n c k vs =>
    cases c with
    | none => exact Nat.le_succ_of_le (Nat.le_succ _)
    | some m =>
      have := cnt_small h.2.1
      show ((List.range m.toNat).map _).length ≤ 3
      rw [List.length_map, List.length_range]
      omega
  | _ => exact Nat.zero_le _
theorem flat_len : ∀ {is : List Im}, (∀ i ∈ is, i.ok) → (is.flatMap outs).length ≤ 3 * is.length
  | [], _ => Nat.le_refl _
  | i :: r, h => by
    have h1 := outs_len (h i (List.mem_cons_self ..))
    have h2 := flat_len fun z hz => h z (List.mem_cons_of_mem _ hz)
    rw [List.flatMap_cons, List.length_append, List.length_cons]
    omega
theorem names_short : ∀ s ∈ namesL, s.length ≤ 1000 := by
  have h : (namesL.all fun y => decide (y.length ≤ 1000)) = true := by decide +kernel
  exact fun y hy => of_decide_eq_true (List.all_eq_true.mp h y hy)
theorem Vl.ok.short {x : Vl} (h : x.ok namesL) : x.short := by
  cases x with
  | name s => exact names_short s h
  | told s n => exact names_short s h.1
  | _ => exact True.intro
end LB
/-! Law k04: the defs that all laws share. -/
namespace K04
open PySem PySem.Spec PyProof.Rows L2 LB
def top (i : Nat) : Stmt := PySem.Challenge.pw_settledland_k04_things_written_out.main.body.getD i (.Pass ⟨0, 0, 0, 0⟩)
abbrev s_written_out : Stmt := top 2
abbrev N_written_out : List Str := ["tree", "_", "items", "things", "name", "count", "kind", "values", "k"]
theorem sc_written_out : FnScope N_written_out ["tree"] (defScope s_written_out) := ⟨rfl, rfl, rfl, by decide +kernel, rfl, by decide +kernel, by decide +kernel⟩

abbrev s_items_of : Stmt := top 3
abbrev N_items_of : List Str := ["items", "word", "item"]
theorem sc_items_of : FnScope N_items_of ["items", "word"] (defScope s_items_of) := ⟨rfl, rfl, rfl, by decide +kernel, rfl, by decide +kernel, by decide +kernel⟩

abbrev s__values_of_copy : Stmt := top 4
abbrev N__values_of_copy : List Str := ["values", "k", "field", "value"]
theorem sc__values_of_copy : FnScope N__values_of_copy ["values", "k"] (defScope s__values_of_copy) := ⟨rfl, rfl, rfl, by decide +kernel, rfl, by decide +kernel, by decide +kernel⟩

abbrev s__value_of_copy : Stmt := top 5
abbrev N__value_of_copy : List Str := ["value", "k"]
theorem sc__value_of_copy : FnScope N__value_of_copy ["value", "k"] (defScope s__value_of_copy) := ⟨rfl, rfl, rfl, by decide +kernel, rfl, by decide +kernel, by decide +kernel⟩

abbrev s__law_tape : Stmt := top 7
abbrev N__law_tape : List Str := ["script", "cells", "seed", "cell"]
theorem sc__law_tape : FnScope N__law_tape ["script"] (defScope s__law_tape) := ⟨rfl, rfl, rfl, by decide +kernel, rfl, by decide +kernel, by decide +kernel⟩

abbrev s__law_take : Stmt := top 8
abbrev N__law_take : List Str := ["tape", "many", "drawn", "mixed"]
theorem sc__law_take : FnScope N__law_take ["tape", "many"] (defScope s__law_take) := ⟨rfl, rfl, rfl, by decide +kernel, rfl, by decide +kernel, by decide +kernel⟩

abbrev s__law_is_integer : Stmt := top 9
abbrev N__law_is_integer : List Str := ["actual"]
theorem sc__law_is_integer : FnScope N__law_is_integer ["actual"] (defScope s__law_is_integer) := ⟨rfl, rfl, rfl, by decide +kernel, rfl, by decide +kernel, by decide +kernel⟩

abbrev s__law_same_items : Stmt := top 10
abbrev N__law_same_items : List Str := ["actual", "expected", "k"]
theorem sc__law_same_items : FnScope N__law_same_items ["actual", "expected"] (defScope s__law_same_items) := ⟨rfl, rfl, rfl, by decide +kernel, rfl, by decide +kernel, by decide +kernel⟩

abbrev s__law_same : Stmt := top 11
abbrev N__law_same : List Str := ["actual", "expected", "key"]
theorem sc__law_same : FnScope N__law_same ["actual", "expected"] (defScope s__law_same) := ⟨rfl, rfl, rfl, by decide +kernel, rfl, by decide +kernel, by decide +kernel⟩

abbrev s__law_letter : Stmt := top 12
abbrev N__law_letter : List Str := ["char"]
theorem sc__law_letter : FnScope N__law_letter ["char"] (defScope s__law_letter) := ⟨rfl, rfl, rfl, by decide +kernel, rfl, by decide +kernel, by decide +kernel⟩

abbrev s__law_digit : Stmt := top 13
abbrev N__law_digit : List Str := ["char"]
theorem sc__law_digit : FnScope N__law_digit ["char"] (defScope s__law_digit) := ⟨rfl, rfl, rfl, by decide +kernel, rfl, by decide +kernel, by decide +kernel⟩

abbrev s__law_stretch : Stmt := top 14
abbrev N__law_stretch : List Str := ["text", "at", "number", "end", "char", "inside"]
theorem sc__law_stretch : FnScope N__law_stretch ["text", "at"] (defScope s__law_stretch) := ⟨rfl, rfl, rfl, by decide +kernel, rfl, by decide +kernel, by decide +kernel⟩

abbrev s__law_tokens : Stmt := top 15
abbrev N__law_tokens : List Str := ["text", "words", "found", "behind", "comment", "at", "char"]
theorem sc__law_tokens : FnScope N__law_tokens ["text"] (defScope s__law_tokens) := ⟨rfl, rfl, rfl, by decide +kernel, rfl, by decide +kernel, by decide +kernel⟩

abbrev s__law_scraps : Stmt := top 16
abbrev N__law_scraps : List Str := ["tape", "most", "words", "k"]
theorem sc__law_scraps : FnScope N__law_scraps ["tape", "most"] (defScope s__law_scraps) := ⟨rfl, rfl, rfl, by decide +kernel, rfl, by decide +kernel, by decide +kernel⟩

abbrev s__law_value_of : Stmt := top 17
abbrev N__law_value_of : List Str := ["tape", "field", "names", "choice"]
theorem sc__law_value_of : FnScope N__law_value_of ["tape", "field", "names"] (defScope s__law_value_of) := ⟨rfl, rfl, rfl, by decide +kernel, rfl, by decide +kernel, by decide +kernel⟩

abbrev s__law_any_tree : Stmt := top 18
abbrev N__law_any_tree : List Str := ["tape", "names", "kinds", "k", "fields", "j", "marks", "target", "items", "name", "choice", "values", "field", "count", "word"]
theorem sc__law_any_tree : FnScope N__law_any_tree ["tape"] (defScope s__law_any_tree) := ⟨rfl, rfl, rfl, by decide +kernel, rfl, by decide +kernel, by decide +kernel⟩

abbrev s__law_put : Stmt := top 19
abbrev N__law_put : List Str := ["tape", "out", "string", "last", "gap"]
theorem sc__law_put : FnScope N__law_put ["tape", "out", "string"] (defScope s__law_put) := ⟨rfl, rfl, rfl, by decide +kernel, rfl, by decide +kernel, by decide +kernel⟩

abbrev s__law_put_all : Stmt := top 20
abbrev N__law_put_all : List Str := ["tape", "out", "strings", "string"]
theorem sc__law_put_all : FnScope N__law_put_all ["tape", "out", "strings"] (defScope s__law_put_all) := ⟨rfl, rfl, rfl, by decide +kernel, rfl, by decide +kernel, by decide +kernel⟩

abbrev s__law_words : Stmt := top 21
abbrev N__law_words : List Str := ["value", "words"]
theorem sc__law_words : FnScope N__law_words ["value"] (defScope s__law_words) := ⟨rfl, rfl, rfl, by decide +kernel, rfl, by decide +kernel, by decide +kernel⟩

abbrev s__law_put_tree : Stmt := top 22
abbrev N__law_put_tree : List Str := ["tape", "out", "tree", "name", "fields", "field", "target", "marks", "item", "times", "value"]
theorem sc__law_put_tree : FnScope N__law_put_tree ["tape", "out", "tree"] (defScope s__law_put_tree) := ⟨rfl, rfl, rfl, by decide +kernel, rfl, by decide +kernel, by decide +kernel⟩

abbrev s__law_name : Stmt := top 23
abbrev N__law_name : List Str := ["name", "number", "char"]
theorem sc__law_name : FnScope N__law_name ["name", "number"] (defScope s__law_name) := ⟨rfl, rfl, rfl, by decide +kernel, rfl, by decide +kernel, by decide +kernel⟩

abbrev s__law_copy_of : Stmt := top 24
abbrev N__law_copy_of : List Str := ["value", "number"]
theorem sc__law_copy_of : FnScope N__law_copy_of ["value", "number"] (defScope s__law_copy_of) := ⟨rfl, rfl, rfl, by decide +kernel, rfl, by decide +kernel, by decide +kernel⟩

abbrev s_law : Stmt := top 25
abbrev N_law : List Str := ["script", "tape", "tree", "expected", "item", "k", "values", "field", "value"]
theorem sc_law : FnScope N_law ["script"] (defScope s_law) := ⟨rfl, rfl, rfl, by decide +kernel, rfl, by decide +kernel, by decide +kernel⟩

section
variable {P : Program} {w : World} {K : PySem.W.Frag} {mg : Str → Option Value} {base : Heap}
theorem ok__law_tape {f : Addr} {fd : FuncData} (F : Fun K "_law_tape" "_law_tape" s__law_tape f fd) (T : Blt mg) : FnOk P w K mg base CX0 1 f fd ["script"] (spTape K) := by
  refine F.ok sc__law_tape (fun vs H Q E h => ?_) (fun cdv A outer s H vs Q E hr h => ?_)
  · obtain ⟨a, ns, rfl, _⟩ := h
    rfl
  · obtain ⟨a, ns, rfl, hS, hlen, k⟩ := h
    refine ⟨_, (pss_cons (ps_setLc (i := 1) rfl sc__law_tape.nd rfl rfl (sw_true rfl rfl rfl (by decide +kernel)) (own := [("cell", 3)]) (pi_list (pv 0)) (blkOk_by (own := [("cell", 3)]) (N := N__law_tape) (sc := defScope s__law_tape) (by decide +kernel)) (fun _ _ _ _ _ => (pg_name (i := 3) sc__law_tape.nd rfl (Or.inl rfl))) (fun _ _ _ _ _ => pts_nil) (fun _ _ _ _ _ => (pe_callB call_abs (by rfl) T.b_abs (by decide +kernel) (pa_cons (pe_callTy call_int1 (by rfl) T.b_int (by decide +kernel) (pa_cons (pv 3) pa_nil)) pa_nil))))
    (pss_cons (ps_set (i := 2) sc__law_tape.nd rfl (Or.inl rfl) pe_int)
    (pss_cons (ps_for PassesOwn.never rfl (pi_list (pv 1)) (pg_name (i := 3) sc__law_tape.nd rfl (Or.inl rfl))
      (pss_one (ps_set (i := 2) sc__law_tape.nd rfl (Or.inl rfl) (pe_op op_mod (pe_callTy call_int1 (by rfl) T.b_int (by decide +kernel) (pa_cons (pe_op op_add (pe_op op_mul (pv 2) pe_int) (pv 3)) pa_nil)) pe_int))))
    (pss_one (ps_ret (pe_disp (pps_cons pe_str (pv 1) (pps_cons pe_str pe_int (pps_cons pe_str pe_int (pps_cons pe_str (pv 2) (pps_cons pe_str pe_int pps_nil))))) (by rfl) (by rfl) (fun z => by cases z) (by decide))))))), ?_⟩
    refine ⟨_, rfl, a, rfl, ⟨_, hS⟩, fun D hD => lc_list (K := K) (a := a) (xs := ns.map V.int) (fun i H' => Same H H' ∧ H' D = some (.lst ((ns.take i).map fun n => V.int (absI n)))) ⟨same_upd hD, by rw [upd_same]; rfl⟩ (fun i H' _ h => h.1.seq hS) ?_ ?_⟩
    · rintro i x H1 hx ⟨s1, hd⟩
      obtain ⟨n, hn, rfl⟩ : ∃ n, ns[i]? = some n ∧ V.int n = x := by
        rw [List.getElem?_map] at hx
        cases e : ns[i]? with
        | none => rw [e] at hx; cases hx
        | some n => rw [e] at hx; exact ⟨n, rfl, Option.some.inj hx⟩
      have hi := (List.getElem?_eq_some_iff.mp hn).1
      refine ⟨rfl, _, rfl, .inl ⟨_, rfl, _, rfl, _, hd, ?_, ?_, ?_⟩⟩
      · rw [List.length_map, List.length_take]
        exact Nat.lt_of_le_of_lt (show min i ns.length ≤ 100 by omega) (by decide)
      · exact fun b o e => by
          rw [upd_ne (ne_of_none e hD)]
          exact s1 b o e
      · rw [upd_same, List.take_add_one, hn, List.map_append]
        rfl
    · rintro H1 ⟨s1, hd⟩
      rw [List.length_map, List.take_length] at hd
      have hd' : H1 D = some (.lst ((ns.map absI).map V.int)) := by rw [hd, List.map_map]; rfl
      -- seed
      refine ⟨_, rfl, D, rfl, ⟨_, SqL.of hd'⟩, for_list (K := K) (a := D) (xs := (ns.map absI).map V.int) (fun i σ H' => H' = H1 ∧ ∃ (s : Int) (e3 : Option V), σ = [some (.ref a), some (.ref D), some (.int s), e3] ∧ 0 ≤ s ∧ s < 2147483647)
        ⟨rfl, 7, none, rfl, by decide, by decide⟩ (fun i σ H' _ h => by rw [h.1]; exact SqL.of hd') ?_ ?_⟩
      · rintro i x σ H2 hx ⟨rfl, s, e3, rfl, h0, h1⟩
        obtain ⟨n, hn, rfl⟩ : ∃ n, (ns.map absI)[i]? = some n ∧ V.int n = x := by
          rw [List.getElem?_map] at hx
          cases e : (ns.map absI)[i]? with
          | none => rw [e] at hx; cases hx
          | some n => rw [e] at hx; exact ⟨n, rfl, Option.some.inj hx⟩
        refine ⟨_, rfl, _, _, rfl, rfl, .inl ⟨by omega, by omega⟩, _, rfl, _, _, rfl, rfl, .inl ⟨_, rfl, _, _, rfl, rfl, (by show (0 : Int) < 2147483647; decide), ?_⟩⟩
        exact ⟨rfl, _, _, rfl, Int.emod_nonneg _ (by decide), Int.emod_lt_of_pos _ (by decide)⟩
      · rintro σ H2 ⟨rfl, s, e3, rfl, h0, h1⟩
        refine fun t nt => ⟨_, rfl, _, rfl, upd_same, tapeK D 0 0 s 0, rfl, by show 5 ≤ 15; decide, ?_⟩
        rw [p_new, upd_upd]
        have nD : D ≠ t := ne_of_none hd' nt
        refine k t D (ns.map absI) _ (s1.trans (same_upd nt)) (s1.free nt) hD ⟨⟨_, upd_same, 0, 0, s, 0, rfl, by decide, by omega, by decide, h0, h1⟩, by rw [upd_ne nD]; exact hd', fun x hx => ?_⟩
        obtain ⟨y, _, rfl⟩ := List.mem_map.mp hx
        unfold absI
        split <;> omega
theorem ok__law_take {f : Addr} {fd : FuncData} (F : Fun K "_law_take" "_law_take" s__law_take f fd) (T : Blt mg) : FnOk P w K mg base CX0 1 f fd ["tape", "many"] spTake := by
  refine F.ok sc__law_take (fun vs H Q E h => ?_) (fun cdv A outer s H vs Q E hr h => ?_)
  · obtain ⟨t, c, cs, many, rfl, _⟩ := h
    rfl
  · obtain ⟨t, c, cs, many, rfl, W, hm0, hm1, k⟩ := h
    have hu := hu_of hr
    refine ⟨_, (C8.pss_cut (ps_if (PW.pt (pw_and (pt_cmpR op_eq (pe_dget hu (pv 0) pe_str (fun _ _ => rfl)) pe_int (nomark _)) (pw_and1 (pt_cmpR op_lt (pe_dget hu (pv 0) pe_str (fun _ _ => rfl)) (pe_callB call_len_seq (by rfl) T.b_len (by decide +kernel) (pa_cons (pe_dget hu (pv 0) pe_str (fun _ _ => rfl)) pa_nil)) (nomark _)))))
      (pss_cons (ps_dput hu (pv 0) pe_str (pe_ix ix_list (pe_dget hu (pv 0) pe_str (fun _ _ => rfl)) (pe_dget hu (pv 0) pe_str (fun _ _ => rfl)) (fun _ _ => rfl)) rfl)
      (pss_one (ps_dput hu (pv 0) pe_str (pe_op op_add (pe_dget hu (pv 0) pe_str (fun _ _ => rfl)) pe_int) rfl)))
      pss_nil)
    (pss_cons (ps_if (pt_cmpR op_gt (pe_dget hu (pv 0) pe_str (fun _ _ => rfl)) pe_int (nomark _))
      (pss_cons (ps_set (i := 2) sc__law_take.nd rfl (Or.inl rfl) (pe_op op_modN (pe_callTy call_int1 (by rfl) T.b_int (by decide +kernel) (pa_cons (pe_dget hu (pv 0) pe_str (fun _ _ => rfl)) pa_nil)) (pv 1)))
      (pss_cons (ps_dput hu (pv 0) pe_str (pe_op op_fdivN (pe_dget hu (pv 0) pe_str (fun _ _ => rfl)) (pv 1)) rfl)
      (pss_one (ps_ret (pv 2)))))
      pss_nil)
    (pss_cons (ps_dput hu (pv 0) pe_str (pe_op op_add (pe_dget hu (pv 0) pe_str (fun _ _ => rfl)) pe_int) rfl)
    (pss_cons (ps_set (i := 3) sc__law_take.nd rfl (Or.inl rfl) (pe_op op_mod (pe_callTy call_int1 (by rfl) T.b_int (by decide +kernel) (pa_cons (pe_op op_add (pe_op op_mul (pe_dget hu (pv 0) pe_str (fun _ _ => rfl)) pe_int) (pe_op op_mul (pe_dget hu (pv 0) pe_str (fun _ _ => rfl)) pe_int)) pa_nil)) pe_int))
    (pss_cons (ps_set (i := 3) sc__law_take.nd rfl (Or.inl rfl) (pe_op op_mod (pe_callTy call_int1 (by rfl) T.b_int (by decide +kernel) (pa_cons (pe_op op_add (pe_op op_add (pe_op op_mul (pv 3) (pv 3)) (pe_op op_mul (pe_dget hu (pv 0) pe_str (fun _ _ => rfl)) pe_int)) pe_int) pa_nil)) pe_int))
    (pss_one (ps_ret (pe_op op_modN (pe_callTy call_int1 (by rfl) T.b_int (by decide +kernel) (pa_cons (pv 3) pa_nil)) (pv 1))))))))), ?_⟩
    obtain ⟨kvs, ht, a, l, s, z, rfl, ha0, ha1, hl0, hs0, hs1⟩ := W.dc
    refine ⟨fun σ' H' => σ' = [some (.ref t), some (.int many), none, none] ∧ ∃ (a l s z : Int), H' = upd H t (.dK (tapeK c a l s z)) ∧ 0 ≤ a ∧ a ≤ cs.length ∧ 0 ≤ l ∧ 0 ≤ s ∧ s < 2147483647, ?_, ?_⟩
    · have stay : ∃ (a' l' s' z' : Int), H = upd H t (.dK (tapeK c a' l' s' z')) ∧ 0 ≤ a' ∧ a' ≤ cs.length ∧ 0 ≤ l' ∧ 0 ≤ s' ∧ s' < 2147483647 := ⟨a, l, s, z, (upd_id ht).symm, ha0, ha1, hl0, hs0, hs1⟩
      refine ⟨_, rfl, t, _, rfl, dg_left ht, rfl, _, rfl, ite2 (fun h1 => ?_) (fun h1 => iteF ⟨rfl, stay⟩)⟩
      refine ⟨_, rfl, t, _, rfl, dg_at ht, _, rfl, t, _, rfl, dg_cells ht, c, _, rfl, .inl (SqL.of W.ls), _, _, rfl, rfl, _, rfl, ite2 (fun h2 => ?_) (fun h2 => ⟨rfl, stay⟩)⟩
      have h2 : a < (cs.length : Int) := by
        rw [List.length_map] at h2
        simpa using h2
      obtain ⟨x, hx⟩ : ∃ x, cs[a.toNat]? = some x := ⟨_, List.getElem?_eq_getElem (by omega)⟩
      have hx2 : (cs.map V.int)[a.toNat]? = some (.int x) := by rw [List.getElem?_map, hx]; rfl
      have hxn : 0 ≤ x := W.nn x (List.mem_of_getElem? hx)
      refine ⟨_, rfl, t, _, rfl, dg_cells ht, _, rfl, t, _, rfl, dg_at ht, c, _, _, _, rfl, rfl, SqL.of W.ls, at_of (by omega : a = (a.toNat : Int)) hx2, _, rfl, t, _, rfl, dp_left ht, ?_⟩
      refine ⟨_, rfl, t, _, rfl, dg_at upd_same, _, _, rfl, rfl, _, rfl, t, _, rfl, dp_at upd_same, rfl, a + 1, x, s, z, upd_upd, by omega, by omega, hxn, hs0, hs1⟩
    · rintro σ' H' ⟨rfl, a, l, s, z, rfl, ha0, ha1, hl0, hs0, hs1⟩
      refine ⟨_, rfl, t, _, rfl, dg_left upd_same, _, _, rfl, rfl, _, rfl, ite2 (fun h1 => ?_) (fun h1 => ?_)⟩
      · have h1 : 0 < l := by simpa using h1
        refine ⟨_, rfl, t, _, rfl, dg_left upd_same, .inl ⟨_, rfl, _, rfl, _, _, rfl, rfl, by omega, ?_⟩⟩
        refine ⟨_, rfl, t, _, rfl, dg_left upd_same, _, rfl, _, _, rfl, rfl, ⟨by omega, by omega⟩, _, rfl, t, _, rfl, dp_left upd_same, _, rfl, ?_⟩
        rw [upd_upd]
        show Q (V.int (Int.fmod l many)) (upd H t (.dK (tapeK c a (Int.fdiv l many) s z)))
        rw [Int.fmod_eq_emod_of_nonneg _ (by omega), Int.fdiv_eq_ediv_of_nonneg _ (by omega)]
        exact k _ _ (Int.emod_nonneg _ (by omega)) (Int.emod_lt_of_pos _ hm0) ⟨a, l / many, s, z, rfl, ha0, ha1, Int.ediv_nonneg hl0 (by omega), hs0, hs1⟩
      · refine ⟨_, rfl, t, _, rfl, dg_salt upd_same, _, _, rfl, rfl, _, rfl, t, _, rfl, dp_salt upd_same, ?_⟩
        refine ⟨_, rfl, t, _, rfl, dg_seed upd_same, _, _, rfl, rfl, .inl ⟨by omega, by omega⟩, _, rfl, t, _, rfl, dg_salt upd_same, _, _, rfl, rfl, .inr ⟨by decide, by decide⟩, _, _, rfl, rfl, .inl ⟨_, rfl, _, _, rfl, rfl, (by show (0 : Int) < 2147483647; decide), ?_⟩⟩
        have b1 := Int.emod_nonneg (s * 48271 + (z + 1) * 69621) (show (2147483647 : Int) ≠ 0 by decide)
        have b2 := Int.emod_lt_of_pos (s * 48271 + (z + 1) * 69621) (show (0 : Int) < 2147483647 by decide)
        refine ⟨_, rfl, _, rfl, _, _, rfl, rfl, .inl ⟨by omega, by omega⟩, _, rfl, t, _, rfl, dg_salt upd_same, _, _, rfl, rfl, .inr ⟨by decide, by decide⟩, _, _, rfl, rfl, _, _, rfl, rfl, .inl ⟨_, rfl, _, _, rfl, rfl, (by show (0 : Int) < 2147483399; decide), ?_⟩⟩
        refine ⟨_, rfl, .inl ⟨_, rfl, _, rfl, _, _, rfl, rfl, by omega, ?_⟩⟩
        rw [upd_upd]
        show Q (V.int (Int.fmod _ many)) _
        rw [Int.fmod_eq_emod_of_nonneg _ (by omega)]
        exact k _ _ (Int.emod_nonneg _ (by omega)) (Int.emod_lt_of_pos _ hm0) ⟨a, l, s, z + 1, rfl, ha0, ha1, hl0, hs0, hs1⟩
theorem ok__law_is_integer {f : Addr} {fd : FuncData} (F : Fun K "_law_is_integer" "_law_is_integer" s__law_is_integer f fd) (T : Blt mg) : FnOk P w K mg base CX0 1 f fd ["actual"] (spIsInt K) := by
  refine F.ok sc__law_is_integer (fun vs H Q E h => ?_) (fun cdv A outer s H vs Q E hr h => ?_)
  · obtain ⟨i, rfl, _⟩ := h
    rfl
  · obtain ⟨i, rfl, k⟩ := h
    refine ⟨_, (pss_one (ps_ret (pe_and (pe_callB call_isi (by rfl) T.b_isinstance (by decide +kernel) (pa_cons (pv 0) (pa_cons (pe_bltn (v := .ty "int") (by rfl) T.b_int (by decide +kernel) rfl) pa_nil))) (pe_one (pe_not (pe_callB call_isi (by rfl) T.b_isinstance (by decide +kernel) (pa_cons (pv 0) (pa_cons (pe_bltn (v := .ty "bool") (by rfl) T.b_bool (by decide +kernel) rfl) pa_nil)))))))), ?_⟩
    refine isi_val rfl (.base (.int i)) (b := true) (by decide +kernel) ⟨_, rfl, iteT ?_⟩
    exact isi_val rfl (.base (.int i)) (b := false) (by decide +kernel) ⟨_, rfl, k⟩
theorem ok__law_same_items {n : Nat} {f : Addr} {fd : FuncData} (F : Fun K "_law_same_items" "_law_same_items" s__law_same_items f fd) (T : Blt mg) {k0 : Nat} (c__law_same : C8.Cal P w K mg base k0 "_law_same" (spSame K n) []) :
    FnOk P w K mg base CX0 (k0 + 1) f fd ["actual", "expected"] (spItems K (n + 1)) := by
  refine F.ok sc__law_same_items (fun vs H Q E h => ?_) (fun cdv A outer s H vs Q E hr h => ?_)
  · obtain ⟨a, b, xs, ys, ds, rfl, _⟩ := h
    rfl
  · obtain ⟨a, b, xs, ys, ds, rfl, ha, hb, hx, hy, _, hlen, hds, k⟩ := h
    have lx : xs.length = ds.length := dpAll_len hx
    have ly : ys.length = ds.length := dpAll_len hy
    refine ⟨_, (pss_cons (ps_if (pt_cmpR op_ne (pe_callB call_len_seq (by rfl) T.b_len (by decide +kernel) (pa_cons (pv 0) pa_nil)) (pe_callB call_len_seq (by rfl) T.b_len (by decide +kernel) (pa_cons (pv 1) pa_nil)) (nomark _))
      (pss_one (ps_ret pe_bl))
      pss_nil)
    (pss_cons (ps_for PassesOwn.never rfl (pi_range1 (by rfl) T.b_range (pa_cons (pe_callB call_len_seq (by rfl) T.b_len (by decide +kernel) (pa_cons (pv 1) pa_nil)) pa_nil)) (pg_name (i := 2) sc__law_same_items.nd rfl (Or.inl rfl))
      (pss_one (ps_if (pt_not (pt_val (C8.pe_c c__law_same hr (by first | decide | omega) rfl (pa_cons (pe_ix ix_seq (pv 0) (pv 2) (fun _ _ => rfl)) (pa_cons (pe_ix ix_seq (pv 1) (pv 2) (fun _ _ => rfl)) pa_nil)))))
        (pss_one (ps_ret pe_bl))
        pss_nil)))
    (pss_one (ps_ret pe_bl)))), ?_⟩
    refine ⟨_, rfl, _, _, rfl, ha, _, rfl, _, _, rfl, hb, rfl, _, rfl, ?_⟩
    rw [lx, ly, dec_self]
    refine iteF ?_
    refine ⟨_, rfl, _, _, rfl, hb, _, rfl, by omega, by omega, ?_⟩
    rw [ly]
    refine for_range (n := ds.length) (fun i σ H' => H' = H ∧ ∃ e2, σ = [some (.ref a), some (.ref b), e2]) ⟨rfl, none, rfl⟩ ?_ ?_
    · rintro i σ H1 hi ⟨rfl, e2, rfl⟩
      rw [Int.zero_add]
      obtain ⟨x, d, hxi, hdi, hxd⟩ := dpAll_get hx (by omega : i < xs.length)
      obtain ⟨y, d', hyi, hdi', hyd⟩ := dpAll_get hy (by omega : i < ys.length)
      have ed : d = d' := Option.some.inj (hdi.symm.trans hdi')
      subst ed
      refine ⟨_, rfl, _, rfl, ix_x ha hxi ⟨_, rfl, _, rfl, ix_x hb hyi ?_⟩⟩
      exact ⟨x, y, d, rfl, hxd, hyd, hds d (List.mem_of_getElem? hdi), _, rfl, iteF ⟨rfl, _, rfl⟩⟩
    · rintro σ H1 ⟨rfl, e2, rfl⟩
      exact k
theorem ok__law_same {n : Nat} {f : Addr} {fd : FuncData} (F : Fun K "_law_same" "_law_same" s__law_same f fd) (T : Blt mg) {k0 : Nat} (hk : 1 ≤ k0) (c__law_same_items : C8.Cal P w K mg base k0 "_law_same_items" (spItems K n) []) (c__law_is_integer : C8.Cal P w K mg base 1 "_law_is_integer" (spIsInt K) []) :
    FnOk P w K mg base CX0 (k0 + 1) f fd ["actual", "expected"] (spSame K n) := by
  refine F.ok sc__law_same (fun vs H Q E h => ?_) (fun cdv A outer s H vs Q E hr h => ?_)
  · obtain ⟨x, y, d, rfl, _⟩ := h
    rfl
  · obtain ⟨x, y, d, rfl, hx, hy, hd, k⟩ := h
    have tx := ty_d hx
    have ty := ty_d hy
    refine ⟨_, (pss_cons (ps_if (pt_cmpR op_isN (pv 1) pe_non (nomark _))
      (pss_one (ps_ret (pe_cmpR op_isN (pv 0) pe_non (nomark _))))
      pss_nil)
    (pss_cons (ps_if (pt_val (pe_callB call_isi (by rfl) T.b_isinstance (by decide +kernel) (pa_cons (pv 1) (pa_cons (pe_bltn (v := .ty "bool") (by rfl) T.b_bool (by decide +kernel) rfl) pa_nil))))
      (pss_one (ps_ret (pe_and (pe_callB call_isi (by rfl) T.b_isinstance (by decide +kernel) (pa_cons (pv 0) (pa_cons (pe_bltn (v := .ty "bool") (by rfl) T.b_bool (by decide +kernel) rfl) pa_nil))) (pe_one (pe_cmpR op_eq (pv 0) (pv 1) (nomark _))))))
      pss_nil)
    (pss_cons (ps_if (pt_val (pe_callB call_isi (by rfl) T.b_isinstance (by decide +kernel) (pa_cons (pv 1) (pa_cons (pe_bltn (v := .ty "int") (by rfl) T.b_int (by decide +kernel) rfl) pa_nil))))
      (pss_one (ps_ret (pe_and (C8.pe_c c__law_is_integer hr (by first | decide | omega) rfl (pa_cons (pv 0) pa_nil)) (pe_one (pe_cmpR op_eq (pv 0) (pv 1) (nomark _))))))
      pss_nil)
    (pss_cons (ps_if (pt_val (pe_callB call_isi (by rfl) T.b_isinstance (by decide +kernel) (pa_cons (pv 1) (pa_cons (pe_bltn (v := .ty "str") (by rfl) T.b_str (by decide +kernel) rfl) pa_nil))))
      (pss_one (ps_ret (pe_and (pe_callB call_isi (by rfl) T.b_isinstance (by decide +kernel) (pa_cons (pv 0) (pa_cons (pe_bltn (v := .ty "str") (by rfl) T.b_str (by decide +kernel) rfl) pa_nil))) (pe_one (pe_cmpR op_eq (pv 0) (pv 1) (nomark _))))))
      pss_nil)
    (pss_cons (ps_if (pt_val (pe_callB call_isi (by rfl) T.b_isinstance (by decide +kernel) (pa_cons (pv 1) (pa_cons (pe_bltn (v := .ty "tuple") (by rfl) T.b_tuple (by decide +kernel) rfl) pa_nil))))
      (pss_one (ps_ret (pe_and (pe_callB call_isi (by rfl) T.b_isinstance (by decide +kernel) (pa_cons (pv 0) (pa_cons (pe_bltn (v := .ty "tuple") (by rfl) T.b_tuple (by decide +kernel) rfl) pa_nil))) (pe_one (C8.pe_c c__law_same_items hr (by first | decide | omega) rfl (pa_cons (pv 0) (pa_cons (pv 1) pa_nil)))))))
      pss_nil)
    (pss_cons (ps_if (pt_val (pe_callB call_isi (by rfl) T.b_isinstance (by decide +kernel) (pa_cons (pv 1) (pa_cons (pe_bltn (v := .ty "list") (by rfl) T.b_list (by decide +kernel) rfl) pa_nil))))
      (pss_one (ps_ret (pe_and (pe_callB call_isi (by rfl) T.b_isinstance (by decide +kernel) (pa_cons (pv 0) (pa_cons (pe_bltn (v := .ty "list") (by rfl) T.b_list (by decide +kernel) rfl) pa_nil))) (pe_one (C8.pe_c c__law_same_items hr (by first | decide | omega) rfl (pa_cons (pv 0) (pa_cons (pv 1) pa_nil)))))))
      pss_nil)
    pss_never)))))), ?_⟩
    refine ⟨_, rfl, rfl, _, rfl, ?_⟩
    cases d with
    | none =>
      cases hx
      cases hy
      exact iteT ⟨_, rfl, rfl, k⟩
    | bool b =>
      have tx : TyX K H x (.type "bool") := tx
      have ty : TyX K H y (.type "bool") := ty
      cases hx
      cases hy
      refine iteF (isi_test rfl ty (b := true) (by decide +kernel) (iteT (isi_val rfl tx (b := true) (by decide +kernel) ⟨_, rfl, iteT ⟨_, rfl, _, rfl, rfl, ?_⟩⟩)))
      rw [dec_self]
      exact k
    | int i =>
      have tx : TyX K H x (.type "int") := tx
      have ty : TyX K H y (.type "int") := ty
      cases hx
      cases hy
      refine iteF (isi_test rfl ty (b := false) (by decide +kernel) (iteF (isi_test rfl ty (b := true) (by decide +kernel) (iteT ⟨_, rfl, i, rfl, _, rfl, iteT ⟨_, rfl, _, rfl, rfl, ?_⟩⟩))))
      rw [dec_self]
      exact k
    | str z =>
      have tx : TyX K H x (.type "str") := tx
      have ty : TyX K H y (.type "str") := ty
      cases hx
      cases hy
      refine iteF (isi_test rfl ty (b := false) (by decide +kernel) (iteF (isi_test rfl ty (b := false) (by decide +kernel) (iteF (isi_test rfl ty (b := true) (by decide +kernel) (iteT (isi_val rfl tx (b := true) (by decide +kernel) ⟨_, rfl, iteT ⟨_, rfl, _, rfl, rfl, ?_⟩⟩)))))))
      rw [dec_self]
      exact k
    | tuple ds =>
      have tx : TyX K H x (.type "tuple") := tx
      have ty : TyX K H y (.type "tuple") := ty
      cases hx with
      | tup hx1 hx2 =>
      cases hy with
      | tup hy1 hy2 =>
      refine iteF (isi_test rfl ty (b := false) (by decide +kernel) (iteF (isi_test rfl ty (b := false) (by decide +kernel) (iteF (isi_test rfl ty (b := false) (by decide +kernel) (iteF (isi_test rfl ty (b := true) (by decide +kernel) (iteT (isi_val rfl tx (b := true) (by decide +kernel) ⟨_, rfl, iteT ⟨_, rfl, _, rfl, ?_⟩⟩)))))))))
      cases n with
      | zero => exact hd.elim
      | succ n => exact ⟨_, _, _, _, ds, rfl, .inr hx1, .inr hy1, hx2, hy2, Nat.succ_pos _, hd.1, hd.2, k⟩
    | list ds =>
      have tx : TyX K H x (.type "list") := tx
      have ty : TyX K H y (.type "list") := ty
      cases hx with
      | lst hx1 hx2 =>
      cases hy with
      | lst hy1 hy2 =>
      refine iteF (isi_test rfl ty (b := false) (by decide +kernel) (iteF (isi_test rfl ty (b := false) (by decide +kernel) (iteF (isi_test rfl ty (b := false) (by decide +kernel) (iteF (isi_test rfl ty (b := false) (by decide +kernel) (iteF (isi_test rfl ty (b := true) (by decide +kernel) (iteT (isi_val rfl tx (b := true) (by decide +kernel) ⟨_, rfl, iteT ⟨_, rfl, _, rfl, ?_⟩⟩)))))))))))
      cases n with
      | zero => exact hd.elim
      | succ n => exact ⟨_, _, _, _, ds, rfl, .inl hx1, .inl hy1, hx2, hy2, Nat.succ_pos _, hd.1, hd.2, k⟩
    | dict _ => cases hx
/-- both, at any depth -/
theorem cal_same {f1 f2 f3 : Addr} {fd1 fd2 fd3 : FuncData} (F1 : Fun K "_law_is_integer" "_law_is_integer" s__law_is_integer f1 fd1) (g1 : mg "_law_is_integer" = some (.ref f1)) (b1 : Binds K fd1 ["actual"] [])
    (F2 : Fun K "_law_same_items" "_law_same_items" s__law_same_items f2 fd2) (g2 : mg "_law_same_items" = some (.ref f2)) (b2 : Binds K fd2 ["actual", "expected"] [])
    (F3 : Fun K "_law_same" "_law_same" s__law_same f3 fd3) (g3 : mg "_law_same" = some (.ref f3)) (b3 : Binds K fd3 ["actual", "expected"] []) (T : Blt mg) : ∀ n, C8.Cal P w K mg base (2 * n + 2) "_law_same" (spSame K n) []
  | 0 => by
    have c1 : C8.Cal P w K mg base 1 "_law_is_integer" (spIsInt K) [] := cal F1 g1 b1 (ok__law_is_integer F1 T)
    have c2 : C8.Cal P w K mg base 1 "_law_same_items" (spItems K 0) [] := cal F2 g2 b2 (F2.ok sc__law_same_items (fun vs H Q E h => by
      obtain ⟨_, _, _, _, _, _, _, _, _, _, h, _⟩ := h
      exact absurd h (Nat.lt_irrefl _)) (fun cdv A outer s H vs Q E hr h => by
      obtain ⟨_, _, _, _, _, _, _, _, _, _, h, _⟩ := h
      exact absurd h (Nat.lt_irrefl _)))
    exact cal F3 g3 b3 (ok__law_same F3 T (Nat.le_refl _) c2 c1)
  | n + 1 => by
    have c1 : C8.Cal P w K mg base 1 "_law_is_integer" (spIsInt K) [] := cal F1 g1 b1 (ok__law_is_integer F1 T)
    have c0 := cal_same F1 g1 b1 F2 g2 b2 F3 g3 b3 T n
    have c2 : C8.Cal P w K mg base (2 * n + 2 + 1) "_law_same_items" (spItems K (n + 1)) [] := cal F2 g2 b2 (ok__law_same_items F2 T c0)
    exact cal F3 g3 b3 (ok__law_same F3 T (by omega) c2 c1)

end
end K04
namespace K04
open PySem PySem.Spec PyProof.Rows L2 LB
section
variable {P : Program} {w : World} {K : PySem.W.Frag} {mg : Str → Option Value} {base : Heap}
theorem ok__law_value_of {f : Addr} {fd : FuncData} (F : Fun K "_law_value_of" "_law_value_of" s__law_value_of f fd) (T : Blt mg) (c__law_take : C8.Cal P w K mg base 1 "_law_take" spTake []) : FnOk P w K mg base CX0 2 f fd ["tape", "field", "names"] (spValueOf K) := by
  refine F.ok sc__law_value_of (fun vs H Q E h => ?_) (fun cdv A outer s H vs Q E hr h => ?_)
  · obtain ⟨t, c, a, cs, x, nm, S, rfl, _⟩ := h
    rfl
  · obtain ⟨t, c, a, cs, x, nm, S, rfl, L, ha, aS, n0, n1, k⟩ := h
    refine ⟨_, (pss_cons (ps_set (i := 3) sc__law_value_of.nd rfl (Or.inl rfl) (C8.pe_c c__law_take hr (by first | decide | omega) rfl (pa_cons (pv 0) (pa_cons pe_int pa_nil))))
    (pss_cons (ps_if (pt_cmpR op_eq (pv 3) pe_int (nomark _))
      (pss_one (ps_ret (pe_tup (pa_cons pe_str pa_nil))))
      pss_nil)
    (pss_cons (ps_if (pt_cmpR op_eq (pv 3) pe_int (nomark _))
      (pss_one (ps_ret (pe_tup (pa_cons pe_str (pa_cons (C8.pe_c c__law_take hr (by first | decide | omega) rfl (pa_cons (pv 0) (pa_cons pe_int pa_nil))) pa_nil)))))
      pss_nil)
    (pss_cons (ps_if (pt_cmpR op_eq (pv 3) pe_int (nomark _))
      (pss_one (ps_ret (pe_tup (pa_cons pe_str (pa_cons (pe_ix ix_list (pv 2) (C8.pe_c c__law_take hr (by first | decide | omega) rfl (pa_cons (pv 0) (pa_cons (pe_callB call_len_seq (by rfl) T.b_len (by decide +kernel) (pa_cons (pv 2) pa_nil)) pa_nil))) (fun _ _ => rfl)) (pa_cons (C8.pe_c c__law_take hr (by first | decide | omega) rfl (pa_cons (pv 0) (pa_cons pe_int pa_nil))) pa_nil))))))
      pss_nil)
    (pss_cons (ps_if (pt_cmpR op_lt (pv 3) pe_int (nomark _))
      (pss_one (ps_ret (pe_tup (pa_cons pe_str (pa_cons (pe_ix ix_list (pv 2) (C8.pe_c c__law_take hr (by first | decide | omega) rfl (pa_cons (pv 0) (pa_cons (pe_callB call_len_seq (by rfl) T.b_len (by decide +kernel) (pa_cons (pv 2) pa_nil)) pa_nil))) (fun _ _ => rfl)) pa_nil)))))
      pss_nil)
    (pss_one (ps_ret (pe_tup (pa_cons pe_str (pa_cons (pe_ix ix_list (pe_lst (pa_cons pe_int (pa_cons pe_int (pa_cons pe_int (pa_cons pe_int pa_nil))))) (C8.pe_c c__law_take hr (by first | decide | omega) rfl (pa_cons (pv 0) (pa_cons pe_int pa_nil))) (fun _ _ => rfl)) pa_nil)))))))))), ?_⟩
    refine ⟨_, rfl, t, c, cs, 8, rfl, L.tape, by decide, by decide, fun r kvs h0 h1 hk => ?_⟩
    have L1 := L.take hk
    have o1 : Out [t] H (upd H t (.dK kvs)) := out_take
    have aT : a ∉ [t] := fun q => aS (by rw [List.mem_singleton.mp q]; exact L.tS)
    have ha1 := seq_out ha o1 aT
    generalize upd H t (.dK kvs) = H1 at L1 o1 ha1 ⊢
    refine ⟨_, rfl, rfl, _, rfl, ite2 (fun e => ?_) (fun e => ?_)⟩
    · refine ⟨by show 1 ≤ sizeLine; decide, fun p np => ?_⟩
      obtain ⟨a1, a2, a3⟩ := fin_tup L1 o1 np (.cons (.str "none") .nil)
      exact k _ .none _ True.intro a1 a2 a3
    refine ⟨_, rfl, rfl, _, rfl, ite2 (fun e => ?_) (fun e => ?_)⟩
    · refine ⟨_, rfl, t, c, cs, 3, rfl, L1.tape, by decide, by decide, fun r2 kvs2 h20 h21 hk2 => ?_⟩
      have L2 := L1.take hk2
      have o2 := o1.trans (out_take (kvs := kvs2))
      refine ⟨by show 2 ≤ sizeLine; decide, fun p np => ?_⟩
      obtain ⟨a1, a2, a3⟩ := fin_tup L2 o2 np (.cons (.str "index") (.cons (.int r2) .nil))
      exact k _ (.index r2) _ ⟨h20, h21⟩ a1 a2 a3
    refine ⟨_, rfl, rfl, _, rfl, ite2 (fun e => ?_) (fun e => ?_)⟩
    · refine ⟨_, rfl, _, rfl, _, rfl, _, _, rfl, .inl (SqL.of ha1), t, c, cs, _, rfl, L1.tape, by rw [List.length_map]; omega, by rw [List.length_map]; omega, fun r2 kvs2 h20 h21 hk2 => ?_⟩
      rw [List.length_map] at h21
      obtain ⟨y, hy, hy2, er⟩ := drawn h20 h21
      have hy3 : (nm.map V.str)[r2.toNat]? = some (.str y) := by rw [List.getElem?_map, hy]; rfl
      have L2 := L1.take hk2
      have o2 := o1.trans (out_take (kvs := kvs2))
      have ha2 := seq_out ha o2 aT
      generalize upd H1 t (.dK kvs2) = H2 at L2 o2 ha2 ⊢
      refine ⟨a, _, r2, _, rfl, rfl, SqL.of ha2, at_of er hy3, _, rfl, t, c, cs, 3, rfl, L2.tape, by decide, by decide, fun r3 kvs3 h30 h31 hk3 => ?_⟩
      have L3 := L2.take hk3
      have o3 := o2.trans (out_take (kvs := kvs3))
      refine ⟨by show 3 ≤ sizeLine; decide, fun p np => ?_⟩
      obtain ⟨a1, a2, a3⟩ := fin_tup L3 o3 np (.cons (.str "told") (.cons (.str y) (.cons (.int r3) .nil)))
      exact k _ (.told y r3) _ ⟨hy2, h30, h31⟩ a1 a2 a3
    refine ⟨_, rfl, _, _, rfl, rfl, _, rfl, ite2 (fun e => ?_) (fun e => ?_)⟩
    · refine ⟨_, rfl, _, rfl, _, rfl, _, _, rfl, .inl (SqL.of ha1), t, c, cs, _, rfl, L1.tape, by rw [List.length_map]; omega, by rw [List.length_map]; omega, fun r2 kvs2 h20 h21 hk2 => ?_⟩
      rw [List.length_map] at h21
      obtain ⟨y, hy, hy2, er⟩ := drawn h20 h21
      have hy3 : (nm.map V.str)[r2.toNat]? = some (.str y) := by rw [List.getElem?_map, hy]; rfl
      have L2 := L1.take hk2
      have o2 := o1.trans (out_take (kvs := kvs2))
      have ha2 := seq_out ha o2 aT
      generalize upd H1 t (.dK kvs2) = H2 at L2 o2 ha2 ⊢
      refine ⟨a, _, r2, _, rfl, rfl, SqL.of ha2, at_of er hy3, by show 2 ≤ sizeLine; decide, fun p np => ?_⟩
      obtain ⟨a1, a2, a3⟩ := fin_tup L2 o2 np (.cons (.str "name") (.cons (.str y) .nil))
      exact k _ (.name y) _ hy2 a1 a2 a3
    · refine ⟨by show 4 ≤ sizeLine; decide, fun q nq => ?_⟩
      have L2 := L1.new (o := .lst (numL.map V.int)) nq
      have o2 : Out [t] H (upd H1 q (.lst (numL.map V.int))) := o1.trans (.upd_new nq)
      refine ⟨_, rfl, t, c, cs, 4, rfl, L2.tape, by decide, by decide, fun r2 kvs2 h20 h21 hk2 => ?_⟩
      obtain ⟨y, hy, hy2, er⟩ := drawn (l := numL) h20 h21
      have hy3 : (numL.map V.int)[r2.toNat]? = some (.int y) := by rw [List.getElem?_map, hy]; rfl
      have L3 := L2.take hk2
      have o3 := o2.trans (out_take (kvs := kvs2))
      have hq : (upd (upd H1 q (.lst (numL.map V.int))) t (.dK kvs2)) q = some (.lst (numL.map V.int)) := by rw [upd_ne (L2.nt upd_same)]; exact upd_same
      refine ⟨q, _, r2, _, rfl, rfl, SqL.of hq, at_of er hy3, by show 2 ≤ sizeLine; decide, fun p np => ?_⟩
      obtain ⟨a1, a2, a3⟩ := fin_tup L3 o3 np (.cons (.str "number") (.cons (.int y) .nil))
      exact k _ (.number y) _ hy2 a1 a2 a3

end
end K04
namespace K04
open PySem PySem.Spec PyProof.Rows L2 LB
section
variable {P : Program} {w : World} {K : PySem.W.Frag} {mg : Str → Option Value} {base : Heap}
theorem ok__law_any_tree {f : Addr} {fd : FuncData} (F : Fun K "_law_any_tree" "_law_any_tree" s__law_any_tree f fd) (T : Blt mg) (c__law_take : C8.Cal P w K mg base 1 "_law_take" spTake []) (c__law_value_of : C8.Cal P w K mg base 2 "_law_value_of" (spValueOf K) []) : FnOk P w K mg base CX0 3 f fd ["tape"] (spAnyTree K) := by
  refine F.ok sc__law_any_tree (fun vs H Q E h => ?_) (fun cdv A outer s H vs Q E hr h => ?_)
  · obtain ⟨t, c, cs, S, rfl, _⟩ := h
    rfl
  · obtain ⟨t, c, cs, S, rfl, L, k⟩ := h
    refine ⟨_, (pss_cons (ps_set (i := 1) sc__law_any_tree.nd rfl (Or.inl rfl) (pe_lst (pa_cons pe_str (pa_cons pe_str (pa_cons pe_str (pa_cons pe_str (pa_cons pe_str pa_nil)))))))
    (pss_cons (ps_set (i := 2) sc__law_any_tree.nd rfl (Or.inl rfl) (pe_lst pa_nil))
    (pss_cons (ps_for PassesOwn.never rfl (pi_range1 (by rfl) T.b_range (pa_cons (C8.pe_c c__law_take hr (by first | decide | omega) rfl (pa_cons (pv 0) (pa_cons pe_int pa_nil))) pa_nil)) (pg_name (i := 3) sc__law_any_tree.nd rfl (Or.inl rfl))
      (pss_cons (ps_set (i := 4) sc__law_any_tree.nd rfl (Or.inl rfl) (pe_lst pa_nil))
      (pss_cons (ps_for PassesOwn.never rfl (pi_range1 (by rfl) T.b_range (pa_cons (C8.pe_c c__law_take hr (by first | decide | omega) rfl (pa_cons (pv 0) (pa_cons pe_int pa_nil))) pa_nil)) (pg_name (i := 5) sc__law_any_tree.nd rfl (Or.inl rfl))
        (pss_cons (ps_setLc (i := 6) rfl sc__law_any_tree.nd rfl rfl (sw_true rfl rfl rfl (by decide +kernel)) (own := [("word", 14)]) (pi_list (pe_lst (pa_cons pe_str (pa_cons pe_str (pa_cons pe_str pa_nil))))) (blkOk_by (own := [("word", 14)]) (N := N__law_any_tree) (sc := defScope s__law_any_tree) (by decide +kernel)) (fun _ _ _ _ _ => (pg_name (i := 14) sc__law_any_tree.nd rfl (Or.inl rfl))) (fun _ _ _ _ _ => (pts_one (pt_cmpR op_eq (C8.pe_c c__law_take hr (by first | decide | omega) rfl (pa_cons (pv 0) (pa_cons pe_int pa_nil))) pe_int (nomark _)))) (fun _ _ _ _ _ => (pv 14)))
        (pss_cons (ps_set (i := 7) sc__law_any_tree.nd rfl (Or.inl rfl) (pe_ix ix_list (pe_lst (pa_cons pe_str (pa_cons pe_str (pa_cons pe_str (pa_cons pe_str pa_nil))))) (C8.pe_c c__law_take hr (by first | decide | omega) rfl (pa_cons (pv 0) (pa_cons pe_int pa_nil))) (fun _ _ => rfl)))
        (pss_one (ps_expr (pe_bm PySem.F.plainAttrs_list PySem.F.slot_list_append PySem.F.type_list_append mt_append (pv 4) (pa_cons (pe_tup (pa_cons (pe_ix ix_list (pe_lst (pa_cons pe_str (pa_cons pe_str (pa_cons pe_str pa_nil)))) (C8.pe_c c__law_take hr (by first | decide | omega) rfl (pa_cons (pv 0) (pa_cons pe_int pa_nil))) (fun _ _ => rfl)) (pa_cons (pv 7) (pa_cons (pe_callTy call_tuple_of (by rfl) T.b_tuple (by decide +kernel) (pa_cons (pv 6) pa_nil)) pa_nil)))) pa_nil)))))))
      (pss_one (ps_expr (pe_bm PySem.F.plainAttrs_list PySem.F.slot_list_append PySem.F.type_list_append mt_append (pv 2) (pa_cons (pe_tup (pa_cons (pe_op op_add_str pe_str (pe_callTy call_str_int (by rfl) T.b_str (by decide +kernel) (pa_cons (pv 3) pa_nil))) (pa_cons (pe_callTy call_tuple_of (by rfl) T.b_tuple (by decide +kernel) (pa_cons (pv 4) pa_nil)) pa_nil))) pa_nil)))))))
    (pss_cons (ps_set (i := 8) sc__law_any_tree.nd rfl (Or.inl rfl) (pe_lst pa_nil))
    (pss_cons (ps_for PassesOwn.never rfl (pi_range1 (by rfl) T.b_range (pa_cons (C8.pe_c c__law_take hr (by first | decide | omega) rfl (pa_cons (pv 0) (pa_cons pe_int pa_nil))) pa_nil)) (pg_name (i := 3) sc__law_any_tree.nd rfl (Or.inl rfl))
      (pss_cons (ps_set (i := 9) sc__law_any_tree.nd rfl (Or.inl rfl) (pe_ix ix_list (pv 1) (C8.pe_c c__law_take hr (by first | decide | omega) rfl (pa_cons (pv 0) (pa_cons pe_int pa_nil))) (fun _ _ => rfl)))
      (pss_cons (ps_set (i := 10) sc__law_any_tree.nd rfl (Or.inl rfl) (C8.pe_c c__law_take hr (by first | decide | omega) rfl (pa_cons (pv 0) (pa_cons pe_int pa_nil))))
      (pss_one (ps_if (pt_cmpR op_lt (pv 10) pe_int (nomark _))
        (pss_cons (ps_set (i := 11) sc__law_any_tree.nd rfl (Or.inl rfl) (pe_lst pa_nil))
        (pss_cons (ps_for PassesOwn.never rfl (pi_range1 (by rfl) T.b_range (pa_cons (C8.pe_c c__law_take hr (by first | decide | omega) rfl (pa_cons (pv 0) (pa_cons pe_int pa_nil))) pa_nil)) (pg_name (i := 5) sc__law_any_tree.nd rfl (Or.inl rfl))
          (pss_cons (ps_set (i := 12) sc__law_any_tree.nd rfl (Or.inl rfl) (pe_ix ix_list (pe_lst (pa_cons pe_str (pa_cons pe_str (pa_cons pe_str pa_nil)))) (C8.pe_c c__law_take hr (by first | decide | omega) rfl (pa_cons (pv 0) (pa_cons pe_int pa_nil))) (fun _ _ => rfl)))
          (pss_one (ps_expr (pe_bm PySem.F.plainAttrs_list PySem.F.slot_list_append PySem.F.type_list_append mt_append (pv 11) (pa_cons (pe_tup (pa_cons (pv 12) (pa_cons (C8.pe_c c__law_value_of hr (by first | decide | omega) rfl (pa_cons (pv 0) (pa_cons (pv 12) (pa_cons (pv 1) pa_nil)))) pa_nil))) pa_nil))))))
        (pss_cons (ps_set (i := 13) sc__law_any_tree.nd rfl (Or.inl rfl) (pe_ix ix_list (pe_lst (pa_cons pe_non (pa_cons pe_non (pa_cons pe_int (pa_cons pe_int (pa_cons pe_int pa_nil)))))) (C8.pe_c c__law_take hr (by first | decide | omega) rfl (pa_cons (pv 0) (pa_cons pe_int pa_nil))) (fun _ _ => rfl)))
        (pss_one (ps_expr (pe_bm PySem.F.plainAttrs_list PySem.F.slot_list_append PySem.F.type_list_append mt_append (pv 8) (pa_cons (pe_tup (pa_cons pe_str (pa_cons (pv 9) (pa_cons (pv 13) (pa_cons (pe_op op_add_str pe_str (pe_callTy call_str_int (by rfl) T.b_str (by decide +kernel) (pa_cons (C8.pe_c c__law_take hr (by first | decide | omega) rfl (pa_cons (pv 0) (pa_cons pe_int pa_nil))) pa_nil))) (pa_cons (pe_callTy call_tuple_of (by rfl) T.b_tuple (by decide +kernel) (pa_cons (pv 11) pa_nil)) pa_nil)))))) pa_nil)))))))
        (pss_one (ps_if (pt_cmpR op_eq (pv 10) pe_int (nomark _))
          (pss_one (ps_expr (pe_bm PySem.F.plainAttrs_list PySem.F.slot_list_append PySem.F.type_list_append mt_append (pv 8) (pa_cons (pe_tup (pa_cons pe_str (pa_cons (pv 9) pa_nil))) pa_nil))))
          (pss_one (ps_if (pt_cmpR op_eq (pv 10) pe_int (nomark _))
            (pss_one (ps_expr (pe_bm PySem.F.plainAttrs_list PySem.F.slot_list_append PySem.F.type_list_append mt_append (pv 8) (pa_cons (pe_tup (pa_cons pe_str (pa_cons (C8.pe_c c__law_take hr (by first | decide | omega) rfl (pa_cons (pv 0) (pa_cons pe_int pa_nil))) pa_nil))) pa_nil))))
            (pss_one (ps_if (pt_cmpR op_eq (pv 10) pe_int (nomark _))
              (pss_one (ps_expr (pe_bm PySem.F.plainAttrs_list PySem.F.slot_list_append PySem.F.type_list_append mt_append (pv 8) (pa_cons (pe_tup (pa_cons pe_str (pa_cons (C8.pe_c c__law_take hr (by first | decide | omega) rfl (pa_cons (pv 0) (pa_cons pe_int pa_nil))) (pa_cons (pv 9) pa_nil)))) pa_nil))))
              (pss_one (ps_expr (pe_bm PySem.F.plainAttrs_list PySem.F.slot_list_append PySem.F.type_list_append mt_append (pv 8) (pa_cons (pe_tup (pa_cons pe_str (pa_cons (pv 9) (pa_cons (pe_ix ix_list (pv 1) (C8.pe_c c__law_take hr (by first | decide | omega) rfl (pa_cons (pv 0) (pa_cons pe_int pa_nil))) (fun _ _ => rfl)) pa_nil)))) pa_nil)))))))))))))))
    (pss_one (ps_ret (pe_tup (pa_cons (pe_callTy call_tuple_of (by rfl) T.b_tuple (by decide +kernel) (pa_cons (pv 2) pa_nil)) (pa_cons (pe_callTy call_tuple_of (by rfl) T.b_tuple (by decide +kernel) (pa_cons (pv 8) pa_nil)) pa_nil)))))))))), ?_⟩
    -- names, kinds
    refine ⟨by show 5 ≤ sizeLine; decide, fun nm nnm => ?_⟩
    have B0 := (Bg.start (K := K) L).read (xs := namesL.map V.str) nnm
    refine ⟨Nat.zero_le _, fun kd nkd => ?_⟩
    have B1 := B0.open_ nkd
    refine ⟨_, rfl, t, c, cs, 4, rfl, B1.live.tape, by decide, by decide, fun r kvs h0 h1 hk => ?_⟩
    refine ⟨_, rfl, by omega, by omega, for_range (n := r.toNat) (fun i σ H' => ∃ (ks : List Kd) (e3 e4 e5 e6 e7 e8 e9 e10 e11 e12 e13 e14 : Option V), σ = [some (.ref t), some (.ref nm), some (.ref kd), e3, e4, e5, e6, e7, e8, e9, e10, e11, e12, e13, e14] ∧
        Bg K t c cs H S [(kd, ks.map Kd.d)] [(nm, namesL.map V.str)] H' ∧ (∀ k ∈ ks, k.ok) ∧ ks.length = i)
      ⟨[], none, none, none, none, none, none, none, none, none, none, none, none, rfl, B1.take hk, (fun _ h => by cases h), rfl⟩ ?_ ?_⟩
    · rintro i σ H2 hi ⟨ks, e3, e4, e5, e6, e7, e8, e9, e10, e11, e12, e13, e14, rfl, B, hks, hlen⟩
      rw [Int.zero_add]
      refine ⟨Nat.zero_le _, fun fl nfl => ?_⟩
      have B3 := B.open_ nfl
      refine ⟨_, rfl, t, c, cs, 4, rfl, B3.live.tape, by decide, by decide, fun r2 kvs2 h20 h21 hk2 => ?_⟩
      refine ⟨_, rfl, by omega, by omega, for_range (n := r2.toNat) (fun j σ H' => ∃ (fs : List Fd) (e5 e6 e7 e8 e9 e10 e11 e12 e13 e14 : Option V), σ = [some (.ref t), some (.ref nm), some (.ref kd), some (.int (i : Int)), some (.ref fl), e5, e6, e7, e8, e9, e10, e11, e12, e13, e14] ∧
          Bg K t c cs H S [(fl, fs.map Fd.d), (kd, ks.map Kd.d)] [(nm, namesL.map V.str)] H' ∧ (∀ f ∈ fs, f.ok) ∧ fs.length = j)
        ⟨[], e5, e6, e7, e8, e9, e10, e11, e12, e13, e14, rfl, B3.take hk2, (fun _ h => by cases h), rfl⟩ ?_ ?_⟩
      · rintro j σ H3 hj ⟨fs, e5, e6, e7, e8, e9, e10, e11, e12, e13, e14, rfl, B4, hfs, hflen⟩
        rw [Int.zero_add]
        -- marks
        refine ⟨by show 3 ≤ sizeLine; decide, fun q nq => ⟨q, rfl, ⟨_, SqL.of upd_same⟩, fun D nD => lc_list (K := K) (a := q) (xs := markL.map V.str) (fun m H' => ∃ ms : List Str,
            Bg K t c cs H S [(D, strD ms), (fl, fs.map Fd.d), (kd, ks.map Kd.d)] [(q, markL.map V.str), (nm, namesL.map V.str)] H' ∧ H' D = some (.lst (ms.map V.str)) ∧ ms.Sublist (markL.take m))
          ⟨[], (B4.read (xs := markL.map V.str) nq).open_ nD, upd_same, List.nil_sublist _⟩ (fun m H' _ ⟨ms, B, _, _⟩ => SqL.of (B.ro (q, markL.map V.str) (List.mem_cons_self ..)).1) ?_ ?_⟩⟩
        · rintro m x H4 hx ⟨ms, B6, hD, hsub⟩
          obtain ⟨y, hy, rfl⟩ : ∃ y, markL[m]? = some y ∧ V.str y = x := by
            rw [List.getElem?_map] at hx
            cases e : markL[m]? with
            | none => rw [e] at hx; cases hx
            | some n => rw [e] at hx; exact ⟨n, rfl, Option.some.inj hx⟩
          have hm : m < 3 := (List.getElem?_eq_some_iff.mp hy).1
          have hml : ms.length ≤ 3 := Nat.le_trans hsub.length_le (by rw [List.length_take]; exact Nat.min_le_right _ _)
          refine ⟨rfl, _, rfl, t, c, cs, 3, rfl, B6.live.tape, by decide, by decide, fun r3 kvs3 h30 h31 hk3 => ?_⟩
          have B7 := B6.take hk3
          have hD7 : (upd H4 t (.dK kvs3)) D = some (.lst (ms.map V.str)) := by rw [upd_ne (B6.live.nt hD)]; exact hD
          have et : markL.take (m + 1) = markL.take m ++ [y] := by rw [List.take_add_one, hy]; rfl
          refine ⟨rfl, _, rfl, ite2 (fun e => ?_) (fun e => ?_)⟩
          · refine ⟨_, rfl, _, hD7, ?_, ms ++ [y], ?_, ?_, ?_⟩
            · rw [List.length_map]
              exact Nat.lt_of_le_of_lt hml (by decide)
            · have e2 : strD (ms ++ [y]) = strD ms ++ [.str y] := List.map_append
              rw [e2]
              exact B7.snoc hD7 (.str y)
            · rw [upd_same, List.map_append]; rfl
            · rw [et]
              exact hsub.append (List.Sublist.refl _)
          · refine ⟨ms, B7, hD7, ?_⟩
            rw [et]
            exact hsub.trans (List.sublist_append_left _ _)
        · rintro H4 ⟨ms, B6, hD, hsub⟩
          rw [List.length_map, show markL.length = 3 from rfl] at hsub
          have B8 := (B6.freeze hD).drop (R' := [(D, ms.map V.str), (nm, namesL.map V.str)]) (fun p hp => by
            rcases List.mem_cons.mp hp with rfl | hp
            · exact List.mem_cons_self ..
            · rw [List.mem_singleton.mp hp]
              exact List.mem_cons_of_mem _ (List.mem_cons_of_mem _ (List.mem_cons_self ..)))
          -- target
          refine ⟨by show 4 ≤ sizeLine; decide, fun q2 nq2 => ?_⟩
          have B9 := B8.read (xs := targetL.map V.str) nq2
          refine ⟨_, rfl, t, c, cs, 4, rfl, B9.live.tape, by decide, by decide, fun r4 kvs4 h40 h41 hk4 => ?_⟩
          have B10 := B9.take hk4
          obtain ⟨y4, hy4, hm4, er4⟩ := drawn (l := targetL) h40 h41
          have hy4' : (targetL.map V.str)[r4.toNat]? = some (.str y4) := by rw [List.getElem?_map, hy4]; rfl
          refine ⟨q2, _, r4, _, rfl, rfl, SqL.of (B10.ro (q2, targetL.map V.str) (List.mem_cons_self ..)).1, at_of er4 hy4', ?_⟩
          -- fields.append
          obtain ⟨xs, hfl, _⟩ := B10.head
          refine ⟨_, rfl, .inl ⟨rfl, _, SqL.of hfl⟩, by show 3 ≤ sizeLine; decide, fun q3 nq3 => ?_⟩
          have B11 := B10.read (xs := fieldL.map V.str) nq3
          refine ⟨_, rfl, t, c, cs, 3, rfl, B11.live.tape, by decide, by decide, fun r5 kvs5 h50 h51 hk5 => ?_⟩
          have B12 := B11.take hk5
          obtain ⟨y5, hy5, hm5, er5⟩ := drawn (l := fieldL) h50 h51
          have hy5' : (fieldL.map V.str)[r5.toNat]? = some (.str y5) := by rw [List.getElem?_map, hy5]; rfl
          refine ⟨q3, _, r5, _, rfl, rfl, SqL.of (B12.ro (q3, fieldL.map V.str) (List.mem_cons_self ..)).1, at_of er5 hy5', ?_⟩
          refine ⟨_, rfl, _, rfl, D, _, rfl, .inl ⟨SqL.of (B12.ro (D, ms.map V.str) (List.mem_cons_of_mem _ (List.mem_cons_of_mem _ (List.mem_cons_self ..)))).1, fun l nl => ?_⟩⟩
          obtain ⟨B13, dl⟩ := B12.tup nl (strD_ds ms)
          refine ⟨by show 3 ≤ sizeLine; decide, fun p np => ?_⟩
          obtain ⟨B14, dp⟩ := B13.tup np (.cons (.str y5) (.cons (.str y4) (.cons dl .nil)))
          obtain ⟨xs2, hfl2, _⟩ := B14.head
          have hxl : xs2.length = fs.length := by
            have := (B14.op _ (List.mem_cons_self ..)).1.len hfl2
            rw [this, List.length_map]
          refine ⟨fl, xs2, _, rfl, rfl, hfl2, Nat.lt_of_le_of_lt (show xs2.length ≤ 100 by omega) (by decide), ?_⟩
          refine ⟨fs ++ [⟨y5, y4, ms⟩], _, _, _, _, _, _, _, _, _, _, rfl, ?_, ?_, ?_⟩
          · have B15 := (B14.snoc hfl2 dp).drop (R' := [(nm, namesL.map V.str)]) (fun p hp => by
              rw [List.mem_singleton.mp hp]
              exact List.mem_cons_of_mem _ (List.mem_cons_of_mem _ (List.mem_cons_of_mem _ (List.mem_cons_self ..))))
            rw [List.map_append]
            exact B15
          · intro f hf
            rcases List.mem_append.mp hf with hf | hf
            · exact hfs f hf
            · rw [List.mem_singleton.mp hf]
              exact ⟨hm5, hm4, hsub⟩
          · rw [List.length_append, hflen]; rfl
      · rintro σ H3 ⟨fs, e5, e6, e7, e8, e9, e10, e11, e12, e13, e14, rfl, B4, hfs, hflen⟩
        obtain ⟨xsf, hfl, dsf⟩ := B4.head
        have B5 := B4.close
        have dsf' := ds_close dsf
        obtain ⟨xs, hkd, _⟩ := B5.head
        refine ⟨_, rfl, .inl ⟨rfl, _, SqL.of hkd⟩, _, rfl, _, rfl, small_log (by omega) (by omega), _, _, rfl, rfl, kname_len (by omega) (by omega), _, rfl, fl, _, rfl, .inl ⟨SqL.of hfl, fun l nl => ?_⟩⟩
        obtain ⟨B6, dl⟩ := B5.tup nl dsf'
        refine ⟨by show 2 ≤ sizeLine; decide, fun p np => ?_⟩
        obtain ⟨B7, dp⟩ := B6.tup np (.cons (.str _) (.cons dl .nil))
        obtain ⟨xs2, hkd2, _⟩ := B7.head
        have hxl : xs2.length = ks.length := by
          have := (B7.op _ (List.mem_cons_self ..)).1.len hkd2
          rw [this, List.length_map]
        refine ⟨kd, xs2, _, rfl, rfl, hkd2, Nat.lt_of_le_of_lt (show xs2.length ≤ 100 by omega) (by decide), ?_⟩
        refine ⟨ks ++ [⟨Str.ofString "k" ++ Str.ofString (toString (i : Int)), fs⟩], _, _, _, _, _, _, _, _, _, _, _, _, rfl, ?_, ?_, ?_⟩
        · rw [List.map_append]
          exact B7.snoc hkd2 dp
        · intro f hf
          rcases List.mem_append.mp hf with hf | hf
          · exact hks f hf
          · rw [List.mem_singleton.mp hf]
            exact ⟨kname (by omega) (by omega), hfs, by show fs.length ≤ 3; omega⟩
        · rw [List.length_append, hlen]; rfl
    · rintro σ H2 ⟨ks, e3, e4, e5, e6, e7, e8, e9, e10, e11, e12, e13, e14, rfl, B, hks, hlen⟩
      -- items
      refine ⟨Nat.zero_le _, fun it nit => ?_⟩
      have B1' := B.open_ nit
      refine ⟨_, rfl, t, c, cs, 6, rfl, B1'.live.tape, by decide, by decide, fun r2 kvs2 h20 h21 hk2 => ?_⟩
      refine ⟨_, rfl, by omega, by omega, for_range (n := r2.toNat) (fun i σ H' => ∃ (is : List Im) (e3 e4 e5 e6 e7 e9 e10 e11 e12 e13 e14 : Option V), σ = [some (.ref t), some (.ref nm), some (.ref kd), e3, e4, e5, e6, e7, some (.ref it), e9, e10, e11, e12, e13, e14] ∧
          Bg K t c cs H S [(it, is.map Im.d), (kd, ks.map Kd.d)] [(nm, namesL.map V.str)] H' ∧ (∀ k ∈ is, k.ok) ∧ is.length = i)
        ⟨[], e3, e4, e5, e6, e7, e9, e10, e11, e12, e13, e14, rfl, B1'.take hk2, (fun _ h => by cases h), rfl⟩ ?_ ?_⟩
      · rintro i σ H3 hi ⟨is, e3, e4, e5, e6, e7, e9, e10, e11, e12, e13, e14, rfl, B3, his, hil⟩
        rw [Int.zero_add]
        -- name, choice
        refine ⟨_, rfl, _, rfl, t, c, cs, 5, rfl, B3.live.tape, by decide, by decide, fun r3 kvs3 h30 h31 hk3 => ?_⟩
        have B4 := B3.take hk3
        obtain ⟨y3, hy3, hm3, er3⟩ := drawn (l := namesL) h30 h31
        have hy3' : (namesL.map V.str)[r3.toNat]? = some (.str y3) := by rw [List.getElem?_map, hy3]; rfl
        refine ⟨nm, _, r3, _, rfl, rfl, SqL.of (B4.ro (nm, namesL.map V.str) (List.mem_cons_self ..)).1, at_of er3 hy3', ?_⟩
        refine ⟨_, rfl, t, c, cs, 9, rfl, B4.live.tape, by decide, by decide, fun r4 kvs4 h40 h41 hk4 => ?_⟩
        have B5 := B4.take hk4
        generalize upd (upd H3 t (.dK kvs3)) t (.dK kvs4) = H5 at B5 ⊢
        -- an item laid
        have lay : ∀ {H6 : Hp} {p : Addr} {xs : List V} (x : Im) (ds : List PyData) (σ2 : L2.St) (e3 e4 e5 e6 e7 e9 e10 e11 e12 e13 e14 : Option V), x.d = .tuple ds → x.ok → Bg K t c cs H S [(it, is.map Im.d), (kd, ks.map Kd.d)] [(nm, namesL.map V.str)] H6 → H6 p = none → DsS K (it :: kd :: S) H6 xs ds →
            σ2 = [some (.ref t), some (.ref nm), some (.ref kd), e3, e4, e5, e6, e7, some (.ref it), e9, e10, e11, e12, e13, e14] →
            ∃ lx ys y, V.ref it = .ref lx ∧ [V.ref p] = [y] ∧ (upd H6 p (.tup xs)) lx = some (.lst ys) ∧ ys.length < sizeLine ∧ ∃ (is : List Im) (e3 e4 e5 e6 e7 e9 e10 e11 e12 e13 e14 : Option V), σ2 = [some (.ref t), some (.ref nm), some (.ref kd), e3, e4, e5, e6, e7, some (.ref it), e9, e10, e11, e12, e13, e14] ∧
              Bg K t c cs H S [(it, is.map Im.d), (kd, ks.map Kd.d)] [(nm, namesL.map V.str)] (upd (upd H6 p (.tup xs)) lx (.lst (ys ++ [y]))) ∧ (∀ k ∈ is, k.ok) ∧ is.length = i + 1 := by
          intro H6 p xs x ds σ2 e3 e4 e5 e6 e7 e9 e10 e11 e12 e13 e14 hd hx B6 np hds hσ
          obtain ⟨B7, dp⟩ := B6.tup np hds
          obtain ⟨ys, hit, _⟩ := B7.head
          have hxl : ys.length = is.length := by
            have := (B7.op _ (List.mem_cons_self ..)).1.len hit
            rw [this, List.length_map]
          refine ⟨it, ys, _, rfl, rfl, hit, Nat.lt_of_le_of_lt (show ys.length ≤ 100 by omega) (by decide), is ++ [x], e3, e4, e5, e6, e7, e9, e10, e11, e12, e13, e14, hσ, ?_, ?_, ?_⟩
          · rw [List.map_append]
            rw [← hd] at dp
            exact B7.snoc hit dp
          · intro f hf
            rcases List.mem_append.mp hf with hf | hf
            · exact his f hf
            · rw [List.mem_singleton.mp hf]; exact hx
          · rw [List.length_append, hil]; rfl
        refine ⟨_, rfl, _, _, rfl, rfl, _, rfl, ite2 (fun e => ?_) (fun e => ?_)⟩
        · -- a thing
          refine ⟨Nat.zero_le _, fun vl nvl => ?_⟩
          have B6 := B5.open_ nvl
          refine ⟨_, rfl, t, c, cs, 4, rfl, B6.live.tape, by decide, by decide, fun r5 kvs5 h50 h51 hk5 => ?_⟩
          refine ⟨_, rfl, by omega, by omega, for_range (n := r5.toNat) (fun j σ H' => ∃ (vs : List (Str × Vl)) (e5 e12 e13 e14 : Option V), σ = [some (.ref t), some (.ref nm), some (.ref kd), some (.int (i : Int)), e4, e5, e6, e7, some (.ref it), some (.str y3), some (.int r4), some (.ref vl), e12, e13, e14] ∧
              Bg K t c cs H S [(vl, vs.map valD), (it, is.map Im.d), (kd, ks.map Kd.d)] [(nm, namesL.map V.str)] H' ∧ (∀ p ∈ vs, p.1 ∈ fieldL ∧ p.2.ok namesL) ∧ vs.length = j)
            ⟨[], e5, e12, e13, e14, rfl, B6.take hk5, (fun _ h => by cases h), rfl⟩ ?_ ?_⟩
          · rintro j σ H7 hj ⟨vs, e5, e12, e13, e14, rfl, B7, hvs, hvl⟩
            rw [Int.zero_add]
            refine ⟨by show 3 ≤ sizeLine; decide, fun q2 nq2 => ?_⟩
            have B8 := B7.read (xs := fieldL.map V.str) nq2
            refine ⟨_, rfl, t, c, cs, 3, rfl, B8.live.tape, by decide, by decide, fun r6 kvs6 h60 h61 hk6 => ?_⟩
            have B9 := B8.take hk6
            obtain ⟨y6, hy6, hm6, er6⟩ := drawn (l := fieldL) h60 h61
            have hy6' : (fieldL.map V.str)[r6.toNat]? = some (.str y6) := by rw [List.getElem?_map, hy6]; rfl
            refine ⟨q2, _, r6, _, rfl, rfl, SqL.of (B9.ro (q2, fieldL.map V.str) (List.mem_cons_self ..)).1, at_of er6 hy6', ?_⟩
            obtain ⟨xs, hvl2, _⟩ := B9.head
            have B10 := B9.drop (R' := [(nm, namesL.map V.str)]) (fun p hp => List.mem_cons_of_mem _ hp)
            have hro := B10.ro (nm, namesL.map V.str) (List.mem_cons_self ..)
            refine ⟨_, rfl, .inl ⟨rfl, _, SqL.of hvl2⟩, _, rfl, _, rfl, _, rfl, _, rfl, t, c, nm, cs, _, namesL, _, rfl, B10.live, hro.1, hro.2, by decide, by decide, fun v x H11 hx Lx ox dx => ?_⟩
            have B11 := B10.call Lx ox
            refine ⟨by show 2 ≤ sizeLine; decide, fun p np => ?_⟩
            obtain ⟨B12, dp⟩ := B11.tup np (.cons (.str y6) (.cons dx .nil))
            obtain ⟨xs2, hvl3, _⟩ := B12.head
            have hxl : xs2.length = vs.length := by
              have := (B12.op _ (List.mem_cons_self ..)).1.len hvl3
              rw [this, List.length_map]
            refine ⟨vl, xs2, _, rfl, rfl, hvl3, Nat.lt_of_le_of_lt (show xs2.length ≤ 100 by omega) (by decide), vs ++ [(y6, x)], _, _, _, _, rfl, ?_, ?_, ?_⟩
            · rw [List.map_append]
              exact B12.snoc hvl3 dp
            · intro f hf
              rcases List.mem_append.mp hf with hf | hf
              · exact hvs f hf
              · rw [List.mem_singleton.mp hf]; exact ⟨hm6, hx⟩
            · rw [List.length_append, hvl]; rfl
          · rintro σ H7 ⟨vs, e5, e12, e13, e14, rfl, B7, hvs, hvl⟩
            obtain ⟨xsv, hvl2, dsv⟩ := B7.head
            have B8 := B7.freeze hvl2
            have dsv' := ds_close dsv
            -- count
            refine ⟨by show 5 ≤ sizeLine; decide, fun q2 nq2 => ?_⟩
            have B9 := B8.read (xs := cntL.map cntV) nq2
            refine ⟨_, rfl, t, c, cs, 5, rfl, B9.live.tape, by decide, by decide, fun r6 kvs6 h60 h61 hk6 => ?_⟩
            have B10 := B9.take hk6
            obtain ⟨y6, hy6, hm6, er6⟩ := drawn (l := cntL) h60 h61
            have hy6' : (cntL.map cntV)[r6.toNat]? = some (cntV y6) := by rw [List.getElem?_map, hy6]; rfl
            refine ⟨q2, _, r6, _, rfl, rfl, SqL.of (B10.ro (q2, cntL.map cntV) (List.mem_cons_self ..)).1, at_of er6 hy6', ?_⟩
            obtain ⟨xs, hit, _⟩ := B10.head
            refine ⟨_, rfl, .inl ⟨rfl, _, SqL.of hit⟩, _, rfl, _, rfl, _, rfl, t, c, cs, 3, rfl, B10.live.tape, by decide, by decide, fun r7 kvs7 h70 h71 hk7 => ?_⟩
            have B11 := B10.take hk7
            refine ⟨_, rfl, small_log (by omega) (by omega), _, _, rfl, rfl, kname_len (by omega) (by omega), _, rfl, vl, _, rfl, .inl ⟨SqL.of (B11.ro (vl, xsv) (List.mem_cons_of_mem _ (List.mem_cons_self ..))).1, fun l nl => ?_⟩⟩
            have dsv3 : DsS K (it :: kd :: S) (upd (upd (upd H7 q2 (.lst (cntL.map cntV))) t (.dK kvs6)) t (.dK kvs7)) xsv (vs.map valD) :=
              dsS_out (.upd_in B10.live.tS) (dsS_out (.upd_in B9.live.tS) (dsS_out (.upd_new nq2) dsv'))
            obtain ⟨B12, dl⟩ := B11.tup nl dsv3
            refine ⟨by show 5 ≤ sizeLine; decide, fun p np => ?_⟩
            exact lay (.thing y3 y6 _ vs) _ _ _ _ _ _ _ _ _ _ _ _ _ rfl ⟨hm3, hm6, kname h70 h71, hvs, by omega⟩ (B12.drop (fun p hp => by
              rw [List.mem_singleton.mp hp]
              exact List.mem_cons_of_mem _ (List.mem_cons_of_mem _ (List.mem_cons_self ..)))) np (.cons (.str _) (.cons (.str _) (.cons (cnt_dp y6) (.cons (.str _) (.cons dl .nil))))) rfl
        obtain ⟨xs, hit, _⟩ := B5.head
        refine ⟨_, rfl, rfl, _, rfl, ite2 (fun e => ?_) (fun e => ?_)⟩
        · refine ⟨_, rfl, .inl ⟨rfl, _, SqL.of hit⟩, _, rfl, by show 2 ≤ sizeLine; decide, fun p np => ?_⟩
          exact lay (.keep y3) _ _ _ _ _ _ _ _ _ _ _ _ _ rfl hm3 B5 np (.cons (.str _) (.cons (.str _) .nil)) rfl
        refine ⟨_, rfl, rfl, _, rfl, ite2 (fun e => ?_) (fun e => ?_)⟩
        · refine ⟨_, rfl, .inl ⟨rfl, _, SqL.of hit⟩, _, rfl, t, c, cs, 9, rfl, B5.live.tape, by decide, by decide, fun r5 kvs5 h50 h51 hk5 => ?_⟩
          refine ⟨by show 2 ≤ sizeLine; decide, fun p np => ?_⟩
          exact lay (.most r5) _ _ _ _ _ _ _ _ _ _ _ _ _ rfl ⟨h50, h51⟩ (B5.take hk5) np (.cons (.str _) (.cons (.int _) .nil)) rfl
        refine ⟨_, rfl, rfl, _, rfl, ite2 (fun e => ?_) (fun e => ?_)⟩
        · refine ⟨_, rfl, .inl ⟨rfl, _, SqL.of hit⟩, _, rfl, t, c, cs, 4, rfl, B5.live.tape, by decide, by decide, fun r5 kvs5 h50 h51 hk5 => ?_⟩
          refine ⟨_, rfl, by show 3 ≤ sizeLine; decide, fun p np => ?_⟩
          exact lay (.adopt r5 y3) _ _ _ _ _ _ _ _ _ _ _ _ _ rfl ⟨h50, h51, hm3⟩ (B5.take hk5) np (.cons (.str _) (.cons (.int _) (.cons (.str _) .nil))) rfl
        · refine ⟨_, rfl, .inl ⟨rfl, _, SqL.of hit⟩, _, rfl, _, rfl, _, rfl, t, c, cs, 5, rfl, B5.live.tape, by decide, by decide, fun r5 kvs5 h50 h51 hk5 => ?_⟩
          have B6 := B5.take hk5
          obtain ⟨y5, hy5, hm5, er5⟩ := drawn (l := namesL) h50 h51
          have hy5' : (namesL.map V.str)[r5.toNat]? = some (.str y5) := by rw [List.getElem?_map, hy5]; rfl
          refine ⟨nm, _, r5, _, rfl, rfl, SqL.of (B6.ro (nm, namesL.map V.str) (List.mem_cons_self ..)).1, at_of er5 hy5', ?_⟩
          refine ⟨by show 3 ≤ sizeLine; decide, fun p np => ?_⟩
          exact lay (.move y3 y5) _ _ _ _ _ _ _ _ _ _ _ _ _ rfl ⟨hm3, hm5⟩ B6 np (.cons (.str _) (.cons (.str _) (.cons (.str _) .nil))) rfl
      · rintro σ H3 ⟨is, e3, e4, e5, e6, e7, e9, e10, e11, e12, e13, e14, rfl, B3, his, hil⟩
        obtain ⟨xsi, hit, dsi⟩ := B3.head
        have B4 := B3.close
        have dsi' := ds_close dsi
        obtain ⟨xsk, hkd, dsk⟩ := B4.head
        have B5 := B4.close
        have dsi2 := ds_close dsi'
        have dsk2 := ds_close dsk
        refine ⟨_, rfl, kd, _, rfl, .inl ⟨SqL.of hkd, fun l1 nl1 => ?_⟩⟩
        obtain ⟨B6, d1⟩ := B5.tup nl1 dsk2
        refine ⟨_, rfl, it, _, rfl, .inl ⟨SqL.of (by rw [upd_ne (ne_of_none hit nl1)]; exact hit), fun l2 nl2 => ?_⟩⟩
        obtain ⟨B7, d2⟩ := B6.tup nl2 (dsS_out (.upd_new nl1) dsi2)
        refine ⟨by show 2 ≤ sizeLine; decide, fun p np => ?_⟩
        obtain ⟨B8, dp⟩ := B7.tup np (.cons (B6.dp_new nl2 d1) (.cons d2 .nil))
        exact k _ ⟨ks, is⟩ _ ⟨hks, his, by show ks.length ≤ 3; omega, by show is.length ≤ 5; omega⟩ B8.live B8.out dp

end
end K04
namespace K04
open PySem PySem.Spec PyProof.Rows L2 LB
structure Txt (mg : Str → Option Value) : Prop extends Blt mg where
  g_NUMBERS : ∃ u, mg "NUMBERS" = some u ∧ RelV (.int 4294967296) u
section
variable {P : Program} {w : World} {K : PySem.W.Frag} {mg : Str → Option Value} {base : Heap}
theorem ok__law_name {f : Addr} {fd : FuncData} (F : Fun K "_law_name" "_law_name" s__law_name f fd) (T : Blt mg) : FnOk P w K mg base CX0 1 f fd ["name", "number"] spName := by
  refine F.ok sc__law_name (fun vs H Q E h => ?_) (fun cdv A outer s H vs Q E hr h => ?_)
  · obtain ⟨z, k, rfl, _⟩ := h
    rfl
  · obtain ⟨z, k, rfl, hz, h0, h1, q⟩ := h
    refine ⟨_, (pss_one (ps_ret (pe_join pe_str (pe_lc (own := [("char", 2)]) rfl sc__law_name.nd (pi_str (pv 0)) (blkOk_by (own := [("char", 2)]) (N := N__law_name) (sc := defScope s__law_name) (by decide +kernel)) (fun _ _ _ _ _ => (pg_name (i := 2) sc__law_name.nd rfl (Or.inl rfl))) (fun _ _ _ _ _ => pts_nil) (fun _ _ _ _ _ => (pe_ifExp (pt_cmpR op_eq (pv 2) pe_str (nomark _)) (pe_callTy call_str_int (by rfl) T.b_str (by decide +kernel) (pa_cons (pv 1) pa_nil)) (pv 2))))))), ?_⟩
    refine ⟨⟨_, rfl⟩, _, rfl, _, rfl, fun D nD => lc_it (walk_str (z := z)) (fun i H' => Same H H' ∧ H' D = some (.lst (((z.cps.toList.take i).map fun c => if c = 35 then numS k else ⟨#[c]⟩).map V.str))) ⟨same_upd nD, upd_same⟩ (fun _ _ _ _ => True.intro) ?_ ?_⟩
    · rintro i x H1 H2 hi ⟨s1, hD⟩ ⟨rfl, c, hc, rfl⟩
      have hc' : z.cps.toList[i]? = some c := by simpa using hc
      have hil : i < z.cps.toList.length := (List.getElem?_eq_some_iff.mp hc').1
      have hzl : z.cps.toList.length = z.length := by simp [Str.length]
      have hlen : (((z.cps.toList.take i).map fun c => if c = 35 then numS k else (⟨#[c]⟩ : Str)).map V.str).length < sizeLine := by
        rw [List.length_map, List.length_map, List.length_take]
        exact Nat.lt_of_le_of_lt (show min i z.cps.toList.length ≤ 1000 by omega) (by decide)
      have nxt : ∀ y : V, y = .str (if c = 35 then numS k else ⟨#[c]⟩) → Same H (upd H2 D (.lst ((((z.cps.toList.take i).map fun c => if c = 35 then numS k else (⟨#[c]⟩ : Str)).map V.str) ++ [y]))) ∧
          (upd H2 D (.lst ((((z.cps.toList.take i).map fun c => if c = 35 then numS k else (⟨#[c]⟩ : Str)).map V.str) ++ [y]))) D = some (.lst (((z.cps.toList.take (i + 1)).map fun c => if c = 35 then numS k else ⟨#[c]⟩).map V.str)) := by
        rintro y rfl
        refine ⟨fun b o e => ?_, ?_⟩
        · rw [upd_ne (ne_of_none e nD)]
          exact s1 b o e
        · rw [upd_same, List.take_add_one, hc', List.map_append, List.map_append]
          rfl
      refine ⟨rfl, _, rfl, rfl, _, rfl, ?_⟩
      rw [eq_one hash_eq]
      by_cases h : c = 35
      · rw [decide_eq_true h]
        refine iteT ⟨_, rfl, _, rfl, small_log h0 (by omega), _, hD, hlen, nxt _ (by rw [if_pos h])⟩
      · rw [decide_eq_false h]
        refine iteF ⟨_, rfl, _, hD, hlen, nxt _ (by rw [if_neg h])⟩
    · rintro H1 ⟨s1, hD⟩
      have hsz : z.cps.size = z.cps.toList.length := by simp
      rw [hsz, List.take_length] at hD
      have hzl : z.cps.toList.length = z.length := by simp [Str.length]
      refine ⟨_, D, _, rfl, rfl, .inl (SqL.of hD), ?_, ?_⟩
      · have h2 : (((z.cps.toList.map fun c => if c = 35 then numS k else (⟨#[c]⟩ : Str)).map (·.length)).sum) ≤ 4 * (z.cps.toList.map fun c => if c = 35 then numS k else (⟨#[c]⟩ : Str)).length := by
          refine sum_le fun y hy => ?_
          obtain ⟨c, _, rfl⟩ := List.mem_map.mp hy
          by_cases h : c = 35
          · rw [if_pos h]; exact num_len h0 h1
          · rw [if_neg h]
            show 1 ≤ 4
            omega
        rw [List.length_map] at h2 ⊢
        rw [empty_eq]
        show _ + z.cps.toList.length * 0 ≤ _
        omega
      · rw [join_hash]
        exact q _ s1
theorem dp_ix {a : Addr} {xs : List V} {H : Hp} {i : Nat} {v : V} {R : V → Hp → Prop} (h : SqT K H a xs) (hv : xs[i]? = some v) (q : R v H) : rIxT K (.ref a) (.int (i : Int)) H R := ⟨a, xs, i, v, rfl, rfl, h, atI_nat hv, q⟩
theorem two_flat : ([.str "name", .str "told"] : List V).all flatV = true := by decide +kernel
theorem tag_ne {a b : Str} (h : a ≠ b) : decide (V.str a = V.str b) = false := decide_eq_false fun e => h (V.str.inj e)
theorem tag_eq (a : Str) : decide (V.str a = V.str a) = true := decide_eq_true rfl
theorem s_ix : ¬ Str.ofString "number" = Str.ofString "index" := by decide +kernel
theorem s_ix2 : ¬ Str.ofString "none" = Str.ofString "index" := by decide +kernel
theorem s_ix3 : ¬ Str.ofString "name" = Str.ofString "index" := by decide +kernel
theorem s_ix4 : ¬ Str.ofString "told" = Str.ofString "index" := by decide +kernel
theorem ok__law_copy_of {f : Addr} {fd : FuncData} (F : Fun K "_law_copy_of" "_law_copy_of" s__law_copy_of f fd) (T : Blt mg) (c__law_name : C8.Cal P w K mg base 1 "_law_name" spName []) : FnOk P w K mg base CX0 2 f fd ["value", "number"] (spCopy K) := by
  refine F.ok sc__law_copy_of (fun vs H Q E h => ?_) (fun cdv A outer s H vs Q E hr h => ?_)
  · obtain ⟨v, k, x, S, rfl, _⟩ := h
    rfl
  · obtain ⟨v, k, x, S, rfl, al, hv, hx, h0, h1, q⟩ := h
    refine ⟨_, (pss_cons (ps_if (pt_cmpR op_eq (pe_ix ix_tup (pv 0) pe_int (fun _ _ => rfl)) pe_str (nomark _))
      (pss_one (ps_ret (pe_tup (pa_cons pe_str (pa_cons (pe_op op_mod (pe_callTy call_int1 (by rfl) T.b_int (by decide +kernel) (pa_cons (pe_op op_add (pe_ix ix_tup (pv 0) pe_int (fun _ _ => rfl)) (pv 1)) pa_nil)) pe_int) pa_nil)))))
      pss_nil)
    (pss_cons (ps_if (pt_cmpR op_in_seq (pe_ix ix_tup (pv 0) pe_int (fun _ _ => rfl)) (pe_lst (pa_cons pe_str (pa_cons pe_str pa_nil))) (by rfl))
      (pss_one (ps_ret (pe_op op_catT (pe_tup (pa_cons (pe_ix ix_tup (pv 0) pe_int (fun _ _ => rfl)) (pa_cons (C8.pe_c c__law_name hr (by first | decide | omega) rfl (pa_cons (pe_ix ix_tup (pv 0) pe_int (fun _ _ => rfl)) (pa_cons (pv 1) pa_nil))) pa_nil))) (pe_slice sl_tup (pv 0) (po_some pe_int) po_none))))
      pss_nil)
    (pss_one (ps_ret (pv 0))))), ?_⟩
    have hv' := dpS_in hv
    cases x with
    | number n =>
      obtain ⟨a, xs, rfl, ha, dx⟩ := dp_tuple hv'
      obtain ⟨v1, r1, rfl, d1, dr1⟩ := ds_cons dx
      obtain rfl := dp_str d1
      refine ⟨_, rfl, _, _, _, _, rfl, rfl, ha, atI_nat (j := 0) rfl, ⟨rfl, _, rfl, ?_⟩⟩
      rw [tag_ne s_ix]
      refine iteF ⟨_, rfl, _, _, _, _, rfl, rfl, ha, atI_nat (j := 0) rfl, ⟨by show 2 ≤ sizeLine; decide, fun l nl => ⟨l, _, rfl, .inl (SqL.of upd_same), rfl, two_flat, _, rfl, ?_⟩⟩⟩
      show (if inV (.str "number") [.str "name", .str "told"] = true then _ else _ : Prop)
      rw [show inV (.str "number") [.str "name", .str "told"] = false by decide +kernel]
      exact iteF ⟨_, rfl, q _ _ (same_upd nl) (dpS_same (same_upd nl) hv)⟩
    | none =>
      obtain ⟨a, xs, rfl, ha, dx⟩ := dp_tuple hv'
      obtain ⟨v1, r1, rfl, d1, dr1⟩ := ds_cons dx
      obtain rfl := dp_str d1
      refine ⟨_, rfl, _, _, _, _, rfl, rfl, ha, atI_nat (j := 0) rfl, ⟨rfl, _, rfl, ?_⟩⟩
      rw [tag_ne s_ix2]
      refine iteF ⟨_, rfl, _, _, _, _, rfl, rfl, ha, atI_nat (j := 0) rfl, ⟨by show 2 ≤ sizeLine; decide, fun l nl => ⟨l, _, rfl, .inl (SqL.of upd_same), rfl, two_flat, _, rfl, ?_⟩⟩⟩
      show (if inV (.str "none") [.str "name", .str "told"] = true then _ else _ : Prop)
      rw [show inV (.str "none") [.str "name", .str "told"] = false by decide +kernel]
      exact iteF ⟨_, rfl, q _ _ (same_upd nl) (dpS_same (same_upd nl) hv)⟩
    | index n =>
      obtain ⟨a, xs, rfl, ha, dx⟩ := dp_tuple hv'
      obtain ⟨v1, r1, rfl, d1, dr1⟩ := ds_cons dx
      obtain rfl := dp_str d1
      obtain ⟨v2, r2, rfl, d2, dr2⟩ := ds_cons dr1
      obtain rfl := dp_int d2
      refine ⟨_, rfl, _, _, _, _, rfl, rfl, ha, atI_nat (j := 0) rfl, ⟨rfl, _, rfl, ?_⟩⟩
      rw [tag_eq]
      refine iteT ⟨_, rfl, _, _, _, _, rfl, rfl, ha, atI_nat (j := 1) rfl, ⟨_, rfl, _, _, rfl, rfl, .inl ⟨_, rfl, _, _, rfl, rfl, (by show (0 : Int) < 4294967296; decide), by show 2 ≤ sizeLine; decide, fun p np => ?_⟩⟩⟩
      exact q _ _ (same_upd np) (dpS_tup (al.new np) upd_same (.cons (.str _) (.cons (.int _) .nil)))
    | name z =>
      obtain ⟨a, xs, rfl, ha, dx⟩ := dp_tuple hv'
      obtain ⟨v1, r1, rfl, d1, dr1⟩ := ds_cons dx
      obtain rfl := dp_str d1
      obtain ⟨v2, r2, rfl, d2, dr2⟩ := ds_cons dr1
      obtain rfl := dp_str d2
      obtain rfl := ds_nil dr2
      refine ⟨_, rfl, _, _, _, _, rfl, rfl, ha, atI_nat (j := 0) rfl, ⟨rfl, _, rfl, ?_⟩⟩
      rw [tag_ne s_ix3]
      refine iteF ⟨_, rfl, _, _, _, _, rfl, rfl, ha, atI_nat (j := 0) rfl, ⟨by show 2 ≤ sizeLine; decide, fun l nl => ⟨l, _, rfl, .inl (SqL.of upd_same), rfl, two_flat, _, rfl, ?_⟩⟩⟩
      show (if inV (.str "name") [.str "name", .str "told"] = true then _ else _ : Prop)
      rw [show inV (.str "name") [.str "name", .str "told"] = true by decide +kernel]
      have s1 := same_upd (o := .lst [.str "name", .str "told"]) nl
      refine iteT ⟨_, rfl, _, _, _, _, rfl, rfl, (same_seqT s1 ha), atI_nat (j := 0) rfl, ⟨_, rfl, _, _, _, _, rfl, rfl, (same_seqT s1 ha), atI_nat (j := 1) rfl, ⟨_, rfl, z, k, rfl, hx, h0, h1, fun H1 s2 => ⟨by show 2 ≤ sizeLine; decide, fun p np => ?_⟩⟩⟩⟩
      have s3 := (s1.trans s2).trans (same_upd (o := .tup [.str "name", .str (hashS k z)]) np)
      refine ⟨_, rfl, 2, rfl, a, _, rfl, same_seqT s3 ha, fun e => absurd (show (2 : Nat) = 0 from e.1) (by decide), fun p2 np2 => ?_⟩
      refine ⟨p, p2, _, _, rfl, rfl, SqT.of (by rw [upd_ne (ne_of_none upd_same np2)]; exact upd_same), SqT.of upd_same, (fun e => by cases e), ?_, fun e => ?_, fun e => ?_⟩
      · exact Nat.le_trans (Nat.add_le_add_left (cutV_length _ _ _) _) (by show 2 + 2 ≤ sizeLine; decide)
      · refine q _ _ (s3.trans (same_upd np2)) (dpS_same (same_upd np2) (dpS_tup ((al.same (s1.trans s2)).new np) upd_same (.cons (.str _) (.cons (.str _) .nil))))
      · exact absurd rfl e
    | told z n =>
      obtain ⟨a, xs, rfl, ha, dx⟩ := dp_tuple hv'
      obtain ⟨v1, r1, rfl, d1, dr1⟩ := ds_cons dx
      obtain rfl := dp_str d1
      obtain ⟨v2, r2, rfl, d2, dr2⟩ := ds_cons dr1
      obtain rfl := dp_str d2
      obtain ⟨v3, r3, rfl, d3, dr3⟩ := ds_cons dr2
      obtain rfl := dp_int d3
      obtain rfl := ds_nil dr3
      refine ⟨_, rfl, _, _, _, _, rfl, rfl, ha, atI_nat (j := 0) rfl, ⟨rfl, _, rfl, ?_⟩⟩
      rw [tag_ne s_ix4]
      refine iteF ⟨_, rfl, _, _, _, _, rfl, rfl, ha, atI_nat (j := 0) rfl, ⟨by show 2 ≤ sizeLine; decide, fun l nl => ⟨l, _, rfl, .inl (SqL.of upd_same), rfl, two_flat, _, rfl, ?_⟩⟩⟩
      show (if inV (.str "told") [.str "name", .str "told"] = true then _ else _ : Prop)
      rw [show inV (.str "told") [.str "name", .str "told"] = true by decide +kernel]
      have s1 := same_upd (o := .lst [.str "name", .str "told"]) nl
      refine iteT ⟨_, rfl, _, _, _, _, rfl, rfl, (same_seqT s1 ha), atI_nat (j := 0) rfl, ⟨_, rfl, _, _, _, _, rfl, rfl, (same_seqT s1 ha), atI_nat (j := 1) rfl, ⟨_, rfl, z, k, rfl, hx, h0, h1, fun H1 s2 => ⟨by show 2 ≤ sizeLine; decide, fun p np => ?_⟩⟩⟩⟩
      have s3 := (s1.trans s2).trans (same_upd (o := .tup [.str "told", .str (hashS k z)]) np)
      refine ⟨_, rfl, 2, rfl, a, _, rfl, same_seqT s3 ha, fun e => absurd (show (2 : Nat) = 0 from e.1) (by decide), fun p2 np2 => ?_⟩
      refine ⟨p, p2, _, _, rfl, rfl, SqT.of (by rw [upd_ne (ne_of_none upd_same np2)]; exact upd_same), SqT.of upd_same, (fun e => by cases e), ?_, fun e => ?_, fun e p3 np3 => ?_⟩
      · exact Nat.le_trans (Nat.add_le_add_left (cutV_length _ _ _) _) (by show 2 + 3 ≤ sizeLine; decide)
      · exact absurd e (by rw [show cutV [V.str (Str.ofString "told"), V.str z, V.int n] (some 2) none = [V.int n] from rfl]; exact fun e => by cases e)
      · have s4 := (s3.trans (same_upd (o := .tup (cutV [V.str (Str.ofString "told"), V.str z, V.int n] (some 2) none)) np2))
        exact q _ _ (s4.trans (same_upd np3)) (dpS_tup ((al.same s4).new np3) upd_same (.cons (.str _) (.cons (.str _) (.cons (.int _) .nil))))
end
end K04
namespace K04
open PySem PySem.Spec PyProof.Rows L2 LB
theorem s_nm1 : ¬ Str.ofString "number" = Str.ofString "name" := by decide +kernel
theorem s_nm2 : ¬ Str.ofString "none" = Str.ofString "name" := by decide +kernel
theorem s_nm3 : ¬ Str.ofString "told" = Str.ofString "name" := by decide +kernel
theorem s_td1 : ¬ Str.ofString "number" = Str.ofString "told" := by decide +kernel
theorem s_td2 : ¬ Str.ofString "none" = Str.ofString "told" := by decide +kernel
section
variable {P : Program} {w : World} {K : PySem.W.Frag} {mg : Str → Option Value} {base : Heap}
theorem repl_fit {z : Str} {k : Int} (hz : z.length ≤ 1000) (h0 : 0 ≤ k) (h1 : k < 100) : z.length + (z.length + 1) * (numS k).length ≤ 16777216 := by
  have h2 := num_len h0 h1
  have h3 : (z.length + 1) * (numS k).length ≤ 1001 * 4 := Nat.mul_le_mul (by omega) h2
  omega
theorem ok__value_of_copy {f : Addr} {fd : FuncData} (F : Fun K "_value_of_copy" "_value_of_copy" s__value_of_copy f fd) (T : Txt mg) : FnOk P w K mg base CX0 1 f fd ["value", "k"] (spCopy K) := by
  refine F.ok sc__value_of_copy (fun vs H Q E h => ?_) (fun cdv A outer s H vs Q E hr h => ?_)
  · obtain ⟨v, k, x, S, rfl, _⟩ := h
    rfl
  · obtain ⟨v, k, x, S, rfl, al, hv, hx, h0, h1, q⟩ := h
    refine ⟨_, (pss_cons (ps_if (pt_cmpR op_eq (pe_ix ix_tup (pv 0) pe_int (fun _ _ => rfl)) pe_str (nomark _))
      (pss_one (ps_ret (pe_tup (pa_cons pe_str (pa_cons (pe_op op_mod (pe_op op_add (pv 1) (pe_ix ix_tup (pv 0) pe_int (fun _ _ => rfl))) (C8.pe_gc rfl T.g_NUMBERS)) pa_nil)))))
      pss_nil)
    (pss_cons (ps_if (pt_cmpR op_eq (pe_ix ix_tup (pv 0) pe_int (fun _ _ => rfl)) pe_str (nomark _))
      (pss_one (ps_ret (pe_tup (pa_strT (pat_cons (pet_replI (pe_ix ix_tup (pv 0) pe_int (fun _ _ => rfl)) (pa_cons (pv 1) pa_nil) (by rfl) T.b_str) (pat_of pa_nil))))))
      pss_nil)
    (pss_cons (ps_if (pt_cmpR op_eq (pe_ix ix_tup (pv 0) pe_int (fun _ _ => rfl)) pe_str (nomark _))
      (pss_one (ps_ret (pe_tup (pa_strT (pat_cons (pet_replI (pe_ix ix_tup (pv 0) pe_int (fun _ _ => rfl)) (pa_cons (pv 1) pa_nil) (by rfl) T.b_str) (pat_of (pa_cons (pe_ix ix_tup (pv 0) pe_int (fun _ _ => rfl)) pa_nil)))))))
      pss_nil)
    (pss_one (ps_ret (pv 0)))))), ?_⟩
    have hv' := dpS_in hv
    cases x with
    | number n =>
      obtain ⟨a, xs, rfl, ha, dx⟩ := dp_tuple hv'
      obtain ⟨v1, r1, rfl, d1, dr1⟩ := ds_cons dx
      obtain rfl := dp_str d1
      refine ⟨_, rfl, _, _, _, _, rfl, rfl, ha, atI_nat (j := 0) rfl, rfl, _, rfl, ?_⟩
      rw [tag_ne s_ix]
      refine iteF ⟨_, rfl, _, _, _, _, rfl, rfl, ha, atI_nat (j := 0) rfl, rfl, _, rfl, ?_⟩
      rw [tag_ne s_nm1]
      refine iteF ⟨_, rfl, _, _, _, _, rfl, rfl, ha, atI_nat (j := 0) rfl, rfl, _, rfl, ?_⟩
      rw [tag_ne s_td1]
      exact iteF ⟨_, rfl, q _ _ (Same.refl _) hv⟩
    | none =>
      obtain ⟨a, xs, rfl, ha, dx⟩ := dp_tuple hv'
      obtain ⟨v1, r1, rfl, d1, dr1⟩ := ds_cons dx
      obtain rfl := dp_str d1
      refine ⟨_, rfl, _, _, _, _, rfl, rfl, ha, atI_nat (j := 0) rfl, rfl, _, rfl, ?_⟩
      rw [tag_ne s_ix2]
      refine iteF ⟨_, rfl, _, _, _, _, rfl, rfl, ha, atI_nat (j := 0) rfl, rfl, _, rfl, ?_⟩
      rw [tag_ne s_nm2]
      refine iteF ⟨_, rfl, _, _, _, _, rfl, rfl, ha, atI_nat (j := 0) rfl, rfl, _, rfl, ?_⟩
      rw [tag_ne s_td2]
      exact iteF ⟨_, rfl, q _ _ (Same.refl _) hv⟩
    | index n =>
      obtain ⟨a, xs, rfl, ha, dx⟩ := dp_tuple hv'
      obtain ⟨v1, r1, rfl, d1, dr1⟩ := ds_cons dx
      obtain rfl := dp_str d1
      obtain ⟨v2, r2, rfl, d2, dr2⟩ := ds_cons dr1
      obtain rfl := dp_int d2
      refine ⟨_, rfl, _, _, _, _, rfl, rfl, ha, atI_nat (j := 0) rfl, rfl, _, rfl, ?_⟩
      rw [tag_eq]
      refine iteT ⟨_, rfl, _, rfl, _, _, _, _, rfl, rfl, ha, atI_nat (j := 1) rfl, _, _, rfl, rfl, _, _, rfl, rfl, (by show (0 : Int) < 4294967296; decide), by show 2 ≤ sizeLine; decide, fun p np => ?_⟩
      have e : (k + n) % 4294967296 = (n + k) % 4294967296 := by rw [Int.add_comm]
      refine q _ _ (same_upd np) (dpS_tup (al.new np) upd_same (.cons (.str _) (.cons ?_ .nil)))
      show Dp K _ (.int ((k + n) % 4294967296)) (.int ((n + k) % 4294967296))
      rw [e]
      exact .int _
    | name z =>
      obtain ⟨a, xs, rfl, ha, dx⟩ := dp_tuple hv'
      obtain ⟨v1, r1, rfl, d1, dr1⟩ := ds_cons dx
      obtain rfl := dp_str d1
      obtain ⟨v2, r2, rfl, d2, dr2⟩ := ds_cons dr1
      obtain rfl := dp_str d2
      refine ⟨_, rfl, _, _, _, _, rfl, rfl, ha, atI_nat (j := 0) rfl, rfl, _, rfl, ?_⟩
      rw [tag_ne s_ix3]
      refine iteF ⟨_, rfl, _, _, _, _, rfl, rfl, ha, atI_nat (j := 0) rfl, rfl, _, rfl, ?_⟩
      rw [tag_eq]
      refine iteT ⟨_, rfl, _, _, _, _, rfl, rfl, ha, atI_nat (j := 1) rfl, z, rfl, _, rfl, k, rfl, small_log h0 (by omega), num_not_hash h0 h1, repl_fit hx h0 h1, by show 2 ≤ sizeLine; decide, fun p np => ?_⟩
      exact q _ _ (same_upd np) (dpS_tup (al.new np) upd_same (.cons (.str _) (.cons (.str _) .nil)))
    | told z n =>
      obtain ⟨a, xs, rfl, ha, dx⟩ := dp_tuple hv'
      obtain ⟨v1, r1, rfl, d1, dr1⟩ := ds_cons dx
      obtain rfl := dp_str d1
      obtain ⟨v2, r2, rfl, d2, dr2⟩ := ds_cons dr1
      obtain rfl := dp_str d2
      obtain ⟨v3, r3, rfl, d3, dr3⟩ := ds_cons dr2
      obtain rfl := dp_int d3
      refine ⟨_, rfl, _, _, _, _, rfl, rfl, ha, atI_nat (j := 0) rfl, rfl, _, rfl, ?_⟩
      rw [tag_ne s_ix4]
      refine iteF ⟨_, rfl, _, _, _, _, rfl, rfl, ha, atI_nat (j := 0) rfl, rfl, _, rfl, ?_⟩
      rw [tag_ne s_nm3]
      refine iteF ⟨_, rfl, _, _, _, _, rfl, rfl, ha, atI_nat (j := 0) rfl, rfl, _, rfl, ?_⟩
      rw [tag_eq]
      refine iteT ⟨_, rfl, _, _, _, _, rfl, rfl, ha, atI_nat (j := 1) rfl, z, rfl, _, rfl, k, rfl, small_log h0 (by omega), num_not_hash h0 h1, repl_fit hx h0 h1, _, rfl, _, _, _, _, rfl, rfl, ha, atI_nat (j := 2) rfl, by show 3 ≤ sizeLine; decide, fun p np => ?_⟩
      exact q _ _ (same_upd np) (dpS_tup (al.new np) upd_same (.cons (.str _) (.cons (.str _) (.cons (.int _) .nil))))
theorem ok__values_of_copy {f : Addr} {fd : FuncData} (F : Fun K "_values_of_copy" "_values_of_copy" s__values_of_copy f fd) (T : Txt mg) (c__value_of_copy : C8.Cal P w K mg base 1 "_value_of_copy" (spCopy K) []) : FnOk P w K mg base CX0 2 f fd ["values", "k"] (spValuesCopy K) := by
  refine F.ok sc__values_of_copy (fun vs H Q E h => ?_) (fun cdv A outer s H vs Q E hr h => ?_)
  · obtain ⟨v, k, x, S, rfl, _⟩ := h
    rfl
  · obtain ⟨v, k, xs, S, rfl, al, hv, hl, hx, h0, h1, q⟩ := h
    refine ⟨_, (pss_one (ps_ret (pe_callTy call_tuple_of (by rfl) T.b_tuple (by decide +kernel) (pa_cons (pe_lc (g := (gTup K 2 (gCons (gName 2) (gCons (gName 3) gNil)))) (own := [("field", 2), ("value", 3)]) rfl sc__values_of_copy.nd (pi_tup (pv 0)) (blkOk_by (own := [("field", 2), ("value", 3)]) (N := N__values_of_copy) (sc := defScope s__values_of_copy) (by decide +kernel)) (fun _ _ _ _ _ => (pg_tup (by rfl) (pgs_cons (pg_name (i := 2) sc__values_of_copy.nd rfl (Or.inl rfl)) (pgs_cons (pg_name (i := 3) sc__values_of_copy.nd rfl (Or.inl rfl)) pgs_nil)))) (fun _ _ _ _ _ => pts_nil) (fun _ _ _ _ _ => (pe_tup (pa_cons (pv 2) (pa_cons (C8.pe_c c__value_of_copy hr (by first | decide | omega) rfl (pa_cons (pv 3) (pa_cons (pv 1) pa_nil))) pa_nil))))) pa_nil)))), ?_⟩
    obtain ⟨a, ys, rfl, ha, dys⟩ := dp_tuple hv
    have ha' : SqT K H a ys := same_seqT wo_le ha
    have lys : ys.length = xs.length := by rw [dpAll_len dys, List.length_map]
    refine ⟨_, rfl, a, rfl, ⟨_, ha'⟩, fun D nD => lc_it (walk_tup (K := K) (a := a) (xs := ys)) (fun i H' => Same H H' ∧ ∃ zs, H' D = some (.lst zs) ∧ DsS K (D :: S) H' zs (((xs.take i).map fun p => (p.1, copyV k p.2)).map valD)) ⟨same_upd nD, [], upd_same, .nil⟩ (fun _ _ _ h => same_seqT h.1 ha') ?_ ?_⟩
    · rintro i x H1 H2 hi ⟨s1, zs, hD, dzs⟩ ⟨rfl, hxi⟩
      obtain ⟨p, hp⟩ : ∃ p, xs[i]? = some p := ⟨_, List.getElem?_eq_getElem (by omega)⟩
      obtain ⟨x', d', hx1, hd1, hxd⟩ := dpAll_get dys hi
      rw [hxi] at hx1
      cases hx1
      rw [List.getElem?_map, hp] at hd1
      cases hd1
      have hxd2 : DpS K (D :: S) H2 x (valD p) := by
        have e1 : DpS K S H x (valD p) := hxd
        have e2 := dp_mono (wo_open (o := .lst []) nD) _ _ e1
        refine dp_mono ?_ _ _ e2
        exact Out.same fun b o nb e => by
          rw [upd_ne (fun q => nb (by rw [q]; exact List.mem_cons_self ..))] at e
          exact s1 b o e
      obtain ⟨b, bs, rfl, hb, dbs⟩ := dp_tuple hxd2
      obtain ⟨v1, r1, rfl, d1, dr1⟩ := ds_cons dbs
      obtain rfl := dp_str d1
      obtain ⟨v2, r2, rfl, d2, dr2⟩ := ds_cons dr1
      obtain rfl := ds_nil dr2
      have al2 : Alive (D :: S) H2 := (al.same s1).cons hD
      refine ⟨b, _, rfl, same_seqT wo_le hb, rfl, _, _, rfl, _, _, rfl, rfl, ?_⟩
      refine ⟨rfl, _, rfl, _, rfl, _, rfl, v2, k, p.2, D :: S, rfl, al2, d2, hx p (List.mem_of_getElem? hp), h0, h1, fun v' H3 s3 d3 => ⟨by show 2 ≤ sizeLine; decide, fun l nl => ?_⟩⟩
      have hD3 := s3 _ _ hD
      have dl := dpS_tup (K := K) (xs := [.str p.1, v']) (ds := [.str p.1, (copyV k p.2).d]) ((al2.same s3).new nl) upd_same (.cons (.str _) (.cons (dpS_same (same_upd nl) d3) .nil))
      have s4 := s3.trans (same_upd (o := .tup [.str p.1, v']) nl)
      refine ⟨zs, s4 _ _ hD, ?_, ?_, zs ++ [.ref l], upd_same, ?_⟩
      · have : zs.length ≤ 1000 := by
          rw [dpAll_len dzs, List.length_map, List.length_map, List.length_take]
          omega
        exact Nat.lt_of_le_of_lt this (by decide)
      · exact fun b o e => by
          rw [upd_ne (ne_of_none e nD)]
          exact s4 b o (s1 b o e)
      · rw [List.take_add_one, hp, List.map_append, List.map_append]
        refine dpAll_snoc (dsS_out ?_ dzs) (dpS_out ?_ dl)
        · exact (Out.of_same s4).trans (.upd_in (List.mem_cons_self ..))
        · exact .upd_in (List.mem_cons_self ..)
    · rintro H1 ⟨s1, zs, hD, dzs⟩
      rw [lys, List.take_length] at dzs
      refine ⟨D, zs, rfl, .inl ⟨SqL.of hD, fun l nl => ?_⟩⟩
      refine q _ _ (s1.trans (same_upd nl)) (dpS_tup ((al.same s1).new nl) upd_same (dsS_out (.upd_new nl) (ds_close dzs)))
theorem ok_items_of {f : Addr} {fd : FuncData} (F : Fun K "items_of" "items_of" s_items_of f fd) (T : Blt mg) : FnOk P w K mg base CX0 1 f fd ["items", "word"] (spItemsOf K) := by
  refine F.ok sc_items_of (fun vs H Q E h => ?_) (fun cdv A outer s H vs Q E hr h => ?_)
  · obtain ⟨v, k, x, S, rfl, _⟩ := h
    rfl
  · obtain ⟨v, word, is, S, rfl, al, hv, hl, q⟩ := h
    refine ⟨_, (pss_one (ps_ret (pe_lc (own := [("item", 2)]) rfl sc_items_of.nd (pi_tup (pv 0)) (blkOk_by (own := [("item", 2)]) (N := N_items_of) (sc := defScope s_items_of) (by decide +kernel)) (fun _ _ _ _ _ => (pg_name (i := 2) sc_items_of.nd rfl (Or.inl rfl))) (fun _ _ _ _ _ => (pts_one (pt_cmpR op_eq (pe_ix (ix_tup : IxR _ (rIxT K)) (pv 2) pe_int (fun _ _ => rfl)) (pv 1) (nomark _)))) (fun _ _ _ _ _ => (pv 2))))), ?_⟩
    obtain ⟨a, ys, rfl, ha, dys⟩ := dp_tuple hv
    have ha' : SqT K H a ys := same_seqT wo_le ha
    have lys : ys.length = is.length := by rw [dpAll_len dys, List.length_map]
    refine ⟨_, rfl, a, rfl, ⟨_, ha'⟩, fun D nD => lc_it (walk_tup (K := K) (a := a) (xs := ys)) (fun i H' => Same H H' ∧ ∃ zs, H' D = some (.lst zs) ∧ DsS K (D :: S) H' zs (((is.take i).filter fun i => i.tag = word).map Im.d)) ⟨same_upd nD, [], upd_same, .nil⟩ (fun _ _ _ h => same_seqT h.1 ha') ?_ ?_⟩
    · rintro i x H1 H2 hi ⟨s1, zs, hD, dzs⟩ ⟨rfl, hxi⟩
      obtain ⟨p, hp⟩ : ∃ p, is[i]? = some p := ⟨_, List.getElem?_eq_getElem (by omega)⟩
      obtain ⟨x', d', hx1, hd1, hxd⟩ := dpAll_get dys hi
      rw [hxi] at hx1
      cases hx1
      rw [List.getElem?_map, hp] at hd1
      cases hd1
      have hxd2 : DpS K (D :: S) H2 x p.d := by
        have e1 : DpS K S H x p.d := hxd
        have e2 := dp_mono (wo_open (o := .lst []) nD) _ _ e1
        refine dp_mono ?_ _ _ e2
        exact Out.same fun b o nb e => by
          rw [upd_ne (fun q => nb (by rw [q]; exact List.mem_cons_self ..))] at e
          exact s1 b o e
      obtain ⟨r, er⟩ := p.head
      have hxd3 := hxd2
      rw [er] at hxd3
      obtain ⟨b, bs, rfl, hb, dbs⟩ := dp_tuple hxd3
      obtain ⟨v1, r1, rfl, d1, dr1⟩ := ds_cons dbs
      obtain rfl := dp_str d1
      refine ⟨rfl, _, rfl, b, _, _, _, rfl, rfl, same_seqT wo_le hb, atI_nat (j := 0) rfl, _, rfl, rfl, _, rfl, ?_⟩
      rw [dec_strE]
      have et : is.take (i + 1) = is.take i ++ [p] := by rw [List.take_add_one, hp]; rfl
      by_cases h : p.tag = word
      · rw [decide_eq_true h]
        refine iteT ⟨_, rfl, zs, hD, ?_, ?_, zs ++ [.ref b], upd_same, ?_⟩
        · have : zs.length ≤ 1000 := by
            rw [dpAll_len dzs, List.length_map]
            exact Nat.le_trans (List.length_filter_le _ _) (by rw [List.length_take]; omega)
          exact Nat.lt_of_le_of_lt this (by decide)
        · exact fun b o e => by
            rw [upd_ne (ne_of_none e nD)]
            exact s1 b o e
        · rw [et, List.filter_append, List.map_append]
          have e3 : [p].filter (fun i => decide (i.tag = word)) = [p] := by simp [h]
          rw [e3]
          exact dpAll_snoc (dsS_out (.upd_in (List.mem_cons_self ..)) dzs) (dpS_out (.upd_in (List.mem_cons_self ..)) hxd2)
      · rw [decide_eq_false h]
        refine iteF ⟨s1, zs, hD, ?_⟩
        rw [et, List.filter_append]
        have e3 : [p].filter (fun i => decide (i.tag = word)) = [] := by simp [h]
        rw [e3, List.append_nil]
        exact dzs
    · rintro H1 ⟨s1, zs, hD, dzs⟩
      rw [lys, List.take_length] at dzs
      exact q D H1 zs s1 nD hD (ds_close dzs)
end
end K04
namespace K04
open PySem PySem.Spec PyProof.Rows L2 LB
section
variable {P : Program} {w : World} {K : PySem.W.Frag} {mg : Str → Option Value} {base : Heap}
theorem kinds_short : ∀ s ∈ kindL, s.length ≤ 1000 := by
  have h : (kindL.all fun y => decide (y.length ≤ 1000)) = true := by decide +kernel
  exact fun y hy => of_decide_eq_true (List.all_eq_true.mp h y hy)
/-- the name of a copy, as the program writes it -/
theorem copy_name (n : Str) (k : Int) : Str.empty ++ n ++ Str.ofString "." ++ Str.ofString (toString k) = n ++ Str.ofString "." ++ numS k := by rw [empty_append]
theorem dot_len : (Str.ofString ".").length = 1 := by decide +kernel
theorem app_len (a b : Str) : (a ++ b).length = a.length + b.length := by
  have h := congrArg List.length (str_append_cps a b)
  rw [List.length_append] at h
  simpa [Str.length] using h
theorem ok_written_out {f : Addr} {fd : FuncData} (F : Fun K "written_out" "written_out" s_written_out f fd) (T : Txt mg) (c_items_of : C8.Cal P w K mg base 1 "items_of" (spItemsOf K) []) (c__values_of_copy : C8.Cal P w K mg base 2 "_values_of_copy" (spValuesCopy K) []) : FnOk P w K mg base CX0 3 f fd ["tree"] (spWritten K) := by
  refine F.ok sc_written_out (fun vs H Q E h => ?_) (fun cdv A outer s H vs Q E hr h => ?_)
  · obtain ⟨t, c, cs, S, v, T, rfl, _⟩ := h
    rfl
  · obtain ⟨t, c, cs, S, v, Tr, rfl, L, hv, hok, q⟩ := h
    refine ⟨_, (pss_cons (ps_asg (pv 0) (pg_tup (by rfl) (pgs_cons (pg_name (i := 1) sc_written_out.nd rfl (Or.inl rfl)) (pgs_cons (pg_name (i := 2) sc_written_out.nd rfl (Or.inl rfl)) pgs_nil))))
    (pss_cons (ps_set (i := 3) sc_written_out.nd rfl (Or.inl rfl) (pe_lst pa_nil))
    (pss_cons (ps_for PassesOwn.never rfl (pi_list (C8.pe_c c_items_of hr (by first | decide | omega) rfl (pa_cons (pv 2) (pa_cons pe_str pa_nil)))) (pg_tup (by rfl) (pgs_cons (pg_name (i := 1) sc_written_out.nd rfl (Or.inl rfl)) (pgs_cons (pg_name (i := 4) sc_written_out.nd rfl (Or.inr rfl)) (pgs_cons (pg_name (i := 5) sc_written_out.nd rfl (Or.inl rfl)) (pgs_cons (pg_name (i := 6) sc_written_out.nd rfl (Or.inr rfl)) (pgs_cons (pg_name (i := 7) sc_written_out.nd rfl (Or.inr rfl)) pgs_nil))))))
      (pss_one (ps_if (pt_cmpR op_isN (pv 5) pe_non (nomark _))
        (pss_one (ps_expr (pe_bm PySem.F.plainAttrs_list PySem.F.slot_list_append PySem.F.type_list_append mt_append (pv 3) (pa_cons (pe_tup (pa_cons (pv 4) (pa_cons (pv 6) (pa_cons (pv 7) pa_nil)))) pa_nil))))
        (pss_one (ps_expr (pe_bm PySem.F.plainAttrs_list PySem.F.slot_list_extend PySem.F.type_list_extend mt_extend (pv 3) (pa_cons (pe_lc (own := [("k", 8)]) rfl sc_written_out.nd (pi_range1 (by rfl) T.b_range (pa_cons (pv 5) pa_nil)) (blkOk_by (own := [("k", 8)]) (N := N_written_out) (sc := defScope s_written_out) (by decide +kernel)) (fun _ _ _ _ _ => (pg_name (i := 8) sc_written_out.nd rfl (Or.inl rfl))) (fun _ _ _ _ _ => pts_nil) (fun _ _ _ _ _ => (pe_tup (pa_cons (pe_joined (.cons (pe_fmt (pv 4)) (.cons pe_str (.cons (pe_fmt (pv 8)) .nil)))) (pa_cons (pv 6) (pa_cons (C8.pe_c c__values_of_copy hr (by first | decide | omega) rfl (pa_cons (pv 7) (pa_cons (pv 8) pa_nil))) pa_nil)))))) pa_nil)))))))
    (pss_one (ps_ret (pe_callTy call_tuple_of (by rfl) T.b_tuple (by decide +kernel) (pa_cons (pv 3) pa_nil))))))), ?_⟩
    obtain ⟨a, xs, rfl, ha, dxs⟩ := dp_tuple hv
    obtain ⟨v1, r1, rfl, d1, dr1⟩ := ds_cons dxs
    obtain ⟨v2, r2, rfl, d2, dr2⟩ := ds_cons dr1
    obtain rfl := ds_nil dr2
    refine ⟨_, rfl, a, _, rfl, same_seqT wo_le ha, rfl, _, _, rfl, _, _, rfl, rfl, ?_⟩
    -- things
    refine ⟨Nat.zero_le _, fun th nth => ?_⟩
    have B0 := (Bg.start (K := K) L).open_ nth
    have d2' : DpS K (th :: S) (upd H th (.lst [])) v2 (.tuple (Tr.items.map Im.d)) := dp_mono (wo_open nth) _ _ d2
    refine ⟨_, rfl, v2, "thing", Tr.items, th :: S, rfl, B0.live.al, d2', by have := hok.fewI; omega, fun D H1 ys s1 nD hD dys => ⟨D, rfl, ⟨_, SqL.of hD⟩, ?_⟩⟩
    have B1 := (B0.same s1).see hD (B0.live.free nD)
    have his : ∀ i ∈ (Tr.items.filter fun i => i.tag = Str.ofString "thing"), i.ok ∧ i.tag = Str.ofString "thing" := fun i hi => ⟨hok.items i (List.mem_filter.mp hi).1, of_decide_eq_true (List.mem_filter.mp hi).2⟩
    have hfl : (Tr.items.filter fun i => i.tag = Str.ofString "thing").length ≤ 5 := Nat.le_trans (List.length_filter_le _ _) hok.fewI
    have hwf := written_filter Tr.items
    generalize (Tr.items.filter fun i => decide (i.tag = Str.ofString "thing")) = is at dys his hfl hwf
    have lys : ys.length = is.length := by rw [dpAll_len dys, List.length_map]
    refine for_list (K := K) (a := D) (xs := ys) (fun i σ H' => ∃ (e1 e4 e5 e6 e7 e8 : Option V), σ = [some (.ref a), e1, some v2, some (.ref th), e4, e5, e6, e7, e8] ∧ Bg K t c cs H S [(th, ((is.take i).flatMap outs).map outD)] [(D, ys)] H' ∧ DsS K (th :: S) H' ys (is.map Im.d))
      ⟨some v1, none, none, none, none, none, rfl, B1, dys⟩ (fun i σ H' _ ⟨_, _, _, _, _, _, _, B, _⟩ => SqL.of (B.ro (D, ys) (List.mem_cons_self ..)).1) ?_ ?_
    · rintro i x σ H2 hx ⟨e1, e4, e5, e6, e7, e8, rfl, B2, dys2⟩
      have hi : i < ys.length := (List.getElem?_eq_some_iff.mp hx).1
      obtain ⟨x', d', hx1, hd1, hxd⟩ := dpAll_get dys2 hi
      rw [hx] at hx1
      cases hx1
      rw [List.getElem?_map] at hd1
      obtain ⟨p, hp⟩ : ∃ p, is[i]? = some p := ⟨_, List.getElem?_eq_getElem (by omega)⟩
      rw [hp] at hd1
      cases hd1
      have et : is.take (i + 1) = is.take i ++ [p] := by rw [List.take_add_one, hp]; rfl
      have hpm := his p (List.mem_of_getElem? hp)
      have hlen0 : ((is.take i).flatMap outs).length ≤ 15 := Nat.le_trans (flat_len fun z hz => (his z (List.mem_of_mem_take hz)).1) (by rw [List.length_take]; omega)
      obtain ⟨n, cnt, kd, vs, rfl⟩ := thing_tag p hpm.2
      obtain ⟨b, bs, rfl, hb, dbs⟩ := dp_tuple hxd
      obtain ⟨w1, q1, rfl, f1, fr1⟩ := ds_cons dbs
      obtain ⟨w2, q2, rfl, f2, fr2⟩ := ds_cons fr1
      obtain ⟨w3, q3, rfl, f3, fr3⟩ := ds_cons fr2
      obtain ⟨w4, q4, rfl, f4, fr4⟩ := ds_cons fr3
      obtain ⟨w5, q5, rfl, f5, fr5⟩ := ds_cons fr4
      obtain rfl := ds_nil fr5
      obtain rfl := dp_str f1
      obtain rfl := dp_str f2
      obtain rfl := dp_str f4
      have hok2 : (Im.thing n cnt kd vs).ok := hpm.1
      refine ⟨b, _, rfl, same_seqT wo_le hb, rfl, _, _, rfl, _, _, rfl, _, _, rfl, _, _, rfl, _, _, rfl, rfl, ?_⟩
      cases cnt with
      | none =>
        obtain rfl := dp_none f3
        refine ⟨_, rfl, rfl, _, rfl, iteT ?_⟩
        obtain ⟨xs0, hth0, _⟩ := B2.head
        refine ⟨_, rfl, .inl ⟨rfl, _, SqL.of hth0⟩, _, rfl, _, rfl, _, rfl, by show 3 ≤ sizeLine; decide, fun l nl => ?_⟩
        obtain ⟨B3, dl⟩ := B2.tup nl (.cons (.str n) (.cons (.str kd) (.cons f5 .nil)))
        obtain ⟨xs1, hth, _⟩ := B3.head
        have hxl : xs1.length ≤ 15 := by
          have := (B3.op _ (List.mem_cons_self ..)).1.len hth
          rw [this, List.length_map]; exact hlen0
        refine ⟨th, xs1, _, rfl, rfl, hth, Nat.lt_of_le_of_lt (Nat.le_trans hxl (by decide : 15 ≤ 100)) (by decide), _, _, _, _, _, _, rfl, ?_, ?_⟩
        · rw [et, List.flatMap_append, List.map_append]
          exact B3.snoc hth dl
        · exact dsS_out ((Out.upd_new nl).trans (.upd_in (List.mem_cons_self ..))) dys2
      | some m =>
        obtain rfl := dp_int f3
        have hm := cnt_small hok2.2.1
        refine ⟨_, rfl, rfl, _, rfl, iteF ?_⟩
        obtain ⟨xs0, hth0, _⟩ := B2.head
        refine ⟨_, rfl, .inl ⟨rfl, _, SqL.of hth0⟩, _, rfl, m, rfl, by omega, by omega, fun E1 nE => lc_range (lo := 0) (n := m.toNat) (fun j H' => Bg K t c cs H S [(E1, ((List.range j).map fun k : Nat => (n ++ Str.ofString "." ++ numS (k : Int), kd, vs.map fun p => (p.1, copyV (k : Int) p.2))).map outD), (th, ((is.take i).flatMap outs).map outD)] [(D, ys)] H' ∧
            DsS K (E1 :: th :: S) H' ys (is.map Im.d) ∧ DpS K (E1 :: th :: S) H' w5 (.tuple (vs.map valD)))
          ⟨B2.open_ nE, dpAll_mono (wo_open nE) _ _ dys2, dp_mono (wo_open nE) _ _ f5⟩ ?_ ?_⟩
        · rintro j H3 hj ⟨B3, dys3, f53⟩
          rw [Int.zero_add]
          have hj3 : (j : Int) < 3 := by omega
          have hnl := names_short n hok2.1
          have hll := num_len (k := (j : Int)) (by omega) (by omega)
          refine ⟨rfl, _, rfl, .inl ⟨n, rfl, Nat.le_trans hnl (by decide), n, rfl, ?_, Str.ofString ".", rfl, ?_, _, rfl, .inr ⟨_, rfl, small_log (by omega) (by omega), Str.ofString (toString (j : Int)), rfl, ?_, ?_⟩⟩⟩
          · rw [empty_append]
            exact Nat.le_trans hnl (by decide)
          · rw [empty_append, app_len, dot_len]
            exact Nat.le_trans (show n.length + 1 ≤ 2000 by omega) (by decide)
          · rw [empty_append, app_len, app_len, dot_len]
            exact Nat.le_trans (show n.length + 1 + (numS (j : Int)).length ≤ 2000 by omega) (by decide)
          rw [copy_name]
          refine ⟨_, rfl, _, rfl, _, rfl, w5, _, vs, E1 :: th :: S, rfl, B3.live.al, f53, by have := hok2.2.2.2.2; omega, fun p hp => (hok2.2.2.2.1 p hp).2.short, by omega, by omega, fun v' H4 s4 d4 => ⟨by show 3 ≤ sizeLine; decide, fun l nl => ?_⟩⟩
          have B4 := B3.same s4
          obtain ⟨B5, dl⟩ := B4.tup nl (.cons (.str (n ++ Str.ofString "." ++ numS (j : Int))) (.cons (.str kd) (.cons d4 .nil)))
          obtain ⟨xs1, hE, _⟩ := B5.head
          have hxl : xs1.length = j := by
            have := (B5.op _ (List.mem_cons_self ..)).1.len hE
            rw [this, List.length_map, List.length_map, List.length_range]
          refine ⟨xs1, hE, Nat.lt_of_le_of_lt (show xs1.length ≤ 100 by omega) (by decide), ?_, ?_, ?_⟩
          · rw [List.range_succ, List.map_append, List.map_append]
            exact B5.snoc hE dl
          · exact dsS_out (((Out.of_same s4).trans (.upd_new nl)).trans (.upd_in (List.mem_cons_self ..))) dys3
          · exact dpS_out (((Out.of_same s4).trans (.upd_new nl)).trans (.upd_in (List.mem_cons_self ..))) f53
        · rintro H3 ⟨B3, dys3, f53⟩
          obtain ⟨xs1, hE, dE⟩ := B3.head
          have B4 := B3.close
          obtain ⟨xs2, hth, _⟩ := B4.head
          have hxl : xs2.length ≤ 15 := by
            have := (B4.op _ (List.mem_cons_self ..)).1.len hth
            rw [this, List.length_map]; exact hlen0
          have hxe : xs1.length ≤ 3 := by
            have := dpAll_len dE
            rw [this, List.length_map, List.length_map, List.length_range]
            omega
          refine ⟨th, E1, xs2, xs1, rfl, rfl, hth, hE, Nat.le_trans (show xs2.length + xs1.length ≤ 100 by omega) (by decide), _, _, _, _, _, _, rfl, ?_, ?_⟩
          · rw [et, List.flatMap_append, List.map_append]
            have e1 : [Im.thing n (some m) kd vs].flatMap outs = (List.range m.toNat).map fun k : Nat => (n ++ Str.ofString "." ++ numS (k : Int), kd, vs.map fun p => (p.1, copyV (k : Int) p.2)) := List.append_nil _
            rw [e1]
            exact B4.snocs hth (ds_close dE)
          · exact dsS_out (.upd_in (List.mem_cons_self ..)) (ds_close dys3)
    · rintro σ H2 ⟨e1, e4, e5, e6, e7, e8, rfl, B2, dys2⟩
      rw [lys, List.take_length, hwf] at B2
      obtain ⟨xs1, hth, dth⟩ := B2.head
      refine ⟨_, rfl, th, _, rfl, .inl ⟨SqL.of hth, fun l nl => ?_⟩⟩
      obtain ⟨B3, dl⟩ := (B2.close).tup nl (ds_close dth)
      exact q _ _ B3.live B3.out dl
end
end K04
namespace K04
open PySem PySem.Spec PyProof.Rows L2 LB
theorem okD_vl {x : Vl} : okD 1 x.d := by
  cases x <;> exact ⟨by simp, fun d hd => by simp at hd; rcases hd with rfl | hd <;> first | exact True.intro | (rcases hd with rfl | rfl <;> exact True.intro) | (subst hd; exact True.intro)⟩
theorem okD_val {p : Str × Vl} : okD 2 (valD p) := by
  refine ⟨by simp, fun d hd => ?_⟩
  rcases List.mem_cons.mp hd with rfl | hd
  · exact True.intro
  rw [List.mem_singleton.mp hd]
  exact okD_vl
theorem okD_out {x : Str × Str × List (Str × Vl)} (h : x.2.2.length ≤ 1000) : okD 4 (outD x) := by
  refine ⟨by simp, fun d hd => ?_⟩
  rcases List.mem_cons.mp hd with rfl | hd
  · exact True.intro
  rcases List.mem_cons.mp hd with rfl | hd
  · exact True.intro
  rw [List.mem_singleton.mp hd]
  refine ⟨by rw [List.length_map]; omega, fun d hd => ?_⟩
  obtain ⟨p, _, rfl⟩ := List.mem_map.mp hd
  exact okD_val
theorem outs_vals {i : Im} (h : i.ok) : ∀ x ∈ outs i, x.2.2.length ≤ 3 := by
  intro x hx
  cases i with
  | thing n c k vs =>
    cases c with
    | none =>
      rw [List.mem_singleton.mp hx]
      exact h.2.2.2.2
    | some m =>
      obtain ⟨j, _, rfl⟩ := List.mem_map.mp hx
      show (vs.map _).length ≤ 3
      rw [List.length_map]
      exact h.2.2.2.2
  | _ => cases hx
theorem okD_written {T : LB.Tree} (h : T.ok) : okD 5 (.tuple ((written T).map outD)) := by
  refine ⟨?_, fun d hd => ?_⟩
  · rw [List.length_map]
    have h1 := flat_len h.items
    have h2 := h.fewI
    show (T.items.flatMap outs).length ≤ _
    omega
  · obtain ⟨x, hx, rfl⟩ := List.mem_map.mp hd
    obtain ⟨i, hi, hx2⟩ := List.mem_flatMap.mp hx
    exact okD_out (Nat.le_trans (outs_vals (h.items i hi) x hx2) (by decide))
def spLaw (K : PySem.W.Frag) : Sp := fun vs H Q _ => ∃ (a : Addr) (ns : List Int), vs = [.ref a] ∧ SqL K H a (ns.map V.int) ∧ ns.length ≤ 63 ∧ ∀ H', Q (.bl true) H'
theorem live_start {t c : Addr} {cs : List Int} {H : Hp} (W : Tape t c cs H) : Live t c cs [t] H :=
  ⟨W, fun b hb => by
    obtain ⟨kvs, e, _⟩ := W.dc
    rw [List.mem_singleton.mp hb, e]
    exact (fun z => by cases z), List.mem_singleton.mpr rfl, fun q => W.ne (List.mem_singleton.mp q)⟩
section
variable {P : Program} {w : World} {K : PySem.W.Frag} {mg : Str → Option Value} {base : Heap}
theorem ok_law {f : Addr} {fd : FuncData} (F : Fun K "law" "law" s_law f fd) (T : Txt mg) (c__law_tape : C8.Cal P w K mg base 1 "_law_tape" (spTape K) []) (c__law_any_tree : C8.Cal P w K mg base 3 "_law_any_tree" (spAnyTree K) []) (c__law_copy_of : C8.Cal P w K mg base 2 "_law_copy_of" (spCopy K) [])
    (c_written_out : C8.Cal P w K mg base 3 "written_out" (spWritten K) []) (c__law_same : C8.Cal P w K mg base 12 "_law_same" (spSame K 5) []) : FnOk P w K mg base CX0 13 f fd ["script"] (spLaw K) := by
  refine F.ok sc_law (fun vs H Q E h => ?_) (fun cdv A outer s H vs Q E hr h => ?_)
  · obtain ⟨a, ns, rfl, _⟩ := h
    rfl
  · obtain ⟨sa, ns, rfl, hS, hlen, q⟩ := h
    refine ⟨_, (pss_cons (ps_set (i := 1) sc_law.nd rfl (Or.inl rfl) (C8.pe_c c__law_tape hr (by first | decide | omega) rfl (pa_cons (pv 0) pa_nil)))
    (pss_cons (ps_set (i := 2) sc_law.nd rfl (Or.inl rfl) (C8.pe_c c__law_any_tree hr (by first | decide | omega) rfl (pa_cons (pv 1) pa_nil)))
    (pss_cons (ps_set (i := 3) sc_law.nd rfl (Or.inl rfl) (pe_lst pa_nil))
    (C8.pss_cut (ps_for PassesOwn.never rfl (pi_tup (pe_ix ix_tup (pv 2) pe_int (fun _ _ => rfl))) (pg_name (i := 4) sc_law.nd rfl (Or.inl rfl))
      (pss_one (ps_if (PW.pt (pw_and (pt_cmpR op_eq (pe_ix ix_tup (pv 4) pe_int (fun _ _ => rfl)) pe_str (nomark _)) (pw_and1 (pt_cmpR op_isN (pe_ix ix_tup (pv 4) pe_int (fun _ _ => rfl)) pe_non (nomark _)))))
        (pss_one (ps_expr (pe_bm PySem.F.plainAttrs_list PySem.F.slot_list_append PySem.F.type_list_append mt_append (pv 3) (pa_cons (pe_tup (pa_cons (pe_ix ix_tup (pv 4) pe_int (fun _ _ => rfl)) (pa_cons (pe_ix ix_tup (pv 4) pe_int (fun _ _ => rfl)) (pa_cons (pe_ix ix_tup (pv 4) pe_int (fun _ _ => rfl)) pa_nil)))) pa_nil))))
        (pss_one (ps_if (pt_cmpR op_eq (pe_ix ix_tup (pv 4) pe_int (fun _ _ => rfl)) pe_str (nomark _))
          (pss_one (ps_for PassesOwn.never rfl (pi_range1 (by rfl) T.b_range (pa_cons (pe_ix ix_tup (pv 4) pe_int (fun _ _ => rfl)) pa_nil)) (pg_name (i := 5) sc_law.nd rfl (Or.inr rfl))
            (pss_cons (ps_set (i := 6) sc_law.nd rfl (Or.inl rfl) (pe_callTy call_tuple_of (by rfl) T.b_tuple (by decide +kernel) (pa_cons (pe_lc (g := (gTup K 2 (gCons (gName 7) (gCons (gName 8) gNil)))) (own := [("field", 7), ("value", 8)]) rfl sc_law.nd (pi_tup (pe_ix ix_tup (pv 4) pe_int (fun _ _ => rfl))) (blkOk_by (own := [("field", 7), ("value", 8)]) (N := N_law) (sc := defScope s_law) (by decide +kernel)) (fun _ _ _ _ _ => (pg_tup (by rfl) (pgs_cons (pg_name (i := 7) sc_law.nd rfl (Or.inl rfl)) (pgs_cons (pg_name (i := 8) sc_law.nd rfl (Or.inl rfl)) pgs_nil)))) (fun _ _ _ _ _ => pts_nil) (fun _ _ _ _ _ => (pe_tup (pa_cons (pv 7) (pa_cons (C8.pe_c c__law_copy_of hr (by first | decide | omega) rfl (pa_cons (pv 8) (pa_cons (pv 5) pa_nil))) pa_nil))))) pa_nil)))
            (pss_one (ps_expr (pe_bm PySem.F.plainAttrs_list PySem.F.slot_list_append PySem.F.type_list_append mt_append (pv 3) (pa_cons (pe_tup (pa_cons (pe_op op_add_str (pe_op op_add_str (pe_ix ix_tup (pv 4) pe_int (fun _ _ => rfl)) pe_str) (pe_callTy call_str_int (by rfl) T.b_str (by decide +kernel) (pa_cons (pv 5) pa_nil))) (pa_cons (pe_ix ix_tup (pv 4) pe_int (fun _ _ => rfl)) (pa_cons (pv 6) pa_nil)))) pa_nil)))))))
          pss_nil)))))
    (pss_one (ps_ret (C8.pe_c c__law_same hr (by first | decide | omega) rfl (pa_cons (C8.pe_c c_written_out hr (by first | decide | omega) rfl (pa_cons (pv 2) pa_nil)) (pa_cons (pe_callTy call_tuple_of (by rfl) T.b_tuple (by decide +kernel) (pa_cons (pv 3) pa_nil)) pa_nil))))))))), ?_⟩
    refine ⟨_, rfl, sa, ns, rfl, hS, hlen, fun t c cs H1 s1 nt nc W => ?_⟩
    refine ⟨_, rfl, t, c, cs, [t], rfl, live_start W, fun v Tr H2 hok L2' o2 dv => ?_⟩
    refine ⟨Nat.zero_le _, fun ex nex => ?_⟩
    have B0 := (Bg.start (K := K) L2').open_ nex
    have dv0 : DpS K [ex, t] (upd H2 ex (.lst [])) v Tr.d := dp_mono (wo_open nex) _ _ dv
    generalize upd H2 ex (.lst []) = H3 at B0 dv0 ⊢
    -- expected
    refine ⟨fun σ H' => ∃ (e4 e5 e6 e7 e8 : Option V), σ = [some (.ref sa), some (.ref t), some v, some (.ref ex), e4, e5, e6, e7, e8] ∧ Bg K t c cs H2 [t] [(ex, (Tr.items.flatMap outs).map outD)] [] H' ∧ DpS K [ex, t] H' v Tr.d, ?_, ?_⟩
    · have dv1 := dv0
      obtain ⟨a, xs, rfl, ha, dxs⟩ := dp_tuple dv1
      obtain ⟨v1, r1, rfl, d1, dr1⟩ := ds_cons dxs
      obtain ⟨v2, r2, rfl, d2, dr2⟩ := ds_cons dr1
      obtain ⟨ia, ys, rfl, hia, dys⟩ := dp_tuple d2
      have lys : ys.length = Tr.items.length := by rw [dpAll_len dys, List.length_map]
      refine ⟨_, rfl, a, _, _, _, rfl, rfl, same_seqT wo_le ha, atI_nat (j := 1) rfl, ia, rfl, ⟨_, same_seqT wo_le hia⟩, for_it (walk_tup (K := K) (a := ia) (xs := ys)) (fun i σ H' => ∃ (e4 e5 e6 e7 e8 : Option V), σ = [some (.ref sa), some (.ref t), some (.ref a), some (.ref ex), e4, e5, e6, e7, e8] ∧ Bg K t c cs H2 [t] [(ex, ((Tr.items.take i).flatMap outs).map outD)] [] H' ∧
          Out [ex, t] H3 H') ⟨none, none, none, none, none, rfl, B0, .refl⟩ (fun i σ H' _ ⟨_, _, _, _, _, _, _, o⟩ => same_seqT wo_le (same_seqT o.same hia)) ?_ ?_⟩
      · rintro i x σ H4 H5 hi ⟨e4, e5, e6, e7, e8, rfl, B1, o1⟩ ⟨rfl, hx⟩
        obtain ⟨p, hp⟩ : ∃ p, Tr.items[i]? = some p := ⟨_, List.getElem?_eq_getElem (by omega)⟩
        obtain ⟨x', d', hx1, hd1, hxd0⟩ := dpAll_get dys hi
        rw [hx] at hx1
        cases hx1
        rw [List.getElem?_map, hp] at hd1
        cases hd1
        have hxd : DpS K [ex, t] H5 x p.d := dpS_out o1 hxd0
        have et : Tr.items.take (i + 1) = Tr.items.take i ++ [p] := by rw [List.take_add_one, hp]; rfl
        have hpm := hok.items p (List.mem_of_getElem? hp)
        have hlen0 : ((Tr.items.take i).flatMap outs).length ≤ 15 := Nat.le_trans (flat_len fun z hz => hok.items z (List.mem_of_mem_take hz)) (by rw [List.length_take]; have := hok.fewI; omega)
        by_cases ht : p.tag = "thing"
        · obtain ⟨n, cnt, kd, vs, rfl⟩ := thing_tag p ht
          obtain ⟨b, bs, rfl, hb, dbs⟩ := dp_tuple hxd
          obtain ⟨w1, q1, rfl, f1, fr1⟩ := ds_cons dbs
          obtain ⟨w2, q2, rfl, f2, fr2⟩ := ds_cons fr1
          obtain ⟨w3, q3, rfl, f3, fr3⟩ := ds_cons fr2
          obtain ⟨w4, q4, rfl, f4, fr4⟩ := ds_cons fr3
          obtain ⟨w5, q5, rfl, f5, fr5⟩ := ds_cons fr4
          obtain rfl := ds_nil fr5
          obtain rfl := dp_str f1
          obtain rfl := dp_str f2
          obtain rfl := dp_str f4
          have hok2 : (Im.thing n cnt kd vs).ok := hpm
          have hb' : SqT K H5 b _ := same_seqT wo_le hb
          refine ⟨_, rfl, b, _, _, _, rfl, rfl, hb', atI_nat (j := 0) rfl, rfl, _, rfl, ?_⟩
          rw [tag_eq]
          refine iteT ⟨_, rfl, b, _, _, _, rfl, rfl, hb', atI_nat (j := 2) rfl, rfl, _, rfl, ?_⟩
          cases cnt with
          | none =>
            obtain rfl := dp_none f3
            refine iteT ?_
            obtain ⟨xs0, hth0, _⟩ := B1.head
            refine ⟨_, rfl, .inl ⟨rfl, _, SqL.of hth0⟩, _, rfl, b, _, _, _, rfl, rfl, hb', atI_nat (j := 1) rfl, _, rfl, b, _, _, _, rfl, rfl, hb', atI_nat (j := 3) rfl, _, rfl, b, _, _, _, rfl, rfl, hb', atI_nat (j := 4) rfl, by show 3 ≤ sizeLine; decide, fun l nl => ?_⟩
            obtain ⟨B3, dl⟩ := B1.tup nl (.cons (.str n) (.cons (.str kd) (.cons f5 .nil)))
            obtain ⟨xs1, hth, _⟩ := B3.head
            have hxl : xs1.length ≤ 15 := by
              have := (B3.op _ (List.mem_cons_self ..)).1.len hth
              rw [this, List.length_map]; exact hlen0
            refine ⟨ex, xs1, _, rfl, rfl, hth, Nat.lt_of_le_of_lt (Nat.le_trans hxl (by decide : 15 ≤ 100)) (by decide), _, _, _, _, _, rfl, ?_, ?_⟩
            · rw [et, List.flatMap_append, List.map_append]
              exact B3.snoc hth dl
            · exact (o1.trans (.upd_new nl)).trans (.upd_in (List.mem_cons_self ..))
          | some m =>
            obtain rfl := dp_int f3
            have hm := cnt_small hok2.2.1
            refine iteF ⟨_, rfl, b, _, _, _, rfl, rfl, hb', atI_nat (j := 0) rfl, rfl, _, rfl, ?_⟩
            rw [tag_eq]
            refine iteT ⟨_, rfl, b, _, _, _, rfl, rfl, hb', atI_nat (j := 2) rfl, m, rfl, by omega, by omega, for_range (n := m.toNat) (fun j σ H' => ∃ (e5 e6 e7 e8 : Option V), σ = [some (.ref sa), some (.ref t), some (.ref a), some (.ref ex), some (.ref b), e5, e6, e7, e8] ∧
                Bg K t c cs H2 [t] [(ex, (((Tr.items.take i).flatMap outs) ++ ((List.range j).map fun k : Nat => (n ++ Str.ofString "." ++ numS (k : Int), kd, vs.map fun p => (p.1, copyV (k : Int) p.2)))).map outD)] [] H' ∧ Out [ex, t] H3 H' ∧ Out [ex, t] H5 H')
              ⟨e5, e6, e7, e8, rfl, by simpa using B1, o1, .refl⟩ ?_ ?_⟩
            · rintro j σ H6 hj ⟨e5, e6, e7, e8, rfl, B3, o3, o5⟩
              rw [Int.zero_add]
              have hj3 : (j : Int) < 3 := by omega
              have hb6 : SqT K H6 b _ := same_seqT wo_le (same_seqT o5.same hb)
              obtain ⟨vb, zs0, rfl, hvb, dzs0⟩ := dp_tuple (dpS_out o5 f5)
              have lzs : zs0.length = vs.length := by rw [dpAll_len dzs0, List.length_map]
              have al6 := B3.live.al
              refine ⟨_, rfl, b, _, _, _, rfl, rfl, hb6, atI_nat (j := 4) rfl, vb, rfl, ⟨_, same_seqT wo_le hvb⟩, fun D nD => lc_it (walk_tup (K := K) (a := vb) (xs := zs0)) (fun m H' => Same H6 H' ∧ ∃ zs, H' D = some (.lst zs) ∧ DsS K (D :: ex :: t :: []) H' zs (((vs.take m).map fun p => (p.1, copyV (j : Int) p.2)).map valD))
                ⟨same_upd nD, [], upd_same, .nil⟩ (fun _ _ _ h => same_seqT h.1 (same_seqT wo_le hvb)) ?_ ?_⟩
              · rintro m x H7 H8 hm2 ⟨s7, zs, hD, dzs⟩ ⟨rfl, hxi⟩
                obtain ⟨p, hp⟩ : ∃ p, vs[m]? = some p := ⟨_, List.getElem?_eq_getElem (by omega)⟩
                obtain ⟨x', d', hx1, hd1, hxd2⟩ := dpAll_get dzs0 hm2
                rw [hxi] at hx1
                cases hx1
                rw [List.getElem?_map, hp] at hd1
                cases hd1
                have hxd3 : DpS K (D :: ex :: t :: []) H8 x (valD p) := by
                  have e1 : DpS K [ex, t] H6 x (valD p) := hxd2
                  have e2 := dp_mono (wo_open (o := .lst []) nD) _ _ e1
                  refine dp_mono ?_ _ _ e2
                  exact Out.same fun b o nb e => by
                    rw [upd_ne (fun q => nb (by rw [q]; exact List.mem_cons_self ..))] at e
                    exact s7 b o e
                obtain ⟨pb, bs, rfl, hpb, dbs⟩ := dp_tuple hxd3
                obtain ⟨v1, r1, rfl, d1, dr1⟩ := ds_cons dbs
                obtain rfl := dp_str d1
                obtain ⟨v2, r2, rfl, d2, dr2⟩ := ds_cons dr1
                obtain rfl := ds_nil dr2
                have al2 : Alive (D :: ex :: t :: []) H8 := (al6.same s7).cons hD
                refine ⟨pb, _, rfl, same_seqT wo_le hpb, rfl, _, _, rfl, _, _, rfl, rfl, ?_⟩
                refine ⟨rfl, _, rfl, _, rfl, _, rfl, v2, (j : Int), p.2, _, rfl, al2, d2, (hok2.2.2.2.1 p (List.mem_of_getElem? hp)).2.short, by omega, by omega, fun v' H9 s9 d9 => ⟨by show 2 ≤ sizeLine; decide, fun l nl => ?_⟩⟩
                have dl := dpS_tup (K := K) (xs := [.str p.1, v']) (ds := [.str p.1, (copyV (j : Int) p.2).d]) ((al2.same s9).new nl) upd_same (.cons (.str _) (.cons (dpS_same (same_upd nl) d9) .nil))
                have s10 := s9.trans (same_upd (o := .tup [.str p.1, v']) nl)
                refine ⟨zs, s10 _ _ hD, ?_, ?_, zs ++ [.ref l], upd_same, ?_⟩
                · have : zs.length ≤ 1000 := by
                    rw [dpAll_len dzs, List.length_map, List.length_map, List.length_take]
                    have := hok2.2.2.2.2
                    omega
                  exact Nat.lt_of_le_of_lt this (by decide)
                · exact fun b o e => by
                    rw [upd_ne (ne_of_none e nD)]
                    exact s10 b o (s7 b o e)
                · rw [List.take_add_one, hp, List.map_append, List.map_append]
                  refine dpAll_snoc (dsS_out ?_ dzs) (dpS_out ?_ dl)
                  · exact (Out.of_same s10).trans (.upd_in (List.mem_cons_self ..))
                  · exact .upd_in (List.mem_cons_self ..)
              · rintro H7 ⟨s7, zs, hD, dzs⟩
                rw [lzs, List.take_length] at dzs
                have B7 := B3.same s7
                refine ⟨D, zs, rfl, .inl ⟨SqL.of hD, fun l nl => ?_⟩⟩
                obtain ⟨B8, dl⟩ := B7.tup nl (ds_close dzs)
                have hb8 : SqT K (upd H7 l (.tup zs)) b _ := same_seqT (s7.trans (same_upd nl)) hb6
                obtain ⟨xs0, hth0, _⟩ := B8.head
                have hnl := names_short n hok2.1
                have hll := num_len (k := (j : Int)) (by omega) (by omega)
                refine ⟨_, rfl, .inl ⟨rfl, _, SqL.of hth0⟩, _, rfl, b, _, _, _, rfl, rfl, hb8, atI_nat (j := 1) rfl, _, _, rfl, rfl, ?_, _, rfl, _, rfl, small_log (by omega) (by omega), _, _, rfl, rfl, ?_, _, rfl, b, _, _, _, rfl, rfl, hb8, atI_nat (j := 3) rfl, _, rfl, by show 3 ≤ sizeLine; decide, fun l2 nl2 => ?_⟩
                · rw [dot_len]
                  exact Nat.le_trans (show n.length + 1 ≤ 2000 by omega) (by decide)
                · rw [app_len, dot_len]
                  exact Nat.le_trans (show n.length + 1 + (numS (j : Int)).length ≤ 2000 by omega) (by decide)
                obtain ⟨B9, dl2⟩ := B8.tup nl2 (.cons (.str (n ++ Str.ofString "." ++ numS (j : Int))) (.cons (.str kd) (.cons dl .nil)))
                obtain ⟨xs1, hth, _⟩ := B9.head
                have hxl : xs1.length ≤ 18 := by
                  have := (B9.op _ (List.mem_cons_self ..)).1.len hth
                  rw [this, List.length_map, List.length_append, List.length_map, List.length_range]
                  omega
                refine ⟨ex, xs1, _, rfl, rfl, hth, Nat.lt_of_le_of_lt (Nat.le_trans hxl (by decide : 18 ≤ 100)) (by decide), _, _, _, _, rfl, ?_, ?_, ?_⟩
                · have B10 := B9.snoc hth dl2
                  rw [List.map_append] at B10
                  rw [List.range_succ, List.map_append, List.map_append, List.map_append, ← List.append_assoc]
                  exact B10
                · exact o3.trans ((Out.of_same (s7.trans ((same_upd nl).trans (same_upd nl2)))).trans (.upd_in (List.mem_cons_self ..)))
                · exact o5.trans ((Out.of_same (s7.trans ((same_upd nl).trans (same_upd nl2)))).trans (.upd_in (List.mem_cons_self ..)))
            · rintro σ H6 ⟨e5, e6, e7, e8, rfl, B3, o3, o5⟩
              refine ⟨_, _, _, _, _, rfl, ?_, o3⟩
              rw [et, List.flatMap_append]
              have e1 : [Im.thing n (some m) kd vs].flatMap outs = (List.range m.toNat).map fun k : Nat => (n ++ Str.ofString "." ++ numS (k : Int), kd, vs.map fun p => (p.1, copyV (k : Int) p.2)) := List.append_nil _
              rw [e1]
              exact B3
        · obtain ⟨r, er⟩ := p.head
          rw [er] at hxd
          obtain ⟨b, bs, rfl, hb, dbs⟩ := dp_tuple hxd
          obtain ⟨w1, q1, rfl, f1, fr1⟩ := ds_cons dbs
          obtain rfl := dp_str f1
          have hb' : SqT K H5 b _ := same_seqT wo_le hb
          refine ⟨_, rfl, b, _, _, _, rfl, rfl, hb', atI_nat (j := 0) rfl, rfl, _, rfl, ?_⟩
          rw [tag_ne ht]
          refine iteF (iteF ⟨_, rfl, b, _, _, _, rfl, rfl, hb', atI_nat (j := 0) rfl, rfl, _, rfl, ?_⟩)
          rw [tag_ne ht]
          refine iteF ⟨_, _, _, _, _, rfl, ?_, o1⟩
          rw [et, List.flatMap_append]
          have e1 : [p].flatMap outs = [] := by
            rw [List.flatMap_cons, outs_else ht]; rfl
          rw [e1, List.append_nil]
          exact B1
      · rintro σ H4 ⟨e4, e5, e6, e7, e8, rfl, B1, o1⟩
        rw [lys, List.take_length] at B1
        exact ⟨_, _, _, _, _, rfl, B1, dpS_out o1 dv0⟩
    · rintro σ' H4 ⟨e4, e5, e6, e7, e8, rfl, B1, dv4⟩
      refine ⟨_, rfl, t, c, cs, [ex, t], v, Tr, rfl, B1.live, dv4, hok, fun v' H5 L5 o5 d5 => ?_⟩
      have B2 := B1.call L5 o5
      obtain ⟨xs1, hth, dth⟩ := B2.head
      refine ⟨_, rfl, ex, _, rfl, .inl ⟨SqL.of hth, fun l nl => ?_⟩⟩
      obtain ⟨B3, dl⟩ := (B2.close).tup nl (ds_close dth)
      exact ⟨v', .ref l, _, rfl, dpS_in (dpS_out (.upd_new nl) d5), dpS_in dl, okD_written hok, q _⟩
end
theorem all_mk {l : PySem.W.OpenLaw} {w : World} {K : PySem.W.Frag} {h : Heap} {mg : Str → Option Value} {fa : Addr} (X : K.In h) (G : h.Ns mainGlobals mg) (hfa : mg "law" = some (.ref fa))
    {f0 : Addr} {od0 an0 : Option Addr} {sl0 : Array (Option Value)} {oc0 kV0 dc0 pm0 cd0 ct0 : Value}
    (a0 : PySem.W.nsIn K mainGlobals "written_out" = some (some (.ref f0))) (l0 : K.lookup f0 = some ⟨oc0, od0, .func (PySem.W.fnOf "written_out" "written_out" (defArgs s_written_out) (defBody s_written_out) (defScope s_written_out) .none kV0 dc0 pm0 an0 cd0 ct0), sl0⟩) (c0 : PySem.W.codeIn K cd0 "written_out" = true) (k0 : PySem.W.keepIn K (.ref f0) = true)
    {f1 : Addr} {od1 an1 : Option Addr} {sl1 : Array (Option Value)} {oc1 kV1 dc1 pm1 cd1 ct1 : Value}
    (a1 : PySem.W.nsIn K mainGlobals "items_of" = some (some (.ref f1))) (l1 : K.lookup f1 = some ⟨oc1, od1, .func (PySem.W.fnOf "items_of" "items_of" (defArgs s_items_of) (defBody s_items_of) (defScope s_items_of) .none kV1 dc1 pm1 an1 cd1 ct1), sl1⟩) (c1 : PySem.W.codeIn K cd1 "items_of" = true) (k1 : PySem.W.keepIn K (.ref f1) = true)
    {f2 : Addr} {od2 an2 : Option Addr} {sl2 : Array (Option Value)} {oc2 kV2 dc2 pm2 cd2 ct2 : Value}
    (a2 : PySem.W.nsIn K mainGlobals "_values_of_copy" = some (some (.ref f2))) (l2 : K.lookup f2 = some ⟨oc2, od2, .func (PySem.W.fnOf "_values_of_copy" "_values_of_copy" (defArgs s__values_of_copy) (defBody s__values_of_copy) (defScope s__values_of_copy) .none kV2 dc2 pm2 an2 cd2 ct2), sl2⟩) (c2 : PySem.W.codeIn K cd2 "_values_of_copy" = true) (k2 : PySem.W.keepIn K (.ref f2) = true)
    {f3 : Addr} {od3 an3 : Option Addr} {sl3 : Array (Option Value)} {oc3 kV3 dc3 pm3 cd3 ct3 : Value}
    (a3 : PySem.W.nsIn K mainGlobals "_value_of_copy" = some (some (.ref f3))) (l3 : K.lookup f3 = some ⟨oc3, od3, .func (PySem.W.fnOf "_value_of_copy" "_value_of_copy" (defArgs s__value_of_copy) (defBody s__value_of_copy) (defScope s__value_of_copy) .none kV3 dc3 pm3 an3 cd3 ct3), sl3⟩) (c3 : PySem.W.codeIn K cd3 "_value_of_copy" = true) (k3 : PySem.W.keepIn K (.ref f3) = true)
    {f4 : Addr} {od4 an4 : Option Addr} {sl4 : Array (Option Value)} {oc4 kV4 dc4 pm4 cd4 ct4 : Value}
    (a4 : PySem.W.nsIn K mainGlobals "_law_tape" = some (some (.ref f4))) (l4 : K.lookup f4 = some ⟨oc4, od4, .func (PySem.W.fnOf "_law_tape" "_law_tape" (defArgs s__law_tape) (defBody s__law_tape) (defScope s__law_tape) .none kV4 dc4 pm4 an4 cd4 ct4), sl4⟩) (c4 : PySem.W.codeIn K cd4 "_law_tape" = true) (k4 : PySem.W.keepIn K (.ref f4) = true)
    {f5 : Addr} {od5 an5 : Option Addr} {sl5 : Array (Option Value)} {oc5 kV5 dc5 pm5 cd5 ct5 : Value}
    (a5 : PySem.W.nsIn K mainGlobals "_law_take" = some (some (.ref f5))) (l5 : K.lookup f5 = some ⟨oc5, od5, .func (PySem.W.fnOf "_law_take" "_law_take" (defArgs s__law_take) (defBody s__law_take) (defScope s__law_take) .none kV5 dc5 pm5 an5 cd5 ct5), sl5⟩) (c5 : PySem.W.codeIn K cd5 "_law_take" = true) (k5 : PySem.W.keepIn K (.ref f5) = true)
    {f6 : Addr} {od6 an6 : Option Addr} {sl6 : Array (Option Value)} {oc6 kV6 dc6 pm6 cd6 ct6 : Value}
    (a6 : PySem.W.nsIn K mainGlobals "_law_is_integer" = some (some (.ref f6))) (l6 : K.lookup f6 = some ⟨oc6, od6, .func (PySem.W.fnOf "_law_is_integer" "_law_is_integer" (defArgs s__law_is_integer) (defBody s__law_is_integer) (defScope s__law_is_integer) .none kV6 dc6 pm6 an6 cd6 ct6), sl6⟩) (c6 : PySem.W.codeIn K cd6 "_law_is_integer" = true) (k6 : PySem.W.keepIn K (.ref f6) = true)
    {f7 : Addr} {od7 an7 : Option Addr} {sl7 : Array (Option Value)} {oc7 kV7 dc7 pm7 cd7 ct7 : Value}
    (a7 : PySem.W.nsIn K mainGlobals "_law_same_items" = some (some (.ref f7))) (l7 : K.lookup f7 = some ⟨oc7, od7, .func (PySem.W.fnOf "_law_same_items" "_law_same_items" (defArgs s__law_same_items) (defBody s__law_same_items) (defScope s__law_same_items) .none kV7 dc7 pm7 an7 cd7 ct7), sl7⟩) (c7 : PySem.W.codeIn K cd7 "_law_same_items" = true) (k7 : PySem.W.keepIn K (.ref f7) = true)
    {f8 : Addr} {od8 an8 : Option Addr} {sl8 : Array (Option Value)} {oc8 kV8 dc8 pm8 cd8 ct8 : Value}
    (a8 : PySem.W.nsIn K mainGlobals "_law_same" = some (some (.ref f8))) (l8 : K.lookup f8 = some ⟨oc8, od8, .func (PySem.W.fnOf "_law_same" "_law_same" (defArgs s__law_same) (defBody s__law_same) (defScope s__law_same) .none kV8 dc8 pm8 an8 cd8 ct8), sl8⟩) (c8 : PySem.W.codeIn K cd8 "_law_same" = true) (k8 : PySem.W.keepIn K (.ref f8) = true)
    {f9 : Addr} {od9 an9 : Option Addr} {sl9 : Array (Option Value)} {oc9 kV9 dc9 pm9 cd9 ct9 : Value}
    (a9 : PySem.W.nsIn K mainGlobals "_law_value_of" = some (some (.ref f9))) (l9 : K.lookup f9 = some ⟨oc9, od9, .func (PySem.W.fnOf "_law_value_of" "_law_value_of" (defArgs s__law_value_of) (defBody s__law_value_of) (defScope s__law_value_of) .none kV9 dc9 pm9 an9 cd9 ct9), sl9⟩) (c9 : PySem.W.codeIn K cd9 "_law_value_of" = true) (k9 : PySem.W.keepIn K (.ref f9) = true)
    {f10 : Addr} {od10 an10 : Option Addr} {sl10 : Array (Option Value)} {oc10 kV10 dc10 pm10 cd10 ct10 : Value}
    (a10 : PySem.W.nsIn K mainGlobals "_law_any_tree" = some (some (.ref f10))) (l10 : K.lookup f10 = some ⟨oc10, od10, .func (PySem.W.fnOf "_law_any_tree" "_law_any_tree" (defArgs s__law_any_tree) (defBody s__law_any_tree) (defScope s__law_any_tree) .none kV10 dc10 pm10 an10 cd10 ct10), sl10⟩) (c10 : PySem.W.codeIn K cd10 "_law_any_tree" = true) (k10 : PySem.W.keepIn K (.ref f10) = true)
    {f11 : Addr} {od11 an11 : Option Addr} {sl11 : Array (Option Value)} {oc11 kV11 dc11 pm11 cd11 ct11 : Value}
    (a11 : PySem.W.nsIn K mainGlobals "_law_name" = some (some (.ref f11))) (l11 : K.lookup f11 = some ⟨oc11, od11, .func (PySem.W.fnOf "_law_name" "_law_name" (defArgs s__law_name) (defBody s__law_name) (defScope s__law_name) .none kV11 dc11 pm11 an11 cd11 ct11), sl11⟩) (c11 : PySem.W.codeIn K cd11 "_law_name" = true) (k11 : PySem.W.keepIn K (.ref f11) = true)
    {f12 : Addr} {od12 an12 : Option Addr} {sl12 : Array (Option Value)} {oc12 kV12 dc12 pm12 cd12 ct12 : Value}
    (a12 : PySem.W.nsIn K mainGlobals "_law_copy_of" = some (some (.ref f12))) (l12 : K.lookup f12 = some ⟨oc12, od12, .func (PySem.W.fnOf "_law_copy_of" "_law_copy_of" (defArgs s__law_copy_of) (defBody s__law_copy_of) (defScope s__law_copy_of) .none kV12 dc12 pm12 an12 cd12 ct12), sl12⟩) (c12 : PySem.W.codeIn K cd12 "_law_copy_of" = true) (k12 : PySem.W.keepIn K (.ref f12) = true)
    {f13 : Addr} {od13 an13 : Option Addr} {sl13 : Array (Option Value)} {oc13 kV13 dc13 pm13 cd13 ct13 : Value}
    (a13 : PySem.W.nsIn K mainGlobals "law" = some (some (.ref f13))) (l13 : K.lookup f13 = some ⟨oc13, od13, .func (PySem.W.fnOf "law" "law" (defArgs s_law) (defBody s_law) (defScope s_law) .none kV13 dc13 pm13 an13 cd13 ct13), sl13⟩) (c13 : PySem.W.codeIn K cd13 "law" = true) (k13 : PySem.W.keepIn K (.ref f13) = true)
    (z_len : PySem.W.nsIn K mainGlobals "len" = some none)
    (z_range : PySem.W.nsIn K mainGlobals "range" = some none)
    (z_abs : PySem.W.nsIn K mainGlobals "abs" = some none)
    (z_int : PySem.W.nsIn K mainGlobals "int" = some none)
    (z_str : PySem.W.nsIn K mainGlobals "str" = some none)
    (z_bool : PySem.W.nsIn K mainGlobals "bool" = some none)
    (z_tuple : PySem.W.nsIn K mainGlobals "tuple" = some none)
    (z_list : PySem.W.nsIn K mainGlobals "list" = some none)
    (z_dict : PySem.W.nsIn K mainGlobals "dict" = some none)
    (z_isinstance : PySem.W.nsIn K mainGlobals "isinstance" = some none)
    {t_NUMBERS : Tok} (y_NUMBERS : PySem.W.nsIn K mainGlobals "NUMBERS" = some (some (.int 4294967296 t_NUMBERS)))
    : ∃ fd : FuncData, (∀ (s : Shared) (v : Value), BindsTo s fd ⟨[v], []⟩ [("script", v)]) ∧ ∀ base : Heap, K.In base → base.Ns mainGlobals mg → FnOk l.prog w K mg base CX0 13 fa fd ["script"] (spLaw K) := by
  have e := hfa.symm.trans (PySem.W.mg_of X G a13)
  cases e
  have F_written_out := fun_mk (st := s_written_out) l0 c0 k0
  have b_written_out := F_written_out.binds (ps := ["tree"]) fun _ _ _ _ _ _ us hl => match us, hl with | [_], _ => rfl
  have g_written_out := PySem.W.mg_of X G a0
  have F_items_of := fun_mk (st := s_items_of) l1 c1 k1
  have b_items_of := F_items_of.binds (ps := ["items", "word"]) fun _ _ _ _ _ _ us hl => match us, hl with | [_, _], _ => rfl
  have g_items_of := PySem.W.mg_of X G a1
  have F__values_of_copy := fun_mk (st := s__values_of_copy) l2 c2 k2
  have b__values_of_copy := F__values_of_copy.binds (ps := ["values", "k"]) fun _ _ _ _ _ _ us hl => match us, hl with | [_, _], _ => rfl
  have g__values_of_copy := PySem.W.mg_of X G a2
  have F__value_of_copy := fun_mk (st := s__value_of_copy) l3 c3 k3
  have b__value_of_copy := F__value_of_copy.binds (ps := ["value", "k"]) fun _ _ _ _ _ _ us hl => match us, hl with | [_, _], _ => rfl
  have g__value_of_copy := PySem.W.mg_of X G a3
  have F__law_tape := fun_mk (st := s__law_tape) l4 c4 k4
  have b__law_tape := F__law_tape.binds (ps := ["script"]) fun _ _ _ _ _ _ us hl => match us, hl with | [_], _ => rfl
  have g__law_tape := PySem.W.mg_of X G a4
  have F__law_take := fun_mk (st := s__law_take) l5 c5 k5
  have b__law_take := F__law_take.binds (ps := ["tape", "many"]) fun _ _ _ _ _ _ us hl => match us, hl with | [_, _], _ => rfl
  have g__law_take := PySem.W.mg_of X G a5
  have F__law_is_integer := fun_mk (st := s__law_is_integer) l6 c6 k6
  have b__law_is_integer := F__law_is_integer.binds (ps := ["actual"]) fun _ _ _ _ _ _ us hl => match us, hl with | [_], _ => rfl
  have g__law_is_integer := PySem.W.mg_of X G a6
  have F__law_same_items := fun_mk (st := s__law_same_items) l7 c7 k7
  have b__law_same_items := F__law_same_items.binds (ps := ["actual", "expected"]) fun _ _ _ _ _ _ us hl => match us, hl with | [_, _], _ => rfl
  have g__law_same_items := PySem.W.mg_of X G a7
  have F__law_same := fun_mk (st := s__law_same) l8 c8 k8
  have b__law_same := F__law_same.binds (ps := ["actual", "expected"]) fun _ _ _ _ _ _ us hl => match us, hl with | [_, _], _ => rfl
  have g__law_same := PySem.W.mg_of X G a8
  have F__law_value_of := fun_mk (st := s__law_value_of) l9 c9 k9
  have b__law_value_of := F__law_value_of.binds (ps := ["tape", "field", "names"]) fun _ _ _ _ _ _ us hl => match us, hl with | [_, _, _], _ => rfl
  have g__law_value_of := PySem.W.mg_of X G a9
  have F__law_any_tree := fun_mk (st := s__law_any_tree) l10 c10 k10
  have b__law_any_tree := F__law_any_tree.binds (ps := ["tape"]) fun _ _ _ _ _ _ us hl => match us, hl with | [_], _ => rfl
  have g__law_any_tree := PySem.W.mg_of X G a10
  have F__law_name := fun_mk (st := s__law_name) l11 c11 k11
  have b__law_name := F__law_name.binds (ps := ["name", "number"]) fun _ _ _ _ _ _ us hl => match us, hl with | [_, _], _ => rfl
  have g__law_name := PySem.W.mg_of X G a11
  have F__law_copy_of := fun_mk (st := s__law_copy_of) l12 c12 k12
  have b__law_copy_of := F__law_copy_of.binds (ps := ["value", "number"]) fun _ _ _ _ _ _ us hl => match us, hl with | [_, _], _ => rfl
  have g__law_copy_of := PySem.W.mg_of X G a12
  have F_law := fun_mk (st := s_law) l13 c13 k13
  have T : Txt mg := {
    b_len := PySem.W.mg_none_of X G z_len, b_range := PySem.W.mg_none_of X G z_range, b_abs := PySem.W.mg_none_of X G z_abs, b_int := PySem.W.mg_none_of X G z_int, b_str := PySem.W.mg_none_of X G z_str, b_bool := PySem.W.mg_none_of X G z_bool, b_tuple := PySem.W.mg_none_of X G z_tuple, b_list := PySem.W.mg_none_of X G z_list, b_dict := PySem.W.mg_none_of X G z_dict, b_isinstance := PySem.W.mg_none_of X G z_isinstance, g_NUMBERS := ⟨_, PySem.W.mg_of X G y_NUMBERS, ⟨_, rfl⟩⟩ }
  refine ⟨PySem.W.fnOf "law" "law" (defArgs s_law) (defBody s_law) (defScope s_law) .none kV13 dc13 pm13 an13 cd13 ct13, fun s v => .of_eq rfl, fun base _ _ => ?_⟩

  have c1 : C8.Cal l.prog w K mg base 1 "_law_tape" (spTape K) [] := cal F__law_tape g__law_tape b__law_tape (ok__law_tape F__law_tape T.toBlt)
  have c2 : C8.Cal l.prog w K mg base 1 "_law_take" spTake [] := cal F__law_take g__law_take b__law_take (ok__law_take F__law_take T.toBlt)
  have c3 : C8.Cal l.prog w K mg base 2 "_law_value_of" (spValueOf K) [] := cal F__law_value_of g__law_value_of b__law_value_of (ok__law_value_of F__law_value_of T.toBlt c2)
  have c4 : C8.Cal l.prog w K mg base 3 "_law_any_tree" (spAnyTree K) [] := cal F__law_any_tree g__law_any_tree b__law_any_tree (ok__law_any_tree F__law_any_tree T.toBlt c2 c3)
  have c5 : C8.Cal l.prog w K mg base 1 "_law_name" spName [] := cal F__law_name g__law_name b__law_name (ok__law_name F__law_name T.toBlt)
  have c6 : C8.Cal l.prog w K mg base 2 "_law_copy_of" (spCopy K) [] := cal F__law_copy_of g__law_copy_of b__law_copy_of (ok__law_copy_of F__law_copy_of T.toBlt c5)
  have c7 : C8.Cal l.prog w K mg base 1 "_value_of_copy" (spCopy K) [] := cal F__value_of_copy g__value_of_copy b__value_of_copy (ok__value_of_copy F__value_of_copy T)
  have c8 : C8.Cal l.prog w K mg base 2 "_values_of_copy" (spValuesCopy K) [] := cal F__values_of_copy g__values_of_copy b__values_of_copy (ok__values_of_copy F__values_of_copy T c7)
  have c9 : C8.Cal l.prog w K mg base 1 "items_of" (spItemsOf K) [] := cal F_items_of g_items_of b_items_of (ok_items_of F_items_of T.toBlt)
  have c10 : C8.Cal l.prog w K mg base 3 "written_out" (spWritten K) [] := cal F_written_out g_written_out b_written_out (ok_written_out F_written_out T c9 c8)
  have c11 : C8.Cal l.prog w K mg base 12 "_law_same" (spSame K 5) [] := cal_same F__law_is_integer g__law_is_integer b__law_is_integer F__law_same_items g__law_same_items b__law_same_items F__law_same g__law_same b__law_same T.toBlt 5
  exact ok_law F_law T c1 c4 c6 c10 c11
end K04
open PySem PySem.W PyProof.Rows L2
set_option maxHeartbeats 0 in
theorem PySem.Challenge.cw_settledland_k04_things_written_out_holds : PySem.Challenge.rw_settledland_k04_things_written_out.Holds := by
  w_on; o_law; k_head; (case hw => w_witness2)
  k_fill
  refine L2.walk_of (l := PySem.Challenge.rw_settledland_k04_things_written_out) (n := 63) (k := 13) (x := "script") (CX := fun _ => L2.CX0) (sp := fun w => K04.spLaw _) rfl (by decide) rfl ⟨by decide, by decide, by decide⟩ (fun w h Y => PySem.W.kIn_of Y) ?F (fun _ _ a ns hl _ hS => ⟨a, ns, rfl, hS, hl, fun _ => rfl⟩) (fun _ _ _ _ _ h => h)
  case F =>
    intro w mg fa h KX G hmg
    refine' K04.all_mk KX G hmg ?a0 ?l0 ?c0 ?k0 ?a1 ?l1 ?c1 ?k1 ?a2 ?l2 ?c2 ?k2 ?a3 ?l3 ?c3 ?k3 ?a4 ?l4 ?c4 ?k4 ?a5 ?l5 ?c5 ?k5 ?a6 ?l6 ?c6 ?k6 ?a7 ?l7 ?c7 ?k7 ?a8 ?l8 ?c8 ?k8 ?a9 ?l9 ?c9 ?k9 ?a10 ?l10 ?c10 ?k10 ?a11 ?l11 ?c11 ?k11 ?a12 ?l12 ?c12 ?k12 ?a13 ?l13 ?c13 ?k13 ?z_len ?z_range ?z_abs ?z_int ?z_str ?z_bool ?z_tuple ?z_list ?z_dict ?z_isinstance ?y_NUMBERS
    (case a0 => k_is); (case l0 => k_is); (case c0 => k_is); (case k0 => k_is); (case a1 => k_is); (case l1 => k_is); (case c1 => k_is); (case k1 => k_is); (case a2 => k_is); (case l2 => k_is); (case c2 => k_is); (case k2 => k_is); (case a3 => k_is); (case l3 => k_is); (case c3 => k_is); (case k3 => k_is); (case a4 => k_is); (case l4 => k_is); (case c4 => k_is); (case k4 => k_is); (case a5 => k_is); (case l5 => k_is); (case c5 => k_is); (case k5 => k_is); (case a6 => k_is); (case l6 => k_is); (case c6 => k_is); (case k6 => k_is); (case a7 => k_is); (case l7 => k_is); (case c7 => k_is); (case k7 => k_is); (case a8 => k_is); (case l8 => k_is); (case c8 => k_is); (case k8 => k_is); (case a9 => k_is); (case l9 => k_is); (case c9 => k_is); (case k9 => k_is); (case a10 => k_is); (case l10 => k_is); (case c10 => k_is); (case k10 => k_is); (case a11 => k_is); (case l11 => k_is); (case c11 => k_is); (case k11 => k_is); (case a12 => k_is); (case l12 => k_is); (case c12 => k_is); (case k12 => k_is); (case a13 => k_is); (case l13 => k_is); (case c13 => k_is); (case k13 => k_is); (case z_len => k_is); (case z_range => k_is); (case z_abs => k_is); (case z_int => k_is); (case z_str => k_is); (case z_bool => k_is); (case z_tuple => k_is); (case z_list => k_is); (case z_dict => k_is); (case z_isinstance => k_is); (case y_NUMBERS => k_is)
