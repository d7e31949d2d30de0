import PyProof.Rows.All
import Wide.All
import OpenK.AllK
import Wide.FinOn
import HandS.ForMost
import HandS.IsInst
import HandS.StrMore
import HandS.Codes
import HandS.Walk
import HandS.FStr
import HandS.ReplaceList
import HandS.ForDict
import HandS.More
import HandS.Conv
import HandS.Iter
import KE.KUnpackStar
import HandS.DictTup
import HandS.SortRule
import KE.KDictPairs
import HandS.DictComp
import HandS.ForExc
import HandS.Deep
import HandS.ExcIs
import HandS.Zip
import HandS.ExcOwn
import HandS.TryOnly
import PySem.Challenge.RW_settledland_k07_outsides_of_looks
set_option Elab.async false
set_option linter.all false
set_option maxRecDepth 100000
set_option maxHeartbeats 4000000
/-! What all laws share: texts, heaps, data, the tape. -/
namespace LB
open PySem PySem.Spec PyProof.Rows L2
theorem beq_of {a b : Bool} (h : a = true ↔ b = true) : a = b := by
  cases a <;> cases b <;> simp_all
abbrev one (c : Nat) : V := .str ⟨#[c]⟩
abbrev txt (l : List Nat) : V := .str ⟨l.toArray⟩
theorem slen (l : List Nat) : (⟨l.toArray⟩ : Str).length = l.length := by simp [Str.length]
theorem stl (l : List Nat) : (⟨l.toArray⟩ : Str).cps.toList = l := by simp
theorem szl {n : Nat} (h : n ≤ 100000) : n ≤ sizeLine := Nat.le_trans h (by decide)
theorem szt {l : List Nat} (h : l.length ≤ 100000) : (⟨l.toArray⟩ : Str).length ≤ sizeLine := by
  rw [slen]; exact szl h
theorem at_txt {l : List Nat} {i c : Nat} (h : l[i]? = some c) : atI (⟨l.toArray⟩ : Str).cps.toList (i : Int) = some c := by
  rw [stl]; exact atI_nat h
theorem getD_of {l : List Nat} {i : Nat} (h : i < l.length) : ∃ c, l[i]? = some c := ⟨l[i], List.getElem?_eq_getElem h⟩
theorem same_seqT {K : PySem.W.Frag} {H H' : Hp} {a : Addr} {xs : List V} (e : Same H H') (h : SqT K H a xs) : SqT K H' a xs := by
  rcases h with (h | ⟨o, h⟩) | h
  · exact .inl (.inl (e _ _ h))
  · exact .inl (.inr ⟨o, e _ _ h⟩)
  · exact .inr h
mutual
theorem dp_mono {K : PySem.W.Frag} {H H' : Hp} (e : Same H H') : ∀ (d : PyData) (v : V), Dp K H v d → Dp K H' v d
  | .none, _, h => by cases h; exact .non
  | .bool b, _, h => by cases h; exact .bl b
  | .int i, _, h => by cases h; exact .int i
  | .str x, _, h => by cases h; exact .str x
  | .list ds, _, h => by
    cases h with
    | lst hs ha => exact .lst (e.seq hs) (dpAll_mono e ds _ ha)
  | .tuple ds, _, h => by
    cases h with
    | tup hs ha => exact .tup (same_seqT e hs) (dpAll_mono e ds _ ha)
  | .dict _, _, h => by cases h
theorem dpAll_mono {K : PySem.W.Frag} {H H' : Hp} (e : Same H H') : ∀ (ds : List PyData) (vs : List V), DpAll K H vs ds → DpAll K H' vs ds
  | [], _, h => by cases h; exact .nil
  | d :: ds, _, h => by
    cases h with
    | cons h1 h2 => exact .cons (dp_mono e d _ h1) (dpAll_mono e ds _ h2)
end
theorem dpAll_snoc {K : PySem.W.Frag} {H : Hp} : ∀ {vs : List V} {ds : List PyData} {v : V} {d : PyData}, DpAll K H vs ds → Dp K H v d → DpAll K H (vs ++ [v]) (ds ++ [d])
  | _, _, _, _, .nil, h => .cons h .nil
  | _, _, _, _, .cons a b, h => .cons a (dpAll_snoc b h)
theorem dpAll_len {K : PySem.W.Frag} {H : Hp} : ∀ {vs : List V} {ds : List PyData}, DpAll K H vs ds → vs.length = ds.length
  | _, _, .nil => rfl
  | _, _, .cons _ b => congrArg (· + 1) (dpAll_len b)
theorem dpAll_get {K : PySem.W.Frag} {H : Hp} : ∀ {vs : List V} {ds : List PyData} {i : Nat}, DpAll K H vs ds → i < vs.length → ∃ v d, vs[i]? = some v ∧ ds[i]? = some d ∧ Dp K H v d
  | _, _, _, .nil, h => absurd h (Nat.not_lt_zero _)
  | _, _, 0, .cons a _, _ => ⟨_, _, rfl, rfl, a⟩
  | _, _, i + 1, .cons _ b, h => dpAll_get (i := i) b (Nat.lt_of_succ_lt_succ h)
theorem same_upd {H : Hp} {p : Addr} {o : HO} (h : H p = none) : Same H (upd H p o) := fun b x e => by
  rw [upd_ne (ne_of_none e h)]
  exact e
theorem eq_one {c d : Nat} {s : Str} (h : s = ⟨#[d]⟩) : decide (one c = .str s) = decide (c = d) := by
  subst h
  refine decide_eq_decide.mpr ⟨fun e => ?_, fun e => by rw [e]⟩
  have e1 : (⟨#[c]⟩ : Str) = ⟨#[d]⟩ := V.str.inj e
  have e2 : ([c] : List Nat) = [d] := congrArg (fun z : Str => z.cps.toList) e1
  exact (List.cons.inj e2).1
/-! ### _law_same: equal data -/
def okD : Nat → PyData → Prop
  | _, .none => True
  | _, .bool _ => True
  | _, .int _ => True
  | _, .str _ => True
  | 0, .list _ => False
  | 0, .tuple _ => False
  | n + 1, .list ds => ds.length ≤ 1000000 ∧ ∀ d ∈ ds, okD n d
  | n + 1, .tuple ds => ds.length ≤ 1000000 ∧ ∀ d ∈ ds, okD n d
  | _, .dict _ => False
def spIsInt (K : PySem.W.Frag) : Sp := fun vs H Q _ => ∃ i : Int, vs = [.int i] ∧ Q (.bl true) H
def SqX (K : PySem.W.Frag) (H : Hp) (a : Addr) (xs : List V) : Prop := SqL K H a xs ∨ SqT K H a xs
def spItems (K : PySem.W.Frag) (n : Nat) : Sp := fun vs H Q _ => ∃ (a b : Addr) (xs ys : List V) (ds : List PyData), vs = [.ref a, .ref b] ∧ SqX K H a xs ∧ SqX K H b ys ∧ DpAll K H xs ds ∧ DpAll K H ys ds ∧ 0 < n ∧ ds.length ≤ 1000000 ∧ (∀ d ∈ ds, okD (n - 1) d) ∧ Q (.bl true) H
def spSame (K : PySem.W.Frag) (n : Nat) : Sp := fun vs H Q _ => ∃ (x y : V) (d : PyData), vs = [x, y] ∧ Dp K H x d ∧ Dp K H y d ∧ okD n d ∧ Q (.bl true) H
def tyN : PyData → String
  | .none => "NoneType" | .bool _ => "bool" | .int _ => "int" | .str _ => "str" | .list _ => "list" | .tuple _ => "tuple" | .dict _ => "dict"
theorem ty_d {K : PySem.W.Frag} {H : Hp} {v : V} {d : PyData} (h : Dp K H v d) : TyX K H v (.type (tyN d)) := by
  cases h with
  | non => exact .base .non
  | bl b => exact .base (.bl b)
  | int i => exact .base (.int i)
  | str x => exact .base (.str x)
  | lst hs _ =>
    rcases hs with (h | ⟨o, h⟩) | ⟨o, its, n, h, c, _⟩
    · exact .base (.lst h)
    · exact .base (.frz h)
    · exact .kList h c
  | tup hs _ =>
    rcases hs with (h | ⟨o, h⟩) | ⟨o, its, n, h, c, _⟩
    · exact .base (.tup h)
    · exact .fTuple h
    · exact .kTuple h c
theorem isi_test {K : PySem.W.Frag} {σ : L2.St} {H : Hp} {i : Nat} {x : V} {T t : String} {b : Bool} {R : Bool → Hp → Prop} (hs : σ[i]? = some (some x)) (ty : TyX K H x (.type t)) (h : kitB t T = some b) (q : R b H) :
    tB (tCB (rIsi K) (tCons (tVar i) (tCons (tC (.ty T)) tNil))) σ H R := ⟨_, hs, _, _, _, _, _, rfl, .ty _, ty, kit_ty h, _, rfl, q⟩
theorem isi_val {K : PySem.W.Frag} {σ : L2.St} {H : Hp} {i : Nat} {x : V} {T t : String} {b : Bool} {R : V → Hp → Prop} (hs : σ[i]? = some (some x)) (ty : TyX K H x (.type t)) (h : kitB t T = some b) (q : R (.bl b) H) :
    tCB (rIsi K) (tCons (tVar i) (tCons (tC (.ty T)) tNil)) σ H R := ⟨_, hs, _, _, _, _, _, rfl, .ty _, ty, kit_ty h, q⟩
theorem dec_self {α : Type} [DecidableEq α] (x : α) : decide (x = x) = true := decide_eq_true rfl
/-! ### the tape -/
abbrev kCells : Key := Sum.inr "cells"
abbrev kAt : Key := Sum.inr "at"
abbrev kLeft : Key := Sum.inr "left"
abbrev kSeed : Key := Sum.inr "seed"
abbrev kSalt : Key := Sum.inr "salt"
def tapeK (c : Addr) (at_ left seed salt : Int) : List (Key × V) := [(kCells, .ref c), (kAt, .int at_), (kLeft, .int left), (kSeed, .int seed), (kSalt, .int salt)]
section
variable {c : Addr} {a l s z x : Int}
theorem s_cells_at : ¬ Str.ofString "cells" = Str.ofString "at" := by decide +kernel
theorem s_cells_left : ¬ Str.ofString "cells" = Str.ofString "left" := by decide +kernel
theorem s_cells_seed : ¬ Str.ofString "cells" = Str.ofString "seed" := by decide +kernel
theorem s_cells_salt : ¬ Str.ofString "cells" = Str.ofString "salt" := by decide +kernel
theorem s_at_cells : ¬ Str.ofString "at" = Str.ofString "cells" := by decide +kernel
theorem s_at_left : ¬ Str.ofString "at" = Str.ofString "left" := by decide +kernel
theorem s_at_seed : ¬ Str.ofString "at" = Str.ofString "seed" := by decide +kernel
theorem s_at_salt : ¬ Str.ofString "at" = Str.ofString "salt" := by decide +kernel
theorem s_left_cells : ¬ Str.ofString "left" = Str.ofString "cells" := by decide +kernel
theorem s_left_at : ¬ Str.ofString "left" = Str.ofString "at" := by decide +kernel
theorem s_left_seed : ¬ Str.ofString "left" = Str.ofString "seed" := by decide +kernel
theorem s_left_salt : ¬ Str.ofString "left" = Str.ofString "salt" := by decide +kernel
theorem s_seed_cells : ¬ Str.ofString "seed" = Str.ofString "cells" := by decide +kernel
theorem s_seed_at : ¬ Str.ofString "seed" = Str.ofString "at" := by decide +kernel
theorem s_seed_left : ¬ Str.ofString "seed" = Str.ofString "left" := by decide +kernel
theorem s_seed_salt : ¬ Str.ofString "seed" = Str.ofString "salt" := by decide +kernel
theorem s_salt_cells : ¬ Str.ofString "salt" = Str.ofString "cells" := by decide +kernel
theorem s_salt_at : ¬ Str.ofString "salt" = Str.ofString "at" := by decide +kernel
theorem s_salt_left : ¬ Str.ofString "salt" = Str.ofString "left" := by decide +kernel
theorem s_salt_seed : ¬ Str.ofString "salt" = Str.ofString "seed" := by decide +kernel
theorem n1 : ¬ kCells = kAt := by decide +kernel
theorem n2 : ¬ kCells = kLeft := by decide +kernel
theorem n3 : ¬ kCells = kSeed := by decide +kernel
theorem n4 : ¬ kCells = kSalt := by decide +kernel
theorem n5 : ¬ kAt = kLeft := by decide +kernel
theorem n6 : ¬ kAt = kSeed := by decide +kernel
theorem n7 : ¬ kAt = kSalt := by decide +kernel
theorem n8 : ¬ kLeft = kSeed := by decide +kernel
theorem n9 : ¬ kLeft = kSalt := by decide +kernel
theorem n10 : ¬ kSeed = kSalt := by decide +kernel
theorem m5 : ¬ kLeft = kAt := by decide +kernel
theorem m6 : ¬ kSeed = kAt := by decide +kernel
theorem m7 : ¬ kSalt = kAt := by decide +kernel
theorem m8 : ¬ kSeed = kLeft := by decide +kernel
theorem m9 : ¬ kSalt = kLeft := by decide +kernel
theorem m10 : ¬ kSalt = kSeed := by decide +kernel
theorem v_cells : valV (tapeK c a l s z) kCells = some (.ref c) := valV_pos rfl
theorem v_at : valV (tapeK c a l s z) kAt = some (.int a) := by
  unfold tapeK
  rw [valV_neg n1, valV_pos rfl]
theorem v_left : valV (tapeK c a l s z) kLeft = some (.int l) := by
  unfold tapeK
  rw [valV_neg n2, valV_neg n5, valV_pos rfl]
theorem v_seed : valV (tapeK c a l s z) kSeed = some (.int s) := by
  unfold tapeK
  rw [valV_neg n3, valV_neg n6, valV_neg n8, valV_pos rfl]
theorem v_salt : valV (tapeK c a l s z) kSalt = some (.int z) := by
  unfold tapeK
  rw [valV_neg n4, valV_neg n7, valV_neg n9, valV_neg n10, valV_pos rfl]
theorem p_at : putK (tapeK c a l s z) kAt (.int x) = tapeK c x l s z := by
  unfold putK tapeK
  simp [s_cells_at, s_cells_left, s_cells_seed, s_cells_salt, s_at_cells, s_at_left, s_at_seed, s_at_salt, s_left_cells, s_left_at, s_left_seed, s_left_salt, s_seed_cells, s_seed_at, s_seed_left, s_seed_salt, s_salt_cells, s_salt_at, s_salt_left, s_salt_seed]
theorem p_left : putK (tapeK c a l s z) kLeft (.int x) = tapeK c a x s z := by
  unfold putK tapeK
  simp [s_cells_at, s_cells_left, s_cells_seed, s_cells_salt, s_at_cells, s_at_left, s_at_seed, s_at_salt, s_left_cells, s_left_at, s_left_seed, s_left_salt, s_seed_cells, s_seed_at, s_seed_left, s_seed_salt, s_salt_cells, s_salt_at, s_salt_left, s_salt_seed]
theorem p_salt : putK (tapeK c a l s z) kSalt (.int x) = tapeK c a l s x := by
  unfold putK tapeK
  simp [s_cells_at, s_cells_left, s_cells_seed, s_cells_salt, s_at_cells, s_at_left, s_at_seed, s_at_salt, s_left_cells, s_left_at, s_left_seed, s_left_salt, s_seed_cells, s_seed_at, s_seed_left, s_seed_salt, s_salt_cells, s_salt_at, s_salt_left, s_salt_seed]
theorem p_new : mergeK [] (tapeK c a l s z) = tapeK c a l s z := by
  unfold mergeK tapeK
  simp [putK, s_cells_at, s_cells_left, s_cells_seed, s_cells_salt, s_at_cells, s_at_left, s_at_seed, s_at_salt, s_left_cells, s_left_at, s_left_seed, s_left_salt, s_seed_cells, s_seed_at, s_seed_left, s_seed_salt, s_salt_cells, s_salt_at, s_salt_left, s_salt_seed]
theorem dg_cells {H : Hp} {t : Addr} (ht : H t = some (.dK (tapeK c a l s z))) : DGet H t (V.str "cells") (some (.ref c)) := by
  have h := DGet.k (k := kCells) ht
  rwa [v_cells] at h
theorem dg_at {H : Hp} {t : Addr} (ht : H t = some (.dK (tapeK c a l s z))) : DGet H t (V.str "at") (some (.int a)) := by
  have h := DGet.k (k := kAt) ht
  rwa [v_at] at h
theorem dg_left {H : Hp} {t : Addr} (ht : H t = some (.dK (tapeK c a l s z))) : DGet H t (V.str "left") (some (.int l)) := by
  have h := DGet.k (k := kLeft) ht
  rwa [v_left] at h
theorem dg_seed {H : Hp} {t : Addr} (ht : H t = some (.dK (tapeK c a l s z))) : DGet H t (V.str "seed") (some (.int s)) := by
  have h := DGet.k (k := kSeed) ht
  rwa [v_seed] at h
theorem dg_salt {H : Hp} {t : Addr} (ht : H t = some (.dK (tapeK c a l s z))) : DGet H t (V.str "salt") (some (.int z)) := by
  have h := DGet.k (k := kSalt) ht
  rwa [v_salt] at h
theorem dp_at {H : Hp} {t : Addr} (ht : H t = some (.dK (tapeK c a l s z))) : DPut H t (V.str "at") (.int x) (upd H t (.dK (tapeK c x l s z))) := by
  have h := DPut.k (k := kAt) (v := .int x) ht (by show 5 < sizeLine; decide)
  rwa [p_at] at h
theorem dp_left {H : Hp} {t : Addr} (ht : H t = some (.dK (tapeK c a l s z))) : DPut H t (V.str "left") (.int x) (upd H t (.dK (tapeK c a x s z))) := by
  have h := DPut.k (k := kLeft) (v := .int x) ht (by show 5 < sizeLine; decide)
  rwa [p_left] at h
theorem dp_salt {H : Hp} {t : Addr} (ht : H t = some (.dK (tapeK c a l s z))) : DPut H t (V.str "salt") (.int x) (upd H t (.dK (tapeK c a l s x))) := by
  have h := DPut.k (k := kSalt) (v := .int x) ht (by show 5 < sizeLine; decide)
  rwa [p_salt] at h
end
/-- a tape over these cells, its list at c -/
def TapeK (c : Addr) (cs : List Int) (kvs : List (Key × V)) : Prop :=
  ∃ (a l s z : Int), kvs = tapeK c a l s z ∧ 0 ≤ a ∧ a ≤ cs.length ∧ 0 ≤ l ∧ 0 ≤ s ∧ s < 2147483647
structure Tape (t c : Addr) (cs : List Int) (H : Hp) : Prop where
  dc : ∃ kvs, H t = some (.dK kvs) ∧ TapeK c cs kvs
  ls : H c = some (.lst (cs.map V.int))
  nn : ∀ x ∈ cs, 0 ≤ x
theorem Tape.ne {t c : Addr} {cs : List Int} {H : Hp} (T : Tape t c cs H) : c ≠ t := by
  obtain ⟨kvs, h, _⟩ := T.dc
  exact ne_of T.ls h (by intro z; cases z)
theorem Tape.new {t c : Addr} {cs : List Int} {H : Hp} {kvs : List (Key × V)} (T : Tape t c cs H) (h : TapeK c cs kvs) : Tape t c cs (upd H t (.dK kvs)) :=
  ⟨⟨kvs, upd_same, h⟩, by rw [upd_ne T.ne]; exact T.ls, T.nn⟩
/-- all but what stands at t stays -/
def SameX (t : Addr) (H H' : Hp) : Prop := ∀ b o, b ≠ t → H b = some o → H' b = some o
theorem SameX.of_same {t : Addr} {H H' : Hp} (h : Same H H') : SameX t H H' := fun b o _ e => h b o e
theorem SameX.trans {t : Addr} {H H1 H2 : Hp} (a : SameX t H H1) (b : SameX t H1 H2) : SameX t H H2 := fun x o n e => b x o n (a x o n e)
theorem SameX.upd {t : Addr} {H : Hp} {o : HO} : SameX t H (upd H t o) := fun b u n e => by rw [upd_ne n]; exact e
theorem upd_id {H : Hp} {t : Addr} {o : HO} (h : H t = some o) : upd H t o = H := by
  funext b
  by_cases hb : b = t
  · subst hb; rw [upd_same, h]
  · rw [upd_ne hb]
def spTape (K : PySem.W.Frag) : Sp := fun vs H Q _ => ∃ (a : Addr) (ns : List Int), vs = [.ref a] ∧ SqL K H a (ns.map V.int) ∧ ns.length ≤ 63 ∧
  ∀ (t c : Addr) (cs : List Int) (H' : Hp), Same H H' → H t = none → H c = none → Tape t c cs H' → Q (.ref t) H'
def spTake : Sp := fun vs H Q _ => ∃ (t c : Addr) (cs : List Int) (many : Int), vs = [.ref t, .int many] ∧ Tape t c cs H ∧ 0 < many ∧ many < 1000000 ∧
  ∀ (r : Int) (kvs : List (Key × V)), 0 ≤ r → r < many → TapeK c cs kvs → Q (.int r) (upd H t (.dK kvs))
def absI (n : Int) : Int := if n < 0 then -n else n
/-- the built-ins' names are the built-ins -/
structure Blt (mg : Str → Option Value) : Prop where
  b_len : mg "len" = none
  b_range : mg "range" = none
  b_abs : mg "abs" = none
  b_int : mg "int" = none
  b_str : mg "str" = none
  b_bool : mg "bool" = none
  b_tuple : mg "tuple" = none
  b_list : mg "list" = none
  b_dict : mg "dict" = none
  b_isinstance : mg "isinstance" = none
section
variable {P : Program} {w : World} {K : PySem.W.Frag} {mg : Str → Option Value} {base : Heap}
/-- a def by its body, as one that may be called by its name -/
theorem cal {x : Str} {st : Stmt} {f : Addr} {fd : FuncData} {ps : List Str} {k : Nat} {sp : Sp} (F : Fun K x x st f fd) (gf : mg x = some (.ref f)) (b : Binds K fd ps []) (G : FnOk P w K mg base CX0 k f fd ps sp) : C8.Cal P w K mg base k x sp [] :=
  ⟨f, fd, ps, [], G, gf, F.kp, b, .nil⟩
theorem sqx_len {X : Cx} {H : Hp} {a : Addr} {xs : List V} (h : SqX K H a xs) : SqL K H a xs ∨ SqT K H a xs := h
theorem ix_x {H : Hp} {a : Addr} {xs : List V} {i : Nat} {v : V} {R : V → Hp → Prop} (h : SqX K H a xs) (hv : xs[i]? = some v) (q : R v H) : rIx K (.ref a) (.int (i : Int)) H R := by
  rcases h with h | h
  · exact .inl ⟨a, xs, i, v, rfl, rfl, h, atI_nat hv, q⟩
  · exact .inr (.inl ⟨a, xs, i, v, rfl, rfl, h, atI_nat hv, q⟩)
end
/-! ### heaps but for some open objects -/
/-- the heap without what stands at S -/
def wo (S : List Addr) (H : Hp) : Hp := fun b => if b ∈ S then none else H b
theorem wo_some {S : List Addr} {H : Hp} {b : Addr} {o : HO} : wo S H b = some o ↔ b ∉ S ∧ H b = some o := by
  unfold wo
  by_cases h : b ∈ S
  · rw [if_pos h]
    exact ⟨fun e => (by cases e), fun e => absurd h e.1⟩
  · rw [if_neg h]
    exact ⟨fun e => ⟨h, e⟩, fun e => e.2⟩
/-- all that stands outside S stays -/
def Out (S : List Addr) (H H' : Hp) : Prop := ∀ b o, b ∉ S → H b = some o → H' b = some o
theorem Out.refl {S : List Addr} {H : Hp} : Out S H H := fun _ _ _ e => e
theorem Out.trans {S : List Addr} {H H1 H2 : Hp} (a : Out S H H1) (b : Out S H1 H2) : Out S H H2 := fun x o n e => b x o n (a x o n e)
theorem Out.of_same {S : List Addr} {H H' : Hp} (h : Same H H') : Out S H H' := fun b o _ e => h b o e
theorem Out.mono {S S' : List Addr} {H H' : Hp} (s : ∀ b ∈ S, b ∈ S') (h : Out S H H') : Out S' H H' := fun b o n e => h b o (fun q => n (s b q)) e
theorem Out.upd_in {S : List Addr} {H : Hp} {p : Addr} {o : HO} (h : p ∈ S) : Out S H (upd H p o) := fun b u n e => by
  rw [upd_ne (fun q => n (by rw [q]; exact h))]
  exact e
theorem Out.upd_new {S : List Addr} {H : Hp} {p : Addr} {o : HO} (h : H p = none) : Out S H (upd H p o) := .of_same (same_upd h)
theorem Out.same {S : List Addr} {H H' : Hp} (h : Out S H H') : Same (wo S H) (wo S H') := fun b o e => by
  obtain ⟨n, e⟩ := wo_some.mp e
  exact wo_some.mpr ⟨n, h b o n e⟩
theorem Out.free {S : List Addr} {H H' : Hp} {p : Addr} (h : Out S H H') (hp : p ∉ S) (e : H' p = none) : H p = none := by
  cases q : H p with
  | none => rfl
  | some o =>
    rw [h p o hp q] at e
    cases e
theorem wo_le {S : List Addr} {H : Hp} : Same (wo S H) H := fun _ _ e => (wo_some.mp e).2
theorem wo_anti {S S' : List Addr} {H : Hp} (s : ∀ b ∈ S', b ∈ S) : Same (wo S H) (wo S' H) := fun b o e => by
  obtain ⟨n, e⟩ := wo_some.mp e
  exact wo_some.mpr ⟨fun q => n (s b q), e⟩
/-- a new open object -/
theorem wo_open {S : List Addr} {H : Hp} {f : Addr} {o : HO} (h : H f = none) : Same (wo S H) (wo (f :: S) (upd H f o)) := fun b u e => by
  obtain ⟨n, e⟩ := wo_some.mp e
  have hb : b ≠ f := ne_of_none e h
  exact wo_some.mpr ⟨fun q => (List.mem_cons.mp q).elim hb n, by rw [upd_ne hb]; exact e⟩
theorem SameX.out {t : Addr} {H H' : Hp} (h : SameX t H H') : Out [t] H H' := fun b o n e => h b o (fun q => n (by rw [q]; exact List.mem_singleton.mpr rfl)) e
/-- what is open is there -/
def Alive (S : List Addr) (H : Hp) : Prop := ∀ b ∈ S, H b ≠ none
theorem Alive.new {S : List Addr} {H : Hp} {p : Addr} (a : Alive S H) (h : H p = none) : p ∉ S := fun q => a p q h
theorem Alive.cons {S : List Addr} {H : Hp} {p : Addr} {o : HO} (a : Alive S H) (h : H p = some o) : Alive (p :: S) H := fun b hb => by
  rcases List.mem_cons.mp hb with rfl | hb
  · rw [h]; exact fun z => by cases z
  · exact a b hb
theorem Alive.nil {H : Hp} : Alive [] H := fun _ h => by cases h
theorem Alive.upd {S : List Addr} {H : Hp} {p : Addr} {o : HO} (a : Alive S H) : Alive S (upd H p o) := fun b hb => by
  by_cases h : b = p
  · subst h; rw [upd_same]; exact fun z => by cases z
  · rw [upd_ne h]; exact a b hb
theorem Alive.out {S T : List Addr} {H H' : Hp} (a : Alive S H) (h : Out T H H') (t : ∀ b ∈ T, H' b ≠ none) : Alive S H' := fun b hb => by
  by_cases hT : b ∈ T
  · exact t b hT
  · cases e : H b with
    | none => exact absurd e (a b hb)
    | some o => rw [h b o hT e]; exact fun z => by cases z
/-- data outside the open objects -/
abbrev DpS (K : PySem.W.Frag) (S : List Addr) (H : Hp) (v : V) (d : PyData) : Prop := Dp K (wo S H) v d
abbrev DsS (K : PySem.W.Frag) (S : List Addr) (H : Hp) (vs : List V) (ds : List PyData) : Prop := DpAll K (wo S H) vs ds
section
variable {K : PySem.W.Frag} {S : List Addr} {H H' : Hp}
theorem dpS_tup {p : Addr} {xs : List V} {ds : List PyData} (np : p ∉ S) (h : H p = some (.tup xs)) (a : DsS K S H xs ds) : DpS K S H (.ref p) (.tuple ds) := .tup (SqT.of (wo_some.mpr ⟨np, h⟩)) a
theorem dpS_lst {p : Addr} {xs : List V} {ds : List PyData} (np : p ∉ S) (h : H p = some (.lst xs)) (a : DsS K S H xs ds) : DpS K S H (.ref p) (.list ds) := .lst (SqL.of (wo_some.mpr ⟨np, h⟩)) a
theorem dpS_out {v : V} {d : PyData} (h : Out S H H') (a : DpS K S H v d) : DpS K S H' v d := dp_mono h.same _ _ a
theorem dsS_out {vs : List V} {ds : List PyData} (h : Out S H H') (a : DsS K S H vs ds) : DsS K S H' vs ds := dpAll_mono h.same _ _ a
theorem dpS_in {v : V} {d : PyData} (a : DpS K S H v d) : Dp K H v d := dp_mono wo_le _ _ a
theorem dsS_in {vs : List V} {ds : List PyData} (a : DsS K S H vs ds) : DpAll K H vs ds := dpAll_mono wo_le _ _ a
theorem dp_all {v : V} {d : PyData} (a : Dp K H v d) : DpS K [] H v d := dp_mono (fun b o e => wo_some.mpr ⟨List.not_mem_nil, e⟩) _ _ a
/-- what data are -/
theorem dp_tuple {v : V} {ds : List PyData} (h : Dp K H v (.tuple ds)) : ∃ a xs, v = .ref a ∧ SqT K H a xs ∧ DpAll K H xs ds := by
  cases h with
  | tup a b => exact ⟨_, _, rfl, a, b⟩
theorem dp_list {v : V} {ds : List PyData} (h : Dp K H v (.list ds)) : ∃ a xs, v = .ref a ∧ SqL K H a xs ∧ DpAll K H xs ds := by
  cases h with
  | lst a b => exact ⟨_, _, rfl, a, b⟩
theorem dp_str {v : V} {x : Str} (h : Dp K H v (.str x)) : v = .str x := by cases h; rfl
theorem dp_int {v : V} {x : Int} (h : Dp K H v (.int x)) : v = .int x := by cases h; rfl
theorem dp_none {v : V} (h : Dp K H v .none) : v = .non := by cases h; rfl
theorem ds_nil {vs : List V} (h : DpAll K H vs []) : vs = [] := by cases h; rfl
theorem ds_cons {vs : List V} {d : PyData} {ds : List PyData} (h : DpAll K H vs (d :: ds)) : ∃ v r, vs = v :: r ∧ Dp K H v d ∧ DpAll K H r ds := by
  cases h with
  | cons a b => exact ⟨_, _, rfl, a, b⟩
end
end LB
/-! Rules that the layer lacks: a star in a target. -/
namespace L2
open PySem PySem.Spec PyProof.Rows
section
variable {X : Cx} {pos : Pos}
/-- a, b, *c = a tuple: n targets, the i-th with the star -/
def gStar (K : PySem.W.Frag) (n i : Nat) (t : TGs) : TG := fun v σ H Q => ∃ a xs, v = .ref a ∧ SqT K H a xs ∧ n ≤ xs.length + 1 ∧
  ∀ D, H D = none → t (xs.take i ++ [V.ref D] ++ (xs.drop i).drop (xs.length + 1 - n)) σ (upd H D (.lst ((xs.drop i).take (xs.length + 1 - n)))) Q
theorem vals_take {vs : List V} {us : List Value} (h : Vals vs us) : ∀ n, Vals (vs.take n) (us.take n) := by
  induction h with
  | nil => intro n; rw [List.take_nil, List.take_nil]; exact .nil
  | cons a b ih => intro n; cases n with
    | zero => exact .nil
    | succ n => exact .cons a (ih n)
theorem vals_drop {vs : List V} {us : List Value} (h : Vals vs us) : ∀ n, Vals (vs.drop n) (us.drop n) := by
  induction h with
  | nil => intro n; rw [List.drop_nil, List.drop_nil]; exact .nil
  | cons a b ih => intro n; cases n with
    | zero => exact .cons a b
    | succ n => exact ih n
theorem unpack_star {prog : Program} {w : World} {A : Around} {E : Value → Shared → Prop} {s : Shared} {l : Addr} {items : Array Value} {n i : Nat} {Q : List Value → Shared → Prop} (hl : IsTup s.heap l items) (hh : A.handled = none) (hi : i < n) (hn : n ≤ items.size + 1) (hz : items.size ≤ sizeLine)
    (h : ∀ (h' : Heap) (tk : Nat), (∀ b o, s.heap.get? b = some o → h'.get? b = some o) →
      Q (items.toList.take i ++ [.ref h'.objs.size] ++ (items.toList.drop i).drop (items.size + 1 - n)) { s with heap := h'.push (seqObj "list" ((items.toList.drop i).take (items.size + 1 - n)).toArray 0), toks := tk }) :
    wpAny (model prog w) A (unpackItems (.ref l) n (some i)) Q E s := by
  obtain ⟨o, ho, _⟩ := id hl
  have lS : l ≠ s.heap.objs.size := Nat.ne_of_lt (Heap.lt_size ho)
  unfold unpackItems notIterableAtAll
  refine wpAny_bind (wpAny_bind (wpAny_specialOf hl.typeIs slot_tuple_iter.lookup (wpAny_pure ?_)))
  rw [if_neg (by simp)]
  refine wpAny_bind (wpAny_holding (iter_tuple hl (wpAny_bind (wpAny_holding (draw_tuple lS i 0 _ _ ⟨_, Heap.get?_push_size _ rfl, rfl, rfl⟩ (hl.push _) (by omega) fun g it sb => ?_)))))
  have tg : IsTup g l items := (hl.push _).extBut sb.extBut lS
  rw [Nat.zero_add] at it
  obtain ⟨oi, hoi, _⟩ := id it
  obtain ⟨ol, hol, _⟩ := id tg
  have len1 : ((items.toList.drop 0).take i).length = i := by
    rw [List.drop_zero, List.length_take, Array.length_toList]
    omega
  have len2 : (items.toList.drop i).length = items.size - i := by rw [List.length_drop, Array.length_toList]
  rw [if_neg (by rw [len1]; exact Nat.lt_irrefl _)]
  refine wpAny_bind (wpAny_holding (PySem.W.kun_collect (s := { s with heap := g }) (T := "tuple_iterator") (.inr (.inr (.inr rfl))) (Walks.tuple (A := A.in1) hh s.heap.objs.size l lS items) (fun _ _ st => st.1.typeIs) (k := i) (by omega) ⟨it, tg⟩ (Heap.lt_size hoi) (Heap.lt_size hol) (fun g2 tk kp => ?_) hz))
  have keep : ∀ b o, s.heap.get? b = some o → g2.get? b = some o := fun b o e => by
    have nb : b ≠ s.heap.objs.size := Nat.ne_of_lt (Heap.lt_size e)
    exact kp b o nb (sb.extBut b o nb (Heap.get?_push_of_some _ e))
  have cut : (items.toList.drop i).length - (n - 1 - i) = items.size + 1 - n := by
    rw [len2]
    omega
  show wpAny _ _ (if (items.toList.drop i).length < n - 1 - i then _ else _) _ _ _
  rw [if_neg (by rw [len2]; omega)]
  refine wpAny_bind (wpAny_newList ?_ (by rw [List.length_take, len2]; omega))
  refine wpAny_pure ?_
  rw [List.drop_zero, cut]
  exact h g2 tk keep
theorem pg_star {es es0 : List Expr} {k : Nat} {t : TGs} {n i : Nat} (hc : X.calm = true) (h : PGs X es0 t) (he : (assignEach es X.env).map (·.2) = (assignEach es0 X.env).map (·.2) := by rfl)
    (hn : (assignEach es X.env).length = n := by rfl) (hst : (assignEach es X.env).findIdx? (·.1) = some i := by rfl) (hi : i < n := by decide) : PG X (.Tuple es k pos) (gStar X.K n i t) := by
  refine ⟨fun pins s σ H v u Q I r hw => ?_⟩
  obtain ⟨a, xs, rfl, hq, hl, hw⟩ := hw
  cases r
  obtain ⟨its, rv, ht, hz⟩ := I.tuple hq
  have el : its.toArray.size = xs.length := by simp [rv.length]
  rw [assign_Tuple]
  refine wpAny_bind (wpAny_standAt ?_)
  unfold unpack
  rw [hn, hst]
  refine wpAny_bind (wpAny_holding (unpack_star ht (I.ok.hd hc) hi (by rw [el]; exact hl) (by rw [el]; exact hz) fun h' tk kp => ?_))
  have I1 : Inv X pins σ H { s with heap := h', toks := tk } := I.kept (t' := tk) kp
  rw [el, List.toList_toArray]
  have rm := vals_take (vals_drop rv i) (xs.length + 1 - n)
  have ml : ((xs.drop i).take (xs.length + 1 - n)).length ≤ sizeLine := by
    rw [List.length_take, List.length_drop]
    omega
  have I2 : Inv X pins σ (upd H h'.objs.size (.lst ((xs.drop i).take (xs.length + 1 - n)))) { s with heap := h'.push (seqObj "list" ((its.drop i).take (xs.length + 1 - n)).toArray 0), toks := tk } :=
    I1.laid (t' := tk) (fun b o e => Heap.get?_push_of_some _ e) (Nat.le_refl _) (show ObjOk X.prog X.w _ _ _ (.lst _) from ⟨ml, _, 0, rm, Heap.get?_push_size _ rfl⟩)
  rw [he]
  exact h.run pins _ σ _ _ _ Q I2 (((vals_take rv i).append (.cons (show RelV (V.ref h'.objs.size) (Value.ref h'.objs.size) from rfl) .nil)).append (vals_drop (vals_drop rv i) _)) (hw _ (I1.hok.fresh (Nat.le_refl _)))
end
end L2
/-! sorted(d.items()) of a dict from ints to ints; sorted(d) of a dict whose keys are pairs of ints. -/
namespace L2
open PySem PySem.Spec PyProof.Rows L2.DX
def leP (e f : Int × Int) : Prop := e.1 < f.1 ∨ (e.1 = f.1 ∧ e.2 ≤ f.2)
def addrV : Value → Addr
  | .ref b => b
  | _ => 0
theorem lexB_le {e f : Int × Int} (h : SrtO.lexB f e = false) : leP e f := by
  have := SrtO.lexB_no.mp h
  unfold leP
  omega
section
variable {X : Cx} {pins : List (Addr × Obj)} {σ : St} {H : Hp} {s : Shared} {Q : VK}
/-- the list that sorted has filled is sorted: pairs of ints -/
theorem sort_tail {A : Around} {E : Value → Shared → Prop} {h' : Heap} {tk : Nat} {L : List Value} {k : Value → Int × Int} {R : Unit → Shared → Prop} {S : Shared} (eS : S = { s with heap := h'.push { cls := .type "list", data := .seq L.toArray }, toks := tk })
    (hz : L.length ≤ sizeLine) (hp : ∀ v ∈ L, Srt.IsPair h' v (k v).1 (k v).2)
    (fin : ∀ (out : List Value) (h3 : Heap), SrtO.Srtd (fun v u => SrtO.lexB (k v) (k u)) out → out.Perm L → (∀ b o, h'.get? b = some o → h3.get? b = some o) → (∃ n, h3.get? h'.objs.size = some (seqObj "list" out.toArray n)) → R () { s with heap := h3, toks := tk }) :
    wpAny (model X.prog X.w) A (call (.builtin "list.sort") [.ref h'.objs.size]) (fun _ s' => R () s') E S := by
  subst eS
  have at0 : (h'.push { cls := .type "list", data := .seq L.toArray }).get? h'.objs.size = some (seqObj "list" L.toArray 0) := Heap.get?_push_size _ rfl
  have kp : ∀ b o, h'.get? b = some o → (h'.push { cls := .type "list", data := .seq L.toArray }).get? b = some o := fun b o e => Heap.get?_push_of_some _ e
  generalize h'.push { cls := .type "list", data := .seq L.toArray } = h2 at at0 kp ⊢
  refine wpAny_call_entry slot_list_sort ⟨_, at0, rfl⟩ entry_list_sort (SrtO.list_sort_ord (s := { s with heap := h2, toks := tk }) (SrtO.swo_lex k) at0 hz (fun l2 => ?_) fun out h1 hb => ⟨.none, rfl, ?_⟩) (args_list_sort _)
  · refine SrtO.pairs_sortableO (s := { s with heap := h2, toks := tk }) (by omega) (fun v hv => (hp v hv).keeps fun b o e _ => kp b o e) fun o e c => ?_
    have e2 : some o = some (seqObj "list" L.toArray 0) := e.symm.trans at0
    cases e2
    exact absurd (Value.type.inj c) (by decide)
  · obtain ⟨n, hn⟩ := sortedHeap_at (vs := L) (out := out.toArray) at0
    refine fin out _ h1 hb.perm (fun b o e => ?_) ⟨n, by simpa using hn⟩
    have nb : b ≠ h'.objs.size := Nat.ne_of_lt (Heap.lt_size e)
    have e2 := kp b o e
    exact (sortedHeap_old nb (Heap.lt_size e2)).trans e2
theorem mt_itemsK : MtR X "dict.items" (fun x xs H Q => ∃ (a : Addr) (kvs : List (Key × V)), x = .ref a ∧ xs = [] ∧ H a = some (.dK kvs) ∧ ∀ p, H p = none → Q (.ref p) (upd H p (itemsO p a))) := by
  intro pins s σ H x xs v us Q I rx rxs h
  obtain ⟨a, kvs, rfl, rfl, ha, q⟩ := h
  cases rx; cases rxs
  obtain ⟨_, hd, _, _, o, es, ep, ho, hx, hdat, _⟩ := dk_of I.hok ha
  refine DT.callItems (ep := ep) hd ⟨o, ho, hx, hdat⟩ ⟨.ref s.heap.objs.size, _, ?_, rfl, q _ (I.hok.fresh (Nat.le_refl _))⟩
  exact I.laid (t' := s.toks) (fun b u e => Heap.get?_push_of_some _ e) (Nat.le_refl _) (itemsO_ok (Heap.get?_push_size _ rfl))
def itK (ks : List (Int × Int)) : List (Key × V) := ks.map fun e => (Sum.inl e.1, V.int e.2)
theorem pairs_at {P : Program} {w : World} : ∀ {es : List DictEntry} {vs : List (Key × Value)} {j : Nat} {en : DictEntry}, Pairs (mixKind P w) es vs → es[j]? = some en → ∃ v, vs[j]? = some v ∧ keyIs v.1 en.key = true ∧ en.val = v.2
  | _, _, _, _, .nil, e => by simp at e
  | _, _, 0, en, .cons h1 h2 _, e => by
    have e := Option.some.inj e
    subst e
    exact ⟨_, rfl, h1, h2⟩
  | _, _, j + 1, en, .cons _ _ h3, e => pairs_at (j := j) h3 e
theorem kv_at : ∀ {ks : List (Int × Int)} {vs : List (Key × Value)} {j : Nat} {v : Key × Value}, KV (itK ks) vs → vs[j]? = some v → ∃ e, ks[j]? = some e ∧ v.1 = Sum.inl e.1 ∧ RelV (.int e.2) v.2
  | [], _, _, _, h, e => by cases h; simp at e
  | k :: ks, _, 0, v, h, e => by
    cases h with
    | cons h1 h2 =>
      have e := Option.some.inj e
      subst e
      exact ⟨k, rfl, h1.1.symm, h1.2⟩
  | k :: ks, _, j + 1, v, h, e => by
    cases h with
    | cons h1 h2 => exact kv_at (j := j) h2 e
def lookA (as : List Addr) (ks : List (Int × Int)) (v : Value) : Int × Int := (((as.zip ks).find? fun z => decide (z.1 = addrV v)).map (·.2)).getD (0, 0)
theorem lookA_at : ∀ {as : List Addr} {ks : List (Int × Int)} {j : Nat} {b : Addr} {e : Int × Int}, as.Nodup → as[j]? = some b → ks[j]? = some e → lookA as ks (.ref b) = e
  | [], _, _, _, _, _, h, _ => by simp at h
  | _ :: _, [], _, _, _, _, _, h => by simp at h
  | a :: as, k :: ks, 0, b, e, _, h1, h2 => by
    have h1 := Option.some.inj h1
    have h2 := Option.some.inj h2
    subst h1 h2
    simp [lookA, addrV]
  | a :: as, k :: ks, j + 1, b, e, nd, h1, h2 => by
    rw [List.nodup_cons] at nd
    have hb : b ∈ as := List.mem_of_getElem? (i := j) h1
    have ne : ¬ a = b := fun q => nd.1 (by rw [q]; exact hb)
    have ih := lookA_at (j := j) nd.2 h1 h2
    unfold lookA at ih ⊢
    rw [List.zip_cons_cons, List.find?_cons_of_neg (by show ¬ decide (a = b) = true; simpa using ne)]
    exact ih
/-- sorted(v), v the view of the items of a dict from ints to ints -/
def rSortIK : List V → Hp → VK → Prop := fun vs H Q => ∃ (p a : Addr) (ks : List (Int × Int)), vs = [.ref p] ∧ H p = some (itemsO p a) ∧ H a = some (.dK (itK ks)) ∧
  ∀ (H' : Hp) (l : Addr) (ps : List (Addr × Int × Int)), (∀ b o, H b = some o → H' b = some o) → H l = none → (ps.map (·.2)).Perm ks → (ps.map (·.2)).Pairwise leP → H' l = some (.lst (ps.map fun z => V.ref z.1)) → (∀ z ∈ ps, H' z.1 = some (.tup [.int z.2.1, .int z.2.2])) → Q (.ref l) H'
theorem cr_sortedIK (hc : X.calm = true) : CallR X (.builtin "sorted") rSortIK := by
  intro pins s σ H xs us Q I r h
  obtain ⟨p, a, ks, rfl, hp, ha, q⟩ := h
  obtain rfl := Vals.ref1 r
  have view : s.heap.IsItemsView p a := (show ObjOk X.prog X.w H s.heap p (itemsO p a) from I.hok p _ hp).1
  obtain ⟨z, hd, vs, rel, o, es, ep, ho, hx, hdat, _, hpr, _⟩ := dk_of I.hok ha
  have l1 : es.toList.length = vs.length := hpr.length
  have l2 : (itK ks).length = vs.length := Paired.length rel
  unfold itK at l2
  rw [List.length_map] at l2
  rw [Array.length_toList] at l1
  have zk : ks.length ≤ sizeLine := by unfold itK at z; rw [List.length_map] at z; exact z
  refine DT.sortedI (es := es) (ep := ep) (I.ok.hd hc) view ⟨o, ho, hx, hdat⟩ (by omega) fun h' tk as hk hlt hl hG => ?_
  have lak : as.length = ks.length := by omega
  have nd : as.Nodup := List.Pairwise.imp (fun h => Nat.ne_of_lt h) hG.rise
  have pr : ∀ (j : Nat) (b : Addr), as[j]? = some b → ∃ (e : Int × Int) (t u : Tok), ks[j]? = some e ∧ h'.get? b = some { cls := .type "tuple", data := .seq #[Value.int e.1 t, Value.int e.2 u] } := by
    intro j b hj
    obtain ⟨en, he, hg⟩ := hG.pairs j b hj
    obtain ⟨v, hv, hk1, hk2⟩ := pairs_at hpr (by rw [Array.getElem?_toList]; exact he)
    obtain ⟨e, hke, e1, e2⟩ := kv_at rel hv
    rw [e1] at hk1
    obtain ⟨t, ht⟩ := Value.isInt_shape (k := e.1) (v := en.key) hk1
    obtain ⟨u, hu⟩ : ∃ u, v.2 = Value.int e.2 u := e2
    exact ⟨e, t, u, hke, by rw [hg, ht, hk2, hu]⟩
  have len : (as.map Value.ref).length ≤ sizeLine := by rw [List.length_map]; omega
  refine sort_tail (k := lookA as ks) (R := fun _ s' => EP X pins σ Q (.ref h'.objs.size) s') rfl len (fun v hv => ?_) fun out h3 hs hb kp hn => ?_
  · obtain ⟨b, hb, rfl⟩ := List.mem_map.mp hv
    obtain ⟨j, hj⟩ := List.mem_iff_getElem?.mp hb
    obtain ⟨e, t, u, hke, hg⟩ := pr j b hj
    rw [lookA_at nd hj hke]
    exact ⟨b, _, t, u, 0, rfl, hg, rfl, rfl⟩
  · obtain ⟨n, hn⟩ := hn
    have kS : ∀ b o, s.heap.get? b = some o → h3.get? b = some o := fun b o e => kp b o (hk b o e)
    have hn0 : H h'.objs.size = none := I.hok.fresh (Nat.le_of_lt hlt)
    have mem : ∀ v ∈ out, ∃ (j : Nat) (b : Addr) (e : Int × Int), v = .ref b ∧ as[j]? = some b ∧ ks[j]? = some e ∧ lookA as ks v = e := fun v hv => by
      obtain ⟨b, hb', rfl⟩ := List.mem_map.mp (hb.mem_iff.mp hv)
      obtain ⟨j, hj⟩ := List.mem_iff_getElem?.mp hb'
      obtain ⟨e, t, u, hke, hg⟩ := pr j b hj
      exact ⟨j, b, e, rfl, hj, hke, lookA_at nd hj hke⟩
    obtain ⟨zs, ez⟩ : ∃ zs : List (Addr × Int × Int), zs = out.map fun v => (addrV v, lookA as ks v) := ⟨_, rfl⟩
    have back : out = zs.map fun z => Value.ref z.1 := by
      rw [ez, List.map_map]
      refine (List.map_id _).symm.trans (List.map_congr_left fun v hv => ?_)
      obtain ⟨j, b, e, rfl, _⟩ := mem v hv
      rfl
    have hI1 : Inv X pins σ H { s with heap := h3, toks := tk } := I.kept (t' := tk) kS
    have zlen : (zs.map fun z => V.ref z.1).length ≤ sizeLine := by
      have e := hb.length_eq
      rw [List.length_map] at e
      rw [List.length_map, ez, List.length_map]
      omega
    have rv : Vals (zs.map fun z => V.ref z.1) out := by
      rw [back]
      exact vals_maps (fun z : Addr × Int × Int => V.ref z.1) (fun z => Value.ref z.1) zs fun _ _ => rfl
    have I2 : Inv X pins σ (upd H h'.objs.size (.lst (zs.map fun z => V.ref z.1))) { s with heap := h3, toks := tk } :=
      hI1.take (h' := h3) (t' := tk) (fun b ob _ e => e) (I.fpOk (Nat.le_of_lt hlt) hn0) ⟨zlen, out, n, rv, hn⟩
    obtain ⟨H2, I3, g, qt⟩ := takeT (P := fun b vs => ∃ (j : Nat) (e : Int × Int), as[j]? = some b ∧ ks[j]? = some e ∧ vs = [.int e.1, .int e.2]) I as _ I2 nd fun b hb' => by
      obtain ⟨j, hj⟩ := List.mem_iff_getElem?.mp hb'
      obtain ⟨e, t, u, hke, hg⟩ := pr j b hj
      have bl : s.heap.objs.size < b := hG.above b hb'
      have b3 := kp _ _ hg
      refine ⟨Nat.le_of_lt bl, ?_, _, ⟨j, e, hj, hke, rfl⟩, fun H2 => ⟨by show 2 ≤ sizeLine; decide, [Value.int e.1 t, Value.int e.2 u], .cons ⟨t, rfl⟩ (.cons ⟨u, rfl⟩ .nil), _, b3, rfl, 0, rfl⟩⟩
      rw [upd_ne (Nat.ne_of_lt (Heap.lt_size hg))]
      exact I.hok.fresh (Nat.le_of_lt bl)
    refine ⟨.ref h'.objs.size, H2, I3, rfl, q H2 _ zs (fun b o e => g b o (by rw [upd_ne (ne_of_none e hn0)]; exact e)) hn0 ?_ ?_ (g _ _ upd_same) fun z hz => ?_⟩
    · have e1 : zs.map (·.2) = out.map (lookA as ks) := by rw [ez, List.map_map]; rfl
      have e2 : (as.map Value.ref).map (lookA as ks) = ks := by
        rw [List.map_map]
        apply List.ext_getElem?
        intro j
        rw [List.getElem?_map]
        cases hj : as[j]? with
        | none =>
          have := List.getElem?_eq_none_iff.mp hj
          rw [List.getElem?_eq_none (by omega)]
          rfl
        | some b =>
          obtain ⟨e, t, u, hke, hg⟩ := pr j b hj
          rw [hke]
          exact congrArg some (lookA_at nd hj hke)
      have hm := hb.map (lookA as ks)
      rw [e2] at hm
      rw [e1]
      exact hm
    · have e1 : zs.map (·.2) = out.map (lookA as ks) := by rw [ez, List.map_map]; rfl
      rw [e1, List.pairwise_map]
      refine List.Pairwise.imp (fun h => lexB_le h) hs
    · rw [ez] at hz
      obtain ⟨v, hv, rfl⟩ := List.mem_map.mp hz
      obtain ⟨j, b, e, rfl, hj, hke, hlk⟩ := mem v hv
      obtain ⟨vs', ⟨j', e', hj', hke', rfl⟩, ht⟩ := qt b (List.mem_of_getElem? hj)
      have e3 : e' = e := by
        have := lookA_at nd hj' hke'
        rw [hlk] at this
        exact this.symm
      rw [hlk, ← e3]
      exact ht
end
end L2
/-! sorted(d), d a dict whose keys are pairs of ints. -/
namespace L2
open PySem PySem.Spec PyProof.Rows L2.DX
abbrev kPair (e : Int × Int) : List Key := [Sum.inl e.1, Sum.inl e.2]
def rSortTK : List V → Hp → VK → Prop := fun vs H Q => ∃ (d : Addr) (kvs : List (List Key × V)) (ks : List (Int × Int)), vs = [.ref d] ∧ H d = some (.dT kvs) ∧ kvs.map (·.1) = ks.map kPair ∧
  ∀ (l : Addr) (ps : List (Addr × Int × Int)), H l = none → (ps.map (·.2)).Perm ks → (ps.map (·.2)).Pairwise leP → (∀ z ∈ ps, H z.1 = some (.tup [.int z.2.1, .int z.2.2])) → Q (.ref l) (upd H l (.lst (ps.map fun z => V.ref z.1)))
section
variable {X : Cx}
theorem cr_sortedTK (hc : X.calm = true) : CallR X (.builtin "sorted") rSortTK := by
  intro pins s σ H xs us Q I r h
  obtain ⟨d, kvs, ks, rfl, hd, hks, q⟩ := h
  obtain rfl := Vals.ref1 r
  obtain ⟨z, lo, vs, rel, o, es, ep, ho, hx, hdat, hes, hn⟩ := dt_of I.hok hd
  have l1 : es.size = vs.length := size_of_entries hes
  have l2 : kvs.length = vs.length := Paired.length rel
  have l3 : kvs.length = ks.length := by
    have := congrArg List.length hks
    rwa [List.length_map, List.length_map] at this
  have key : ∀ (j : Nat) (en : DictEntry), es[j]? = some en → ∃ (b : Addr) (e : Int × Int), en.key = .ref b ∧ ks[j]? = some e ∧ H b = some (.tup [.int e.1, .int e.2]) := by
    intro j en he
    rw [entry_at hes j] at he
    cases hv : vs[j]? with
    | none => rw [hv] at he; cases he
    | some x =>
      rw [hv] at he
      have he : entryOfKey (tupleKind (mixKind X.prog X.w)) x = en := Option.some.inj he
      obtain ⟨p0, hp0, r1, r2, r3⟩ := pget rel hv
      have e1 : (kvs.map (·.1))[j]? = some p0.1 := by rw [List.getElem?_map, hp0]; rfl
      rw [hks, List.getElem?_map] at e1
      cases hk : ks[j]? with
      | none => rw [hk] at e1; cases e1
      | some e =>
        rw [hk] at e1
        have e1 : kPair e = p0.1 := Option.some.inj e1
        refine ⟨x.2.1, e, by rw [← he]; rfl, rfl, ?_⟩
        rw [← e1] at r2
        exact r2
  have pair_of : ∀ (b : Addr) (e : Int × Int) (h' : Heap), H b = some (.tup [.int e.1, .int e.2]) → (∀ b o, s.heap.get? b = some o → h'.get? b = some o) → Srt.IsPair h' (.ref b) e.1 e.2 := by
    intro b e h' hb kp
    obtain ⟨_, its, rv, ob, g1, g2, n, g3⟩ := (show ObjOk X.prog X.w H s.heap b (.tup [.int e.1, .int e.2]) from I.hok b _ hb)
    obtain ⟨u1, u2, rfl, ri, rj⟩ := vals2 rv
    obtain ⟨t1, rfl⟩ := ri
    obtain ⟨t2, rfl⟩ := rj
    exact ⟨b, ob, t1, t2, n, rfl, kp _ _ g1, g2, g3⟩
  refine Calls.call_function_entry kind_sorted plain_sorted entry_sorted (args_sorted1 _) ?_
  unfold Builtin.«sorted»
  refine wpAny_bind (m := checkCount "sorted" 1 1 _) (wpAny_pure ?_)
  refine wpAny_bind (PySem.W.kdu_collect (A := X.A.in1) (kdl_raw lo hx hdat) (I.ok.hd hc) ho (by omega) fun h' tk acc hk it => ?_)
  have la : acc.toList.length = ks.length := by rw [Array.length_toList, it.1]; omega
  have at_ : ∀ (j : Nat) (v : Value), acc.toList[j]? = some v → ∃ (b : Addr) (e : Int × Int), v = .ref b ∧ ks[j]? = some e ∧ H b = some (.tup [.int e.1, .int e.2]) := by
    intro j v hv
    obtain ⟨en, hen, rfl⟩ := it.2 j v (by rw [← Array.getElem?_toList]; exact hv)
    exact key j en hen
  -- what a value's pair is: by its tracked tuple
  obtain ⟨kf, hkf⟩ : ∃ kf : Value → Int × Int, ∀ (b : Addr) (e : Int × Int), H b = some (.tup [.int e.1, .int e.2]) → kf (.ref b) = e := by
    refine ⟨fun v => match H (addrV v) with | some (.tup [.int i, .int j]) => (i, j) | _ => (0, 0), fun b e hb => ?_⟩
    show (match H b with | some (.tup [.int i, .int j]) => (i, j) | _ => (0, 0)) = e
    rw [hb]
  have mem : ∀ v ∈ acc.toList, ∃ (j : Nat) (b : Addr) (e : Int × Int), v = .ref b ∧ acc.toList[j]? = some v ∧ ks[j]? = some e ∧ H b = some (.tup [.int e.1, .int e.2]) ∧ kf v = e := fun v hv => by
    obtain ⟨j, hj⟩ := List.mem_iff_getElem?.mp hv
    obtain ⟨b, e, rfl, he, hb⟩ := at_ j v hj
    exact ⟨j, b, e, rfl, hj, he, hb, hkf b e hb⟩
  refine wpAny_bind (wpAny_newList ?_ (by omega))
  refine wpAny_bind (wpAny_holding (wpAny_mono (sort_tail (X := X) (s := s) (h' := h') (tk := tk) (L := acc.toList) (k := kf) (R := fun _ s' => EP X pins σ Q (.ref h'.objs.size) s') rfl (by omega) (fun v hv => ?_) fun out h3 hs hb kp hn => ?_) (fun _ s' y => wpAny_pure ⟨_, rfl, y⟩) fun _ _ y => y))
  · obtain ⟨j, b, e, rfl, _, _, hb, hf⟩ := mem v hv
    rw [hf]
    exact pair_of b e h' hb hk
  · obtain ⟨n, hn⟩ := hn
    have kS : ∀ b o, s.heap.get? b = some o → h3.get? b = some o := fun b o e => kp b o (hk b o e)
    have mo : ∀ v ∈ out, ∃ (b : Addr) (e : Int × Int), v = .ref b ∧ H b = some (.tup [.int e.1, .int e.2]) ∧ kf v = e := fun v hv => by
      obtain ⟨j, b, e, e1, _, _, hb', hf⟩ := mem v (hb.mem_iff.mp hv)
      exact ⟨b, e, e1, hb', hf⟩
    obtain ⟨zs, ez⟩ : ∃ zs : List (Addr × Int × Int), zs = out.map fun v => (addrV v, kf v) := ⟨_, rfl⟩
    have back : out = zs.map fun z => Value.ref z.1 := by
      rw [ez, List.map_map]
      refine (List.map_id _).symm.trans (List.map_congr_left fun v hv => ?_)
      obtain ⟨b, e, rfl, _⟩ := mo v hv
      rfl
    have zlen : (zs.map fun z => V.ref z.1).length ≤ sizeLine := by
      have e := hb.length_eq
      rw [List.length_map, ez, List.length_map]
      omega
    have rv : Vals (zs.map fun z => V.ref z.1) out := by
      rw [back]
      exact vals_maps (fun z : Addr × Int × Int => V.ref z.1) (fun z => Value.ref z.1) zs fun _ _ => rfl
    have I1 : Inv X pins σ H { s with heap := h', toks := tk } := I.kept (t' := tk) hk
    refine ⟨.ref h'.objs.size, _, I1.laid (t' := tk) (o := .lst (zs.map fun z => V.ref z.1)) kp (Nat.le_refl _) ⟨zlen, out, n, rv, hn⟩, rfl, q _ zs (I1.hok.fresh (Nat.le_refl _)) ?_ ?_ fun z hz => ?_⟩
    · have e1 : zs.map (·.2) = out.map kf := by rw [ez, List.map_map]; rfl
      have e2 : acc.toList.map kf = ks := by
        apply List.ext_getElem?
        intro j
        rw [List.getElem?_map]
        cases hj : acc.toList[j]? with
        | none =>
          have := List.getElem?_eq_none_iff.mp hj
          rw [List.getElem?_eq_none (by omega)]
          rfl
        | some v =>
          obtain ⟨b, e, rfl, he, hb'⟩ := at_ j v hj
          rw [he]
          exact congrArg some (hkf b e hb')
      have hm := hb.map kf
      rw [e2] at hm
      rw [e1]
      exact hm
    · have e1 : zs.map (·.2) = out.map kf := by rw [ez, List.map_map]; rfl
      rw [e1, List.pairwise_map]
      exact List.Pairwise.imp (fun h => lexB_le h) hs
    · rw [ez] at hz
      obtain ⟨v, hv, rfl⟩ := List.mem_map.mp hz
      obtain ⟨b, e, rfl, hb', hf⟩ := mo v hv
      rw [hf]
      exact hb'
end
end L2
/-! Tuples that are known to be plain: dict(t); an empty dict seen as one whose keys are tuples. -/
namespace L2
open PySem PySem.Spec PyProof.Rows
section
variable {X : Cx} {pos : Pos} {es : List Expr} {t : TA}
/-- a plain tuple: no dict of its own -/
def PlT (H : Hp) (a : Addr) (xs : List V) : Prop := ∃ o : Obj, H a = some (.frz o (.tup xs)) ∧ o.dict = none
theorem PlT.sq {K : PySem.W.Frag} {H : Hp} {a : Addr} {xs : List V} (h : PlT H a xs) : SqT K H a xs := by
  obtain ⟨o, h, _⟩ := h
  exact .inl (.inr ⟨o, h⟩)
theorem PlT.same {H H' : Hp} {a : Addr} {xs : List V} (h : PlT H a xs) (k : ∀ b o, H b = some o → H' b = some o) : PlT H' a xs := by
  obtain ⟨o, h, n⟩ := h
  exact ⟨o, k _ _ h, n⟩
def tTupF (t : TA) : TE := fun σ H Q => t σ H fun xs H1 => xs.length ≤ sizeLine ∧ ∀ p o, H1 p = none → Obj.dict o = none → Q (.ref p) (upd H1 p (.frz o (.tup xs)))
theorem pe_tupF {x1 : Nat} (h : PA X es t) : PE X (.Tuple es x1 pos) (tTupF t) := by
  refine ⟨fun pins s σ H Q I hq => wpAny_Tuple_spliced (thn (h.run pos pins s σ H _ I hq) fun us s1 y => ?_)⟩
  obtain ⟨xs, H1, I1, r, z, q⟩ := y
  refine ⟨by rw [← r.length]; exact z, ?_⟩
  have e := Heap.get?_push_size (o := { cls := .type "tuple", data := .seq us.toArray }) s1.heap rfl
  exact ⟨.ref s1.heap.objs.size, _, I1.laid (t' := s1.toks) (o := .frz _ (.tup xs)) (fun b u q => Heap.get?_push_of_some _ q) (Nat.le_refl _) ⟨e, z, us, r, ⟨_, e, rfl, _, rfl⟩⟩, rfl, q _ _ (I1.hok.fresh (Nat.le_refl _)) rfl⟩
theorem call_tupleF : CallR X (.type "tuple") (fun xs H Q => ∃ p ys, xs = [.ref p] ∧ SqL X.K H p ys ∧ ∀ l o, H l = none → Obj.dict o = none → Q (.ref l) (upd H l (.frz o (.tup ys)))) := by
  intro pins s σ H xs us Q I r h
  obtain ⟨p, ys, rfl, hq, q⟩ := h
  obtain ⟨u, rfl, rx⟩ := vals1 r
  cases rx
  obtain ⟨its, rv, pl, hz⟩ := I.list hq
  have hl := rv.length
  refine call_tuple_list pl.isList (fun g kp => ?_) (by rw [List.size_toArray]; omega)
  have I1 : Inv X pins σ H { s with heap := g } := I.kept (t' := s.toks) kp
  have e := Heap.get?_push_size (o := { cls := .type "tuple", data := .seq its.toArray }) g rfl
  exact ⟨.ref g.objs.size, _, I1.laid (t' := s.toks) (o := .frz _ (.tup ys)) (fun b u q => Heap.get?_push_of_some _ q) (Nat.le_refl _) ⟨e, hz, its, rv, IsTup.new _ _⟩, rfl, q _ _ (I1.hok.fresh (Nat.le_refl _)) rfl⟩
theorem firsts {prs : List (Key × Value)} {ps : List Addr} {h : Heap} (hp : ∀ (j : Nat) (q : Key × Value), prs[j]? = some q → ∃ (b : Addr) (u : Value), ps[j]? = some b ∧ IsTup h b #[u, q.2] ∧ keyIs q.1 u = true) :
    ∃ us : List Value, us.length = prs.length ∧ ∀ (j : Nat) (q : Key × Value), prs[j]? = some q → ∃ (b : Addr) (u : Value), us[j]? = some u ∧ ps[j]? = some b ∧ IsTup h b #[u, q.2] ∧ keyIs q.1 u = true := by
  induction prs generalizing ps with
  | nil => exact ⟨[], rfl, fun j q e => by simp at e⟩
  | cons q prs ih =>
    obtain ⟨b, u, e1, e2, e3⟩ := hp 0 q rfl
    obtain ⟨us, hl, h2⟩ := ih (ps := ps.tail) fun j q' e => by
      obtain ⟨b', u', f1, f2, f3⟩ := hp (j + 1) q' e
      exact ⟨b', u', by rw [List.getElem?_tail]; exact f1, f2, f3⟩
    refine ⟨u :: us, congrArg (· + 1) hl, fun j q' e => ?_⟩
    cases j with
    | zero =>
      have e := Option.some.inj e
      subst e
      exact ⟨b, u, rfl, e1, e2, e3⟩
    | succ j =>
      obtain ⟨b', u', f1, f2, f3, f4⟩ := h2 j q' e
      rw [List.getElem?_tail] at f2
      exact ⟨b', u', f1, f2, f3, f4⟩
/-- dict(t), t a plain tuple of pairs -/
theorem call_dictPT (hc : X.calm = true) : CallR X (.type "dict") (fun xs H Q => ∃ (a : Addr) (ps : List Addr) (kvs : List (Key × V)), xs = [.ref a] ∧ PlT H a (ps.map V.ref) ∧ Paired (fun p kv => SqT X.K H p [kV kv.1, kv.2]) ps kvs ∧
    ∀ p, H p = none → Q (.ref p) (upd H p (.dK (mergeK [] kvs)))) := by
  intro pins s σ H xs us Q I r h
  obtain ⟨a, ps, kvs, rfl, ⟨o, ha, hd⟩, hp, q⟩ := h
  obtain ⟨u, rfl, rx⟩ := vals1 r
  cases rx
  obtain ⟨ho, hz, its, rv, o', ho', hcl, n, hdat⟩ := (show ObjOk X.prog X.w H s.heap a (.frz o (.tup (ps.map V.ref))) from I.hok a _ ha)
  have e0 : o' = o := Option.some.inj (ho'.symm.trans ho)
  subst e0
  have ei := refs_at rv
  subst ei
  rw [List.length_map] at hz
  obtain ⟨prs, rel, hl, hpr⟩ := pairs_of I hp
  obtain ⟨ks, hkl, hks⟩ := firsts hpr
  have lz : (ks.zip (prs.map (·.2))).length = ps.length := by rw [List.length_zip, List.length_map]; omega
  have at_ : ∀ (j : Nat) (k v : Value), (ks.zip (prs.map (·.2)))[j]? = some (k, v) → ∃ (b : Addr) (q : Key × Value), prs[j]? = some q ∧ q.2 = v ∧ ps[j]? = some b ∧ IsTup s.heap b #[k, v] ∧ keyIs q.1 k = true := by
    intro j k v e
    obtain ⟨e1, e2⟩ := List.getElem?_zip_eq_some.mp e
    rw [List.getElem?_map] at e2
    cases hq : prs[j]? with
    | none => rw [hq] at e2; cases e2
    | some q =>
      rw [hq] at e2
      have e2 : q.2 = v := Option.some.inj e2
      obtain ⟨b, u, f1, f2, f3, f4⟩ := hks j q hq
      rw [e1] at f1
      cases f1
      exact ⟨b, q, rfl, e2, f2, by rw [← e2]; exact f3, f4⟩
  refine PySem.call_dict_pairs (knd := mixKind X.prog X.w) (kvs := prs) (PairArg.tuple a (ps.map Value.ref).toArray (fun j => (ps[j]?).getD 0) (ks.zip (prs.map (·.2)))) (I.ok.hd hc) ⟨⟨o', n, ho, hcl, hd, hdat⟩, ?_, fun j k v e => ?_⟩ ⟨by omega, fun j k v e => ?_⟩ (by omega) fun h' tk hd' hk => ?_
  · rw [lz]; simp
  · obtain ⟨b, q, e1, e2, e3, e4, e5⟩ := at_ j k v e
    obtain ⟨ob, g1, g2, m, g3⟩ := e4
    refine ⟨?_, .inl ?_⟩
    · simp only [e3, Option.getD_some]
      simp [e3]
    · simp only [e3, Option.getD_some]
      exact ⟨ob, g1, g2, m, g3⟩
  · obtain ⟨b, q, e1, e2, e3, e4, e5⟩ := at_ j k v e
    exact ⟨q.1, by rw [e1, ← e2], e5⟩
  · have kp : ∀ b o, s.heap.get? b = some o → h'.get? b = some o := fun b o e => hk b o List.not_mem_nil e
    have hm : (s.heap.objs.size == sysModules) = false := beq_eq_false_iff_ne.mpr (Nat.ne_of_gt I.big)
    have hlen : (mergeK [] kvs).length ≤ sizeLine := by
      refine Nat.le_trans (length_mergeK kvs []) ?_
      rw [List.length_nil, Nat.zero_add, rel.length, hl]
      exact hz
    exact ⟨.ref s.heap.objs.size, _, I.laid (t' := tk) (o := .dK (mergeK [] kvs)) kp (Nat.le_refl _) ⟨hlen, hm, merged [] prs, KV.merge rel .nil, hd'⟩, rfl, q _ (I.hok.fresh (Nat.le_refl _))⟩
/-- a new empty dict, seen as one whose keys are tuples -/
def tAsT (te : TE) : TE := fun σ H Q => te σ H fun x H1 => ∃ d, x = .ref d ∧ H1 d = some (.dK []) ∧ Q x (upd H1 d (.dT []))
theorem pe_asT {e : Expr} {te : TE} (h : PE X e te) : PE X e (tAsT te) := by
  refine ⟨fun pins s σ H Q I hq => thn (h.run pins s σ H _ I hq) fun u s1 y => ?_⟩
  obtain ⟨x, H1, I1, r, d, rfl, hd, q⟩ := y
  cases r
  refine ⟨.ref d, _, ?_, rfl, q⟩
  obtain ⟨_, lo, vs, rel, o, es, ep, ho, hx, hdat, _, hp, _⟩ := dk_of I1.hok hd
  cases rel
  have ee : es.toList = [] := by
    cases hp' : es.toList with
    | nil => rfl
    | cons _ _ => rw [hp'] at hp; cases hp
  refine I1.write (e := d) (o := .dT []) (t' := s1.toks) (by rw [hd]; exact True.intro) (.inl rfl) (fun _ _ _ e => e) ⟨o, ho⟩ ⟨Nat.zero_le _, lo, [], .nil, o, es, ep, ho, hx, hdat, ?_, List.nodup_nil⟩
  rw [ee]
  rfl
end
end L2
/-! The outside: things, kinds, worlds; what stands in the heap. -/
namespace OW
open PySem PySem.Spec PyProof.Rows L2 LB
abbrev Tk := Int × Int
structure Th where
  id : Int
  kind : Str
  vals : List (Str × Option Int)
  ver : Int
  told : Int
  tok : Option Tk
abbrev FT := Str × Str × List Str
abbrev Kn := List (Str × List FT)
def oV : Option Int → V
  | none => .non
  | some n => .int n
/-! ### what is never written -/
def Imm : HO → Prop
  | .tup _ => True
  | .frz _ (.tup _) => True
  | _ => False
def Kp (H H' : Hp) : Prop := ∀ a o, Imm o → H a = some o → H' a = some o
theorem Kp.refl {H : Hp} : Kp H H := fun _ _ _ e => e
theorem Kp.trans {H1 H2 H3 : Hp} (a : Kp H1 H2) (b : Kp H2 H3) : Kp H1 H3 := fun x o i e => b x o i (a x o i e)
theorem Kp.of_same {H H' : Hp} (h : Same H H') : Kp H H' := fun a o _ e => h a o e
theorem Kp.new {H : Hp} {p : Addr} {o : HO} (h : H p = none) : Kp H (upd H p o) := .of_same (same_upd h)
theorem Kp.put {H : Hp} {p : Addr} {u o : HO} (h : H p = some u) (n : ¬ Imm u) : Kp H (upd H p o) := fun a x i e => by
  by_cases q : a = p
  · subst q
    rw [h] at e
    cases e
    exact absurd i n
  · rw [upd_ne q]; exact e
section
variable {K : PySem.W.Frag} {H H' : Hp}
theorem sq_kp {a : Addr} {xs : List V} (h : SqT K H a xs) (k : Kp H H') : SqT K H' a xs := by
  rcases h with (h | ⟨o, h⟩) | h
  · exact .inl (.inl (k _ _ trivial h))
  · exact .inl (.inr ⟨o, k _ _ trivial h⟩)
  · exact .inr h
theorem pl_kp {a : Addr} {xs : List V} (h : PlT H a xs) (k : Kp H H') : PlT H' a xs := by
  obtain ⟨o, h, n⟩ := h
  exact ⟨o, k _ _ trivial h, n⟩
theorem par_imp {α β : Type} {F G : α → β → Prop} (f : ∀ a b, F a b → G a b) : ∀ {xs : List α} {ys : List β}, Paired F xs ys → Paired G xs ys
  | _, _, .nil => .nil
  | _, _, .cons a b => .cons (f _ _ a) (par_imp f b)
theorem par_at {α β : Type} {F : α → β → Prop} : ∀ {xs : List α} {ys : List β} {i : Nat} {x : α}, Paired F xs ys → xs[i]? = some x → ∃ y, ys[i]? = some y ∧ F x y
  | _, _, _, _, .nil, e => by simp at e
  | _, _, 0, x, .cons a b, e => by
    have e := Option.some.inj e
    subst e
    exact ⟨_, rfl, a⟩
  | _, _, i + 1, x, .cons a b, e => par_at (i := i) b e
theorem par_at2 {α β : Type} {F : α → β → Prop} : ∀ {xs : List α} {ys : List β} {i : Nat} {y : β}, Paired F xs ys → ys[i]? = some y → ∃ x, xs[i]? = some x ∧ F x y
  | _, _, _, _, .nil, e => by simp at e
  | _, _, 0, y, .cons a b, e => by
    have e := Option.some.inj e
    subst e
    exact ⟨_, rfl, a⟩
  | _, _, i + 1, y, .cons a b, e => par_at2 (i := i) b e
theorem par_snoc {α β : Type} {F : α → β → Prop} : ∀ {xs : List α} {ys : List β} {x : α} {y : β}, Paired F xs ys → F x y → Paired F (xs ++ [x]) (ys ++ [y])
  | _, _, _, _, .nil, h => .cons h .nil
  | _, _, _, _, .cons a b, h => .cons a (par_snoc b h)
/-- one place of both changed -/
theorem par_set {α β : Type} {F : α → β → Prop} : ∀ {xs : List α} {ys : List β} {i : Nat} {x : α} {y : β}, Paired F xs ys → F x y → Paired F (xs.set i x) (ys.set i y)
  | _, _, _, _, _, .nil, _ => .nil
  | _, _, 0, _, _, .cons a b, h => .cons h b
  | _, _, i + 1, _, _, .cons a b, h => .cons a (par_set (i := i) b h)
theorem par_drop {α β : Type} {F : α → β → Prop} : ∀ {n : Nat} {xs : List α} {ys : List β}, Paired F xs ys → Paired F (xs.drop n) (ys.drop n)
  | 0, _, _, h => h
  | _ + 1, _, _, .nil => .nil
  | n + 1, _, _, .cons _ b => par_drop (n := n) b
/-! ### things -/
def TokAt (K : PySem.W.Frag) (H : Hp) (a : Addr) : Option Tk → Prop
  | none => SqT K H a []
  | some t => H a = some (.tup [.int t.1, .int t.2])
def ValsAt (K : PySem.W.Frag) (H : Hp) (va : Addr) (vals : List (Str × Option Int)) : Prop := ∃ ps : List Addr, PlT H va (ps.map V.ref) ∧ Paired (fun p (fv : Str × Option Int) => SqT K H p [.str fv.1, oV fv.2]) ps vals
def ThAt (K : PySem.W.Frag) (H : Hp) (a : Addr) (th : Th) : Prop := ∃ va ta, SqT K H a [.int th.id, .str th.kind, .ref va, .int th.ver, .int th.told, .ref ta] ∧ ValsAt K H va th.vals ∧ TokAt K H ta th.tok
theorem tok_kp {a : Addr} {t : Option Tk} (h : TokAt K H a t) (k : Kp H H') : TokAt K H' a t := by
  cases t with
  | none => exact sq_kp h k
  | some t => exact k _ _ trivial h
theorem vals_kp {a : Addr} {vals : List (Str × Option Int)} (h : ValsAt K H a vals) (k : Kp H H') : ValsAt K H' a vals := by
  obtain ⟨ps, h1, h2⟩ := h
  exact ⟨ps, pl_kp h1 k, par_imp (fun _ _ q => sq_kp q k) h2⟩
theorem th_kp {a : Addr} {th : Th} (h : ThAt K H a th) (k : Kp H H') : ThAt K H' a th := by
  obtain ⟨va, ta, h1, h2, h3⟩ := h
  exact ⟨va, ta, sq_kp h1 k, vals_kp h2 k, tok_kp h3 k⟩
/-- a things' dict, to be read -/
def ThsR (K : PySem.W.Frag) (H : Hp) (kvs : List (Key × V)) (ths : List Th) : Prop := Paired (fun (kv : Key × V) th => kv.1 = Sum.inl th.id ∧ ∃ a, kv.2 = .ref a ∧ ThAt K H a th) kvs ths
theorem ths_kp {kvs : List (Key × V)} {ths : List Th} (h : ThsR K H kvs ths) (k : Kp H H') : ThsR K H' kvs ths := par_imp (fun _ _ ⟨e, a, ea, q⟩ => ⟨e, a, ea, th_kp q k⟩) h
/-! ### kinds -/
def FldR (K : PySem.W.Frag) (H : Hp) (fvs : List (Key × V)) (fs : List FT) : Prop := Paired (fun (fv : Key × V) (f : FT) => fv.1 = Sum.inr f.1 ∧ ∃ a m, fv.2 = .ref a ∧ SqT K H a [.str f.2.1, .ref m] ∧ SqT K H m (f.2.2.map V.str)) fvs fs
theorem fld_kp {fvs : List (Key × V)} {fs : List FT} (h : FldR K H fvs fs) (k : Kp H H') : FldR K H' fvs fs := par_imp (fun _ _ ⟨e, a, m, ea, q, r⟩ => ⟨e, a, m, ea, sq_kp q k, sq_kp r k⟩) h
/-- kinds: a dict of dicts that nobody writes; ds: their places -/
structure KndAt (K : PySem.W.Frag) (H : Hp) (kd : Addr) (ds : List Addr) (kn : Kn) : Prop where
  top : ∃ kvs, H kd = some (.dK kvs) ∧ kvs = (kn.zip ds).map fun e => (Sum.inr e.1.1, V.ref e.2)
  len : ds.length = kn.length
  fld : ∀ (i : Nat) (d : Addr) (e : Str × List FT), ds[i]? = some d → kn[i]? = some e → ∃ fvs, H d = some (.dK fvs) ∧ FldR K H fvs e.2
theorem KndAt.out {kd : Addr} {ds : List Addr} {kn : Kn} (h : KndAt K H kd ds kn) (k : Kp H H') (h1 : H' kd = H kd) (h2 : ∀ d ∈ ds, H' d = H d) : KndAt K H' kd ds kn :=
  ⟨by rw [h1]; exact h.top, h.len, fun i d e a b => by
    obtain ⟨fvs, q, r⟩ := h.fld i d e a b
    exact ⟨fvs, by rw [h2 d (List.mem_of_getElem? a)]; exact q, fld_kp r k⟩⟩
theorem KndAt.same {kd : Addr} {ds : List Addr} {kn : Kn} (h : KndAt K H kd ds kn) (s : Same H H') : KndAt K H' kd ds kn :=
  ⟨by obtain ⟨kvs, q, r⟩ := h.top; exact ⟨kvs, s _ _ q, r⟩, h.len, fun i d e a b => by
    obtain ⟨fvs, q, r⟩ := h.fld i d e a b
    exact ⟨fvs, s _ _ q, fld_kp r (.of_same s)⟩⟩
/-! ### looking up -/
def kfind (kn : Kn) (k : Str) : Option (List FT) := (kn.find? fun e => decide (e.1 = k)).map (·.2)
def ffind (fs : List FT) (f : Str) : Option (Str × List Str) := (fs.find? fun e => decide (e.1 = f)).map (·.2)
def tfind (ths : List Th) (i : Int) : Option Th := ths.find? fun t => decide (t.id = i)
theorem valV_cons {κ : Type} [DecidableEq κ] {kv : κ × V} {kvs : List (κ × V)} {k : κ} : valV (kv :: kvs) k = if kv.1 = k then some kv.2 else valV kvs k := by
  by_cases h : kv.1 = k
  · rw [if_pos h]; exact valV_pos h
  · rw [if_neg h]; exact valV_neg h
theorem look_par {β κ : Type} [DecidableEq κ] {R : V → β → Prop} {f : β → κ} {k : κ} : ∀ {kvs : List (κ × V)} {es : List β}, Paired (fun (kv : κ × V) e => kv.1 = f e ∧ R kv.2 e) kvs es →
    (∀ e, es.find? (fun e => decide (f e = k)) = some e → ∃ v, valV kvs k = some v ∧ R v e) ∧ (es.find? (fun e => decide (f e = k)) = none → valV kvs k = none)
  | _, _, .nil => ⟨fun _ h => by simp at h, fun _ => rfl⟩
  | _, _, .cons (a := kv) (b := e) h t => by
    have ih := look_par (k := k) t
    by_cases q : f e = k
    · have q2 : kv.1 = k := h.1.trans q
      rw [List.find?_cons_of_pos (by simpa using q), valV_cons, if_pos q2]
      exact ⟨fun e' he => by cases he; exact ⟨_, rfl, h.2⟩, fun z => by cases z⟩
    · have q2 : ¬ kv.1 = k := fun z => q (h.1.symm.trans z)
      rw [List.find?_cons_of_neg (by simpa using q), valV_cons, if_neg q2]
      exact ih
theorem ths_some {kvs : List (Key × V)} {ths : List Th} {i : Int} {th : Th} (h : ThsR K H kvs ths) (e : tfind ths i = some th) : ∃ a, valV kvs (Sum.inl i) = some (.ref a) ∧ ThAt K H a th := by
  have := (look_par (k := (Sum.inl i : Key)) (f := fun th : Th => (Sum.inl th.id : Key)) (R := fun v th => ∃ a, v = .ref a ∧ ThAt K H a th) h).1 th (by
    unfold tfind at e
    rw [← e]
    congr 1
    funext t
    simp)
  obtain ⟨v, h1, a, rfl, h2⟩ := this
  exact ⟨a, h1, h2⟩
theorem ths_none {kvs : List (Key × V)} {ths : List Th} {i : Int} (h : ThsR K H kvs ths) (e : tfind ths i = none) : valV kvs (Sum.inl i) = none :=
  (look_par (k := (Sum.inl i : Key)) (f := fun th : Th => (Sum.inl th.id : Key)) (R := fun v th => ∃ a, v = .ref a ∧ ThAt K H a th) h).2 (by
    unfold tfind at e
    rw [← e]
    congr 1
    funext t
    simp)
theorem fld_some {fvs : List (Key × V)} {fs : List FT} {f : Str} {tm : Str × List Str} (h : FldR K H fvs fs) (e : ffind fs f = some tm) : ∃ a m, valV fvs (Sum.inr f) = some (.ref a) ∧ SqT K H a [.str tm.1, .ref m] ∧ SqT K H m (tm.2.map V.str) := by
  unfold ffind at e
  cases q : fs.find? (fun e => decide (e.1 = f)) with
  | none => rw [q] at e; cases e
  | some ft =>
    rw [q] at e
    have e : ft.2 = tm := Option.some.inj e
    subst e
    have := (look_par (k := (Sum.inr f : Key)) (f := fun ft : FT => (Sum.inr ft.1 : Key)) (R := fun (v : V) (f : FT) => ∃ a m, v = .ref a ∧ SqT K H a [.str f.2.1, .ref m] ∧ SqT K H m (f.2.2.map V.str)) h).1 ft (by
      rw [← q]
      congr 1
      funext t
      simp)
    obtain ⟨v, h1, a, m, rfl, h2, h3⟩ := this
    exact ⟨a, m, h1, h2, h3⟩
theorem fld_none {fvs : List (Key × V)} {fs : List FT} {f : Str} (h : FldR K H fvs fs) (e : ffind fs f = none) : valV fvs (Sum.inr f) = none := by
  unfold ffind at e
  cases q : fs.find? (fun e => decide (e.1 = f)) with
  | some ft => rw [q] at e; cases e
  | none =>
    refine (look_par (k := (Sum.inr f : Key)) (f := fun ft : FT => (Sum.inr ft.1 : Key)) (R := fun (v : V) (f : FT) => ∃ a m, v = .ref a ∧ SqT K H a [.str f.2.1, .ref m] ∧ SqT K H m (f.2.2.map V.str)) h).2 ?_
    rw [← q]
    congr 1
    funext t
    simp
theorem zip_find {ds : List Addr} {kn : Kn} {k : Str} : ∀ {es : List ((Str × List FT) × Addr)}, es = kn.zip ds → ds.length = kn.length → (∀ fs, kfind kn k = some fs → ∃ (i : Nat) (d : Addr) (e : Str × List FT), ds[i]? = some d ∧ kn[i]? = some e ∧ e.2 = fs ∧ valV (es.map fun e => ((Sum.inr e.1.1 : Key), V.ref e.2)) (Sum.inr k) = some (.ref d)) ∧
    (kfind kn k = none → valV (es.map fun e => ((Sum.inr e.1.1 : Key), V.ref e.2)) (Sum.inr k) = none) := by
  induction kn generalizing ds with
  | nil =>
    intro es he _
    subst he
    exact ⟨fun fs h => by simp [kfind] at h, fun _ => rfl⟩
  | cons e kn ih =>
    intro es he hl
    cases ds with
    | nil => simp at hl
    | cons d ds =>
      subst he
      have ih := ih (ds := ds) rfl (by simpa using hl)
      rw [List.zip_cons_cons, List.map_cons, valV_cons]
      by_cases q : e.1 = k
      · rw [if_pos (by rw [q])]
        refine ⟨fun fs h => ⟨0, d, e, rfl, rfl, ?_, rfl⟩, fun h => ?_⟩
        · unfold kfind at h
          rw [List.find?_cons_of_pos (by simpa using q)] at h
          exact Option.some.inj h
        · unfold kfind at h
          rw [List.find?_cons_of_pos (by simpa using q)] at h
          cases h
      · rw [if_neg (by intro z; injection z with z; exact q z)]
        have e1 : kfind (e :: kn) k = kfind kn k := by
          unfold kfind
          rw [List.find?_cons_of_neg (by simpa using q)]
        rw [e1]
        refine ⟨fun fs h => ?_, ih.2⟩
        obtain ⟨i, d', e', h1, h2, h3, h4⟩ := ih.1 fs h
        exact ⟨i + 1, d', e', h1, h2, h3, h4⟩
/-- kinds[k] -/
theorem KndAt.get {kd : Addr} {ds : List Addr} {kn : Kn} {k : Str} {fs : List FT} (h : KndAt K H kd ds kn) (e : kfind kn k = some fs) : ∃ d fvs, d ∈ ds ∧ DGet H kd (.str k) (some (.ref d)) ∧ H d = some (.dK fvs) ∧ FldR K H fvs fs := by
  obtain ⟨kvs, h1, rfl⟩ := h.top
  obtain ⟨i, d, e', a, b, c, q⟩ := (zip_find rfl h.len).1 fs e
  obtain ⟨fvs, r1, r2⟩ := h.fld i d e' a b
  rw [c] at r2
  exact ⟨d, fvs, List.mem_of_getElem? a, .inl ⟨_, Sum.inr k, .inl h1, rfl, q.symm⟩, r1, r2⟩
theorem KndAt.none {kd : Addr} {ds : List Addr} {kn : Kn} {k : Str} (h : KndAt K H kd ds kn) (e : kfind kn k = none) : DGet H kd (.str k) none := by
  obtain ⟨kvs, h1, rfl⟩ := h.top
  exact .inl ⟨_, Sum.inr k, .inl h1, rfl, ((zip_find rfl h.len).2 e).symm⟩
theorem fld_get {d : Addr} {fvs : List (Key × V)} {fs : List FT} {f : Str} {tm : Str × List Str} (hd : H d = some (.dK fvs)) (h : FldR K H fvs fs) (e : ffind fs f = some tm) : ∃ a m, DGet H d (.str f) (some (.ref a)) ∧ SqT K H a [.str tm.1, .ref m] ∧ SqT K H m (tm.2.map V.str) := by
  obtain ⟨a, m, h1, h2, h3⟩ := fld_some h e
  exact ⟨a, m, .inl ⟨_, Sum.inr f, .inl hd, rfl, h1.symm⟩, h2, h3⟩
theorem fld_getN {d : Addr} {fvs : List (Key × V)} {fs : List FT} {f : Str} (hd : H d = some (.dK fvs)) (h : FldR K H fvs fs) (e : ffind fs f = none) : DGet H d (.str f) none :=
  .inl ⟨_, Sum.inr f, .inl hd, rfl, (fld_none h e).symm⟩
end
/-! ### the law's world -/
structure Wd where
  things : List Th
  toks : List (Tk × Int)
  fences : List (Int × Int)
  mom : Int
  nxt : Int
structure LA where
  w : Addr
  wT : Addr
  wK : Addr
  wF : Addr
abbrev sK (s : Str) : Key := Sum.inr s
def wdK (A : LA) (W : Wd) : List (Key × V) := [(sK "things", .ref A.wT), (sK "tokens", .ref A.wK), (sK "fences", .ref A.wF), (sK "moment", .int W.mom), (sK "next", .int W.nxt)]
def tokK (ts : List (Tk × Int)) : List (List Key × V) := ts.map fun e => (kPair e.1, V.int e.2)
/-- to be read; the things' dict may be locked -/
structure LwR (K : PySem.W.Frag) (H : Hp) (A : LA) (W : Wd) : Prop where
  w : H A.w = some (.dK (wdK A W))
  things : ∃ kvs, Rd H A.wT (.dK kvs) ∧ ThsR K H kvs W.things
  toks : Rd H A.wK (.dT (tokK W.toks))
  fences : Rd H A.wF (.dK (itK W.fences))
structure Lw (K : PySem.W.Frag) (H : Hp) (A : LA) (W : Wd) : Prop where
  w : H A.w = some (.dK (wdK A W))
  things : ∃ kvs, H A.wT = some (.dK kvs) ∧ ThsR K H kvs W.things
  toks : H A.wK = some (.dT (tokK W.toks))
  fences : H A.wF = some (.dK (itK W.fences))
theorem Lw.r {K : PySem.W.Frag} {H : Hp} {A : LA} {W : Wd} (h : Lw K H A W) : LwR K H A W := ⟨h.w, by obtain ⟨k, a, b⟩ := h.things; exact ⟨k, .inl a, b⟩, .inl h.toks, .inl h.fences⟩
theorem LwR.same {K : PySem.W.Frag} {H H' : Hp} {A : LA} {W : Wd} (h : LwR K H A W) (s : Same H H') : LwR K H' A W :=
  ⟨s _ _ h.w, by
    obtain ⟨k, a, b⟩ := h.things
    refine ⟨k, a.elim (fun q => .inl (s _ _ q)) (fun ⟨o, q⟩ => .inr ⟨o, s _ _ q⟩), ths_kp b (.of_same s)⟩, h.toks.elim (fun q => .inl (s _ _ q)) (fun ⟨o, q⟩ => .inr ⟨o, s _ _ q⟩), h.fences.elim (fun q => .inl (s _ _ q)) (fun ⟨o, q⟩ => .inr ⟨o, s _ _ q⟩)⟩
theorem Lw.same {K : PySem.W.Frag} {H H' : Hp} {A : LA} {W : Wd} (h : Lw K H A W) (s : Same H H') : Lw K H' A W :=
  ⟨s _ _ h.w, by obtain ⟨k, a, b⟩ := h.things; exact ⟨k, s _ _ a, ths_kp b (.of_same s)⟩, s _ _ h.toks, s _ _ h.fences⟩
section
variable {K : PySem.W.Frag} {H : Hp} {A : LA} {W : Wd}
theorem wd_ne : ¬ sK "things" = sK "tokens" ∧ ¬ sK "things" = sK "fences" ∧ ¬ sK "things" = sK "moment" ∧ ¬ sK "things" = sK "next" ∧ ¬ sK "tokens" = sK "fences" ∧ ¬ sK "tokens" = sK "moment" ∧ ¬ sK "tokens" = sK "next" ∧ ¬ sK "fences" = sK "moment" ∧ ¬ sK "fences" = sK "next" ∧ ¬ sK "moment" = sK "next" := by decide +kernel
theorem wv (s : Str) {v : V} (h : valV (wdK A W) (sK s) = some v) (hw : H A.w = some (.dK (wdK A W))) : DGet H A.w (.str s) (some v) := .inl ⟨_, sK s, .inl hw, rfl, h.symm⟩
theorem LwR.g_things (h : LwR K H A W) : DGet H A.w (V.str "things") (some (.ref A.wT)) := wv "things" (valV_pos rfl) h.w
theorem LwR.g_tokens (h : LwR K H A W) : DGet H A.w (V.str "tokens") (some (.ref A.wK)) := wv "tokens" (by
  obtain ⟨a, b, c, d, e, f, g, i, j, k⟩ := wd_ne
  unfold wdK
  rw [valV_neg a, valV_pos rfl]) h.w
theorem LwR.g_fences (h : LwR K H A W) : DGet H A.w (V.str "fences") (some (.ref A.wF)) := wv "fences" (by
  obtain ⟨a, b, c, d, e, f, g, i, j, k⟩ := wd_ne
  unfold wdK
  rw [valV_neg b, valV_neg e, valV_pos rfl]) h.w
theorem LwR.g_moment (h : LwR K H A W) : DGet H A.w (V.str "moment") (some (.int W.mom)) := wv "moment" (by
  obtain ⟨a, b, c, d, e, f, g, i, j, k⟩ := wd_ne
  unfold wdK
  rw [valV_neg c, valV_neg f, valV_neg i, valV_pos rfl]) h.w
theorem LwR.g_next (h : LwR K H A W) : DGet H A.w (V.str "next") (some (.int W.nxt)) := wv "next" (by
  obtain ⟨a, b, c, d, e, f, g, i, j, k⟩ := wd_ne
  unfold wdK
  rw [valV_neg d, valV_neg g, valV_neg j, valV_neg k, valV_pos rfl]) h.w
theorem LwR.thing (h : LwR K H A W) {i : Int} {th : Th} (e : tfind W.things i = some th) : ∃ a, DGet H A.wT (.int i) (some (.ref a)) ∧ ThAt K H a th := by
  obtain ⟨kvs, h1, h2⟩ := h.things
  obtain ⟨a, h3, h4⟩ := ths_some h2 e
  exact ⟨a, .inl ⟨kvs, Sum.inl i, h1, rfl, h3.symm⟩, h4⟩
theorem LwR.nothing (h : LwR K H A W) {i : Int} (e : tfind W.things i = none) : DGet H A.wT (.int i) none := by
  obtain ⟨kvs, h1, h2⟩ := h.things
  exact .inl ⟨kvs, Sum.inl i, h1, rfl, (ths_none h2 e).symm⟩
end
end OW
/-! Law k06: the defs. -/
namespace K07
open PySem PySem.Spec PyProof.Rows L2 LB OW
def top (i : Nat) : Stmt := PySem.Challenge.pw_settledland_k07_outsides_of_looks.main.body.getD i (.Pass ⟨0, 0, 0, 0⟩)
abbrev s_is_call : Stmt := top 6
abbrev N_is_call : List Str := ["call"]
theorem sc_is_call : FnScope N_is_call ["call"] (defScope s_is_call) := ⟨rfl, rfl, rfl, by decide +kernel, rfl, by decide +kernel, by decide +kernel⟩

abbrev s_is_deed : Stmt := top 7
abbrev N_is_deed : List Str := ["word", "parts"]
theorem sc_is_deed : FnScope N_is_deed ["word", "parts"] (defScope s_is_deed) := ⟨rfl, rfl, rfl, by decide +kernel, rfl, by decide +kernel, by decide +kernel⟩

abbrev s__begins_with_word : Stmt := top 8
abbrev N__begins_with_word : List Str := ["row"]
theorem sc__begins_with_word : FnScope N__begins_with_word ["row"] (defScope s__begins_with_word) := ⟨rfl, rfl, rfl, by decide +kernel, rfl, by decide +kernel, by decide +kernel⟩

abbrev s__have_forms : Stmt := top 9
abbrev N__have_forms : List Str := ["parts", "forms", "part", "form"]
theorem sc__have_forms : FnScope N__have_forms ["parts", "forms"] (defScope s__have_forms) := ⟨rfl, rfl, rfl, by decide +kernel, rfl, by decide +kernel, by decide +kernel⟩

abbrev s__has_form : Stmt := top 10
abbrev N__has_form : List Str := ["part", "form", "pair"]
theorem sc__has_form : FnScope N__has_form ["part", "form"] (defScope s__has_form) := ⟨rfl, rfl, rfl, by decide +kernel, rfl, by decide +kernel, by decide +kernel⟩

abbrev s__is_tuple_of : Stmt := top 11
abbrev N__is_tuple_of : List Str := ["part", "forms"]
theorem sc__is_tuple_of : FnScope N__is_tuple_of ["part", "forms"] (defScope s__is_tuple_of) := ⟨rfl, rfl, rfl, by decide +kernel, rfl, by decide +kernel, by decide +kernel⟩

abbrev s__is_integer : Stmt := top 12
abbrev N__is_integer : List Str := ["part"]
theorem sc__is_integer : FnScope N__is_integer ["part"] (defScope s__is_integer) := ⟨rfl, rfl, rfl, by decide +kernel, rfl, by decide +kernel, by decide +kernel⟩

abbrev s_Outside___init__ : Stmt := inClass (top 16) 0
abbrev N_Outside___init__ : List Str := ["self", "kinds", "kind", "fields"]
theorem sc_Outside___init__ : FnScope N_Outside___init__ ["self", "kinds"] (defScope s_Outside___init__) := ⟨rfl, rfl, rfl, by decide +kernel, rfl, by decide +kernel, by decide +kernel⟩

abbrev s_Outside__begin : Stmt := inClass (top 16) 1
abbrev N_Outside__begin : List Str := ["self", "look", "moment", "fences", "things", "spent", "thing", "token"]
theorem sc_Outside__begin : FnScope N_Outside__begin ["self", "look"] (defScope s_Outside__begin) := ⟨rfl, rfl, rfl, by decide +kernel, rfl, by decide +kernel, by decide +kernel⟩

abbrev s_Outside_do : Stmt := inClass (top 16) 2
abbrev N_Outside_do : List Str := ["self", "call", "before", "answer"]
theorem sc_Outside_do : FnScope N_Outside_do ["self", "call"] (defScope s_Outside_do) := ⟨rfl, rfl, rfl, by decide +kernel, rfl, by decide +kernel, by decide +kernel⟩

abbrev s_Outside_make : Stmt := inClass (top 16) 3
abbrev N_Outside_make : List Str := ["self", "kind", "values"]
theorem sc_Outside_make : FnScope N_Outside_make ["self", "kind", "values"] (defScope s_Outside_make) := ⟨rfl, rfl, rfl, by decide +kernel, rfl, by decide +kernel, by decide +kernel⟩

abbrev s_Outside_change : Stmt := inClass (top 16) 4
abbrev N_Outside_change : List Str := ["self", "id_of_thing", "field", "value"]
theorem sc_Outside_change : FnScope N_Outside_change ["self", "id_of_thing", "field", "value"] (defScope s_Outside_change) := ⟨rfl, rfl, rfl, by decide +kernel, rfl, by decide +kernel, by decide +kernel⟩

abbrev s_Outside_take : Stmt := inClass (top 16) 5
abbrev N_Outside_take : List Str := ["self", "id_of_thing"]
theorem sc_Outside_take : FnScope N_Outside_take ["self", "id_of_thing"] (defScope s_Outside_take) := ⟨rfl, rfl, rfl, by decide +kernel, rfl, by decide +kernel, by decide +kernel⟩

abbrev s_Outside_look : Stmt := inClass (top 16) 6
abbrev N_Outside_look : List Str := ["self", "fences", "things", "id_of_thing"]
theorem sc_Outside_look : FnScope N_Outside_look ["self"] (defScope s_Outside_look) := ⟨rfl, rfl, rfl, by decide +kernel, rfl, by decide +kernel, by decide +kernel⟩

abbrev s_Outside_calls : Stmt := inClass (top 16) 7
abbrev N_Outside_calls : List Str := ["self"]
theorem sc_Outside_calls : FnScope N_Outside_calls ["self"] (defScope s_Outside_calls) := ⟨rfl, rfl, rfl, by decide +kernel, rfl, by decide +kernel, by decide +kernel⟩

abbrev s_Outside__answer_to : Stmt := inClass (top 16) 8
abbrev N_Outside__answer_to : List Str := ["self", "call", "word", "owner", "run", "rest", "token", "kind", "values", "id_of_thing", "version", "field", "value"]
theorem sc_Outside__answer_to : FnScope N_Outside__answer_to ["self", "call"] (defScope s_Outside__answer_to) := ⟨rfl, rfl, rfl, by decide +kernel, rfl, by decide +kernel, by decide +kernel⟩

abbrev s_Outside__raise_fence : Stmt := inClass (top 16) 9
abbrev N_Outside__raise_fence : List Str := ["self", "owner", "run"]
theorem sc_Outside__raise_fence : FnScope N_Outside__raise_fence ["self", "owner", "run"] (defScope s_Outside__raise_fence) := ⟨rfl, rfl, rfl, by decide +kernel, rfl, by decide +kernel, by decide +kernel⟩

abbrev s_Outside__was_used : Stmt := inClass (top 16) 10
abbrev N_Outside__was_used : List Str := ["self", "token", "thing"]
theorem sc_Outside__was_used : FnScope N_Outside__was_used ["self", "token"] (defScope s_Outside__was_used) := ⟨rfl, rfl, rfl, by decide +kernel, rfl, by decide +kernel, by decide +kernel⟩

abbrev s_Outside__make : Stmt := inClass (top 16) 11
abbrev N_Outside__make : List Str := ["self", "token", "kind", "values", "why", "id_of_thing"]
theorem sc_Outside__make : FnScope N_Outside__make ["self", "token", "kind", "values"] (defScope s_Outside__make) := ⟨rfl, rfl, rfl, by decide +kernel, rfl, by decide +kernel, by decide +kernel⟩

abbrev s_Outside__change : Stmt := inClass (top 16) 12
abbrev N_Outside__change : List Str := ["self", "id_of_thing", "version", "field", "value", "why", "_", "kind", "values", "version_now", "told", "token", "name", "other"]
theorem sc_Outside__change : FnScope N_Outside__change ["self", "id_of_thing", "version", "field", "value"] (defScope s_Outside__change) := ⟨rfl, rfl, rfl, by decide +kernel, rfl, by decide +kernel, by decide +kernel⟩

abbrev s_Outside__take : Stmt := inClass (top 16) 13
abbrev N_Outside__take : List Str := ["self", "id_of_thing", "version", "why", "token"]
theorem sc_Outside__take : FnScope N_Outside__take ["self", "id_of_thing", "version"] (defScope s_Outside__take) := ⟨rfl, rfl, rfl, by decide +kernel, rfl, by decide +kernel, by decide +kernel⟩

abbrev s_Outside__why_not_make : Stmt := inClass (top 16) 14
abbrev N_Outside__why_not_make : List Str := ["self", "kind", "values", "field", "_"]
theorem sc_Outside__why_not_make : FnScope N_Outside__why_not_make ["self", "kind", "values"] (defScope s_Outside__why_not_make) := ⟨rfl, rfl, rfl, by decide +kernel, rfl, by decide +kernel, by decide +kernel⟩

abbrev s_Outside__why_not_change : Stmt := inClass (top 16) 15
abbrev N_Outside__why_not_change : List Str := ["self", "id_of_thing", "version", "field", "value", "why", "kind", "fields"]
theorem sc_Outside__why_not_change : FnScope N_Outside__why_not_change ["self", "id_of_thing", "version", "field", "value"] (defScope s_Outside__why_not_change) := ⟨rfl, rfl, rfl, by decide +kernel, rfl, by decide +kernel, by decide +kernel⟩

abbrev s_Outside__why_not_reach : Stmt := inClass (top 16) 16
abbrev N_Outside__why_not_reach : List Str := ["self", "id_of_thing", "version"]
theorem sc_Outside__why_not_reach : FnScope N_Outside__why_not_reach ["self", "id_of_thing", "version"] (defScope s_Outside__why_not_reach) := ⟨rfl, rfl, rfl, by decide +kernel, rfl, by decide +kernel, by decide +kernel⟩

abbrev s_Outside__why_not_bear : Stmt := inClass (top 16) 17
abbrev N_Outside__why_not_bear : List Str := ["self", "id_of_thing", "kind", "values", "fields", "field", "value", "filled", "target", "_", "marks", "pair"]
theorem sc_Outside__why_not_bear : FnScope N_Outside__why_not_bear ["self", "id_of_thing", "kind", "values"] (defScope s_Outside__why_not_bear) := ⟨rfl, rfl, rfl, by decide +kernel, rfl, by decide +kernel, by decide +kernel⟩

abbrev s_Outside__lives : Stmt := inClass (top 16) 18
abbrev N_Outside__lives : List Str := ["self", "id_of_thing", "kind"]
theorem sc_Outside__lives : FnScope N_Outside__lives ["self", "id_of_thing", "kind"] (defScope s_Outside__lives) := ⟨rfl, rfl, rfl, by decide +kernel, rfl, by decide +kernel, by decide +kernel⟩

abbrev s_Outside__is_borne : Stmt := inClass (top 16) 19
abbrev N_Outside__is_borne : List Str := ["self", "id_of_thing", "kind", "field", "value", "others", "thing"]
theorem sc_Outside__is_borne : FnScope N_Outside__is_borne ["self", "id_of_thing", "kind", "field", "value"] (defScope s_Outside__is_borne) := ⟨rfl, rfl, rfl, by decide +kernel, rfl, by decide +kernel, by decide +kernel⟩

abbrev s_Outside__is_needed : Stmt := inClass (top 16) 20
abbrev N_Outside__is_needed : List Str := ["self", "id_of_thing", "thing"]
theorem sc_Outside__is_needed : FnScope N_Outside__is_needed ["self", "id_of_thing"] (defScope s_Outside__is_needed) := ⟨rfl, rfl, rfl, by decide +kernel, rfl, by decide +kernel, by decide +kernel⟩

abbrev s_Outside__needs_of : Stmt := inClass (top 16) 21
abbrev N_Outside__needs_of : List Str := ["self", "thing", "_", "kind", "values", "field", "value"]
theorem sc_Outside__needs_of : FnScope N_Outside__needs_of ["self", "thing"] (defScope s_Outside__needs_of) := ⟨rfl, rfl, rfl, by decide +kernel, rfl, by decide +kernel, by decide +kernel⟩

abbrev s__fits : Stmt := top 17
abbrev N__fits : List Str := ["value", "form", "target", "marks"]
theorem sc__fits : FnScope N__fits ["value", "form"] (defScope s__fits) := ⟨rfl, rfl, rfl, by decide +kernel, rfl, by decide +kernel, by decide +kernel⟩

abbrev s__check_deed : Stmt := top 18
abbrev N__check_deed : List Str := ["word", "parts"]
theorem sc__check_deed : FnScope N__check_deed ["word", "parts"] (defScope s__check_deed) := ⟨rfl, rfl, rfl, by decide +kernel, rfl, by decide +kernel, by decide +kernel⟩

abbrev s_outside_of : Stmt := top 19
abbrev N_outside_of : List Str := ["kinds", "look", "outside"]
theorem sc_outside_of : FnScope N_outside_of ["kinds", "look"] (defScope s_outside_of) := ⟨rfl, rfl, rfl, by decide +kernel, rfl, by decide +kernel, by decide +kernel⟩

abbrev s__law_tape : Stmt := top 21
abbrev N__law_tape : List Str := ["script", "cells", "seed", "cell"]
theorem sc__law_tape : FnScope N__law_tape ["script"] (defScope s__law_tape) := ⟨rfl, rfl, rfl, by decide +kernel, rfl, by decide +kernel, by decide +kernel⟩

abbrev s__law_take : Stmt := top 22
abbrev N__law_take : List Str := ["tape", "many", "drawn", "mixed"]
theorem sc__law_take : FnScope N__law_take ["tape", "many"] (defScope s__law_take) := ⟨rfl, rfl, rfl, by decide +kernel, rfl, by decide +kernel, by decide +kernel⟩

abbrev s__law_is_integer : Stmt := top 23
abbrev N__law_is_integer : List Str := ["actual"]
theorem sc__law_is_integer : FnScope N__law_is_integer ["actual"] (defScope s__law_is_integer) := ⟨rfl, rfl, rfl, by decide +kernel, rfl, by decide +kernel, by decide +kernel⟩

abbrev s__law_same_items : Stmt := top 24
abbrev N__law_same_items : List Str := ["actual", "expected", "k"]
theorem sc__law_same_items : FnScope N__law_same_items ["actual", "expected"] (defScope s__law_same_items) := ⟨rfl, rfl, rfl, by decide +kernel, rfl, by decide +kernel, by decide +kernel⟩

abbrev s__law_same : Stmt := top 25
abbrev N__law_same : List Str := ["actual", "expected", "key"]
theorem sc__law_same : FnScope N__law_same ["actual", "expected"] (defScope s__law_same) := ⟨rfl, rfl, rfl, by decide +kernel, rfl, by decide +kernel, by decide +kernel⟩

abbrev s__law_marks : Stmt := top 26
abbrev N__law_marks : List Str := ["tape", "options"]
theorem sc__law_marks : FnScope N__law_marks ["tape", "options"] (defScope s__law_marks) := ⟨rfl, rfl, rfl, by decide +kernel, rfl, by decide +kernel, by decide +kernel⟩

abbrev s__law_kinds : Stmt := top 27
abbrev N__law_kinds : List Str := ["tape", "net", "box", "disk"]
theorem sc__law_kinds : FnScope N__law_kinds ["tape"] (defScope s__law_kinds) := ⟨rfl, rfl, rfl, by decide +kernel, rfl, by decide +kernel, by decide +kernel⟩

abbrev s__law_number_for : Stmt := top 28
abbrev N__law_number_for : List Str := ["tape", "used", "kind", "field", "marks", "number"]
theorem sc__law_number_for : FnScope N__law_number_for ["tape", "used", "kind", "field", "marks"] (defScope s__law_number_for) := ⟨rfl, rfl, rfl, by decide +kernel, rfl, by decide +kernel, by decide +kernel⟩

abbrev s__law_field_value : Stmt := top 29
abbrev N__law_field_value : List Str := ["tape", "present", "used", "kind", "field", "target", "marks", "fitting", "name", "other"]
theorem sc__law_field_value : FnScope N__law_field_value ["tape", "present", "used", "kind", "field", "target", "marks"] (defScope s__law_field_value) := ⟨rfl, rfl, rfl, by decide +kernel, rfl, by decide +kernel, by decide +kernel⟩

abbrev s__law_thing : Stmt := top 30
abbrev N__law_thing : List Str := ["tape", "present", "used", "name", "kind", "fields", "values", "field", "target", "marks", "value"]
theorem sc__law_thing : FnScope N__law_thing ["tape", "present", "used", "name", "kind", "fields"] (defScope s__law_thing) := ⟨rfl, rfl, rfl, by decide +kernel, rfl, by decide +kernel, by decide +kernel⟩

abbrev s__law_items : Stmt := top 31
abbrev N__law_items : List Str := ["tape", "kinds", "items", "present", "used", "kind", "fields", "k", "one"]
theorem sc__law_items : FnScope N__law_items ["tape", "kinds"] (defScope s__law_items) := ⟨rfl, rfl, rfl, by decide +kernel, rfl, by decide +kernel, by decide +kernel⟩

abbrev s__law_land : Stmt := top 32
abbrev N__law_land : List Str := ["tape", "kinds"]
theorem sc__law_land : FnScope N__law_land ["tape", "kinds"] (defScope s__law_land) := ⟨rfl, rfl, rfl, by decide +kernel, rfl, by decide +kernel, by decide +kernel⟩

abbrev s__law_kind_dict : Stmt := top 33
abbrev N__law_kind_dict : List Str := ["kinds", "found", "name", "fields", "field", "target", "marks"]
theorem sc__law_kind_dict : FnScope N__law_kind_dict ["kinds"] (defScope s__law_kind_dict) := ⟨rfl, rfl, rfl, by decide +kernel, rfl, by decide +kernel, by decide +kernel⟩

abbrev s__law_new_world : Stmt := top 34
abbrev N__law_new_world : List Str := []
theorem sc__law_new_world : FnScope N__law_new_world [] (defScope s__law_new_world) := ⟨rfl, rfl, rfl, by decide +kernel, rfl, by decide +kernel, by decide +kernel⟩

abbrev s__law_form : Stmt := top 35
abbrev N__law_form : List Str := ["kinds", "kind", "field", "value", "target", "marks"]
theorem sc__law_form : FnScope N__law_form ["kinds", "kind", "field", "value"] (defScope s__law_form) := ⟨rfl, rfl, rfl, by decide +kernel, rfl, by decide +kernel, by decide +kernel⟩

abbrev s__law_why_value : Stmt := top 36
abbrev N__law_why_value : List Str := ["kinds", "w", "kind", "field", "value", "own", "target", "marks", "one", "thing"]
theorem sc__law_why_value : FnScope N__law_why_value ["kinds", "w", "kind", "field", "value", "own"] (defScope s__law_why_value) := ⟨rfl, rfl, rfl, by decide +kernel, rfl, by decide +kernel, by decide +kernel⟩

abbrev s__law_first_why : Stmt := top 37
abbrev N__law_first_why : List Str := ["kinds", "w", "kind", "values", "own", "whys", "field", "value"]
theorem sc__law_first_why : FnScope N__law_first_why ["kinds", "w", "kind", "values", "own"] (defScope s__law_first_why) := ⟨rfl, rfl, rfl, by decide +kernel, rfl, by decide +kernel, by decide +kernel⟩

abbrev s__law_needed : Stmt := top 38
abbrev N__law_needed : List Str := ["kinds", "w", "one", "other", "thing", "field", "value"]
theorem sc__law_needed : FnScope N__law_needed ["kinds", "w", "one"] (defScope s__law_needed) := ⟨rfl, rfl, rfl, by decide +kernel, rfl, by decide +kernel, by decide +kernel⟩

abbrev s__law_make_why : Stmt := top 39
abbrev N__law_make_why : List Str := ["kinds", "w", "mark", "token", "kind", "values", "field", "value"]
theorem sc__law_make_why : FnScope N__law_make_why ["kinds", "w", "mark", "token", "kind", "values"] (defScope s__law_make_why) := ⟨rfl, rfl, rfl, by decide +kernel, rfl, by decide +kernel, by decide +kernel⟩

abbrev s__law_other_why : Stmt := top 40
abbrev N__law_other_why : List Str := ["kinds", "w", "mark", "one", "version"]
theorem sc__law_other_why : FnScope N__law_other_why ["kinds", "w", "mark", "one", "version"] (defScope s__law_other_why) := ⟨rfl, rfl, rfl, by decide +kernel, rfl, by decide +kernel, by decide +kernel⟩

abbrev s__law_change_why : Stmt := top 41
abbrev N__law_change_why : List Str := ["kinds", "w", "mark", "one", "version", "field", "value", "why", "kind"]
theorem sc__law_change_why : FnScope N__law_change_why ["kinds", "w", "mark", "one", "version", "field", "value"] (defScope s__law_change_why) := ⟨rfl, rfl, rfl, by decide +kernel, rfl, by decide +kernel, by decide +kernel⟩

abbrev s__law_do_make : Stmt := top 42
abbrev N__law_do_make : List Str := ["kinds", "w", "mark", "token", "kind", "values", "why", "one"]
theorem sc__law_do_make : FnScope N__law_do_make ["kinds", "w", "mark", "token", "kind", "values"] (defScope s__law_do_make) := ⟨rfl, rfl, rfl, by decide +kernel, rfl, by decide +kernel, by decide +kernel⟩

abbrev s__law_do_change : Stmt := top 43
abbrev N__law_do_change : List Str := ["kinds", "w", "mark", "one", "version", "field", "value", "why", "thing", "values", "name", "old"]
theorem sc__law_do_change : FnScope N__law_do_change ["kinds", "w", "mark", "one", "version", "field", "value"] (defScope s__law_do_change) := ⟨rfl, rfl, rfl, by decide +kernel, rfl, by decide +kernel, by decide +kernel⟩

abbrev s__law_do_take : Stmt := top 44
abbrev N__law_do_take : List Str := ["kinds", "w", "mark", "one", "version", "why"]
theorem sc__law_do_take : FnScope N__law_do_take ["kinds", "w", "mark", "one", "version"] (defScope s__law_do_take) := ⟨rfl, rfl, rfl, by decide +kernel, rfl, by decide +kernel, by decide +kernel⟩

abbrev s__law_do : Stmt := top 45
abbrev N__law_do : List Str := ["kinds", "w", "call", "mark"]
theorem sc__law_do : FnScope N__law_do ["kinds", "w", "call"] (defScope s__law_do) := ⟨rfl, rfl, rfl, by decide +kernel, rfl, by decide +kernel, by decide +kernel⟩

abbrev s__law_look : Stmt := top 46
abbrev N__law_look : List Str := ["w", "things", "fences", "spent", "one", "owner", "token"]
theorem sc__law_look : FnScope N__law_look ["w"] (defScope s__law_look) := ⟨rfl, rfl, rfl, by decide +kernel, rfl, by decide +kernel, by decide +kernel⟩

abbrev s__law_any_value : Stmt := top 47
abbrev N__law_any_value : List Str := ["tape", "w", "target", "listed"]
theorem sc__law_any_value : FnScope N__law_any_value ["tape", "w", "target"] (defScope s__law_any_value) := ⟨rfl, rfl, rfl, by decide +kernel, rfl, by decide +kernel, by decide +kernel⟩

abbrev s__law_any_values : Stmt := top 48
abbrev N__law_any_values : List Str := ["tape", "kinds", "w", "kind", "field"]
theorem sc__law_any_values : FnScope N__law_any_values ["tape", "kinds", "w", "kind"] (defScope s__law_any_values) := ⟨rfl, rfl, rfl, by decide +kernel, rfl, by decide +kernel, by decide +kernel⟩

abbrev s__law_any_id : Stmt := top 49
abbrev N__law_any_id : List Str := ["tape", "w", "listed"]
theorem sc__law_any_id : FnScope N__law_any_id ["tape", "w"] (defScope s__law_any_id) := ⟨rfl, rfl, rfl, by decide +kernel, rfl, by decide +kernel, by decide +kernel⟩

abbrev s__law_any_call : Stmt := top 50
abbrev N__law_any_call : List Str := ["tape", "kinds", "w", "mark", "choice", "kind", "one", "version", "values", "fields", "field", "target"]
theorem sc__law_any_call : FnScope N__law_any_call ["tape", "kinds", "w"] (defScope s__law_any_call) := ⟨rfl, rfl, rfl, by decide +kernel, rfl, by decide +kernel, by decide +kernel⟩

abbrev s_law : Stmt := top 51
abbrev N_law : List Str := ["script", "tape", "kinds", "outside", "w", "k", "call", "other", "most", "things", "thing"]
theorem sc_law : FnScope N_law ["script"] (defScope s_law) := ⟨rfl, rfl, rfl, by decide +kernel, rfl, by decide +kernel, by decide +kernel⟩

end K07
namespace L2
open PySem PySem.Spec PyProof.Rows
theorem pi_seq2 {X : Cx} {tg l : Expr} {tl : TE} (hl : PE X l tl) : PI X tg l (fun σ H R => iTup X.K tl σ H R ∨ iList X.K tl σ H R) :=
  ⟨fun pins s σ H R I h => h.elim (fun h => (pi_tup hl).run pins s σ H R I h) (fun h => (pi_list hl).run pins s σ H R I h)⟩
/-- x in t, t a tuple of data -/
def rInDT (K : PySem.W.Frag) : R2 := fun x y H Q => ∃ d ds, Dp K H x d ∧ Dp K H y (.tuple ds) ∧ SeqAt.shaped d = true ∧ SeqAt.shaped (.tuple ds) = true ∧ Q (.bl (ds.any fun z => PyData.eqv z d)) H
theorem op_inDT {X : Cx} (hu : X.A.units + 65 < cLine) : OpR X (compareOp .In) (rInDT X.K) := by
  intro pins s σ H x y v u Q I rx ry h
  obtain ⟨d, ds, hd, he, sd, se, q⟩ := h
  obtain ⟨as, r1⟩ := Dp.reads I d x v hd rx
  obtain ⟨bs, r2⟩ := Dp.reads I (.tuple ds) y u he ry
  exact SeqAt.in_tuple_reads r2 r1 (SeqAt.canLay_of_shaped se) (SeqAt.canLay_of_shaped sd) (room_in_shaped sd hu) ⟨.bl _, H, I, rfl, q⟩
theorem Room.u65 {k : Nat} {A : Around} (r : Room k A) : A.units + 65 < cLine := by have := r.un; omega
/-- what is never reached -/
theorem ps_false {X : Cx} {st : Stmt} : PS X st (fun _ _ _ => False) := ⟨fun _ _ _ _ _ _ h => h.elim⟩
/-- o.m(e, ..) in a try -/
def tMethT (C : Addr) (m : Str) (sp : Sp) (E : St → XK) (ta : TE) (t : TA) : TE := fun σ H Q => ta σ H fun x H1 => ∃ a dx fs, x = .ref a ∧ H1 a = some (.ins C dx fs) ∧ fs.lookup m = none ∧ t σ H1 fun vs H2 => sp (x :: vs) H2 Q (E σ)
theorem pe_methT {X : Cx} {CX : CXT} {k : Nat} {f C : Addr} {fd : FuncData} {ps : List Str} {sp : Sp} {E : St → XK} {m : Str} {pos apos : Pos} {e o : Expr} {es : List Expr} {ta : TE} {t : TA} {pl : Sem Bool} (he : PE X o ta) (c : Cls X.K C) (hm : Meth X.K C m f) (F : FnOk X.prog X.w X.K X.mg X.base CX k f fd ps sp) (hr : Room k X.A) (hb : Binds X.K fd ps []) (hx : ∀ σ, PassesAt CX X σ (E σ)) (ha : PA X (e :: es) t)
    (hst : starEach (e :: es) X.env = (false, eval e X.env) :: starEach es X.env := by rfl) (hpl : (backTo pos (starEach es X.env)).any (·.1) = false := by rfl)
    (ht : eval (.Call (.Attribute o m apos) (e :: es) [] pos) X.env = (do
      let ov ← eval o X.env
      standAt apos.atName
      let (f, first) ← holding [ov] (getMethod ov m pl)
      callWith pos f first (backTo pos (starEach (e :: es) X.env)) (backToKw pos (keywordEach [] X.env))) := by rfl) :
    PE X (.Call (.Attribute o m apos) (e :: es) [] pos) (tMethT C m sp E ta t) := by
  refine ⟨fun pins s σ H Q I h => ?_⟩
  refine PySem.W.methodCall_KW (pl := pl) (thn (he.run pins s σ H _ I h) fun u s1 ⟨x, H1, I1, rx, a, dx, fs, ex, ea, l, q⟩ => ?_) ht
  subst ex
  obtain rfl : u = Value.ref a := rx
  refine getmeth_ok I1 ea c hm l ?_
  refine PySem.W.callWith_K (first := [.ref a]) (h₀ := X.base) I.ok.mod.kin hm.kp (thn (ha.run pos pins s1 σ H1 _ I1 q) fun us s2 ⟨vs, H2, I2, r, q2⟩ => ⟨I2.kIn, ?_⟩) hst hpl
  exact run_fnS (us := .ref a :: us) (vs := .ref a :: vs) F hr hb (hx σ) I2 (.cons rfl r) q2
theorem walk_zipT {K : PySem.W.Frag} {a b : Addr} {xs ys : List V} {n : Nat} (hn : n = min xs.length ys.length) : Walk (RZ.ItzT K a b) n (fun H => SqT K H a xs ∧ SqT K H b ys) (YPair (fun i => xs[i]?) (fun i => ys[i]?)) := by
  subst hn
  refine ⟨fun i _ hi q => ?_, fun _ q => ⟨xs, ys, q.1, q.2, by omega⟩, fun i H v H' _ q y => ?_⟩
  · have h1 : i < xs.length := by omega
    have h2 : i < ys.length := by omega
    exact ⟨xs, ys, xs[i], ys[i], q.1, q.2, by simp [h1], by simp [h2]⟩
  · obtain ⟨T, x, z, h1, h2, h3, h4, h5⟩ := y
    exact ⟨T, x, z, h1, h2, h3, h4 xs q.1, h5 ys q.2⟩
/-- d == {} -/
theorem op_eq_dE {X : Cx} (hu : X.A.units + 64 < cLine) : OpR X (compareOp .Eq) (fun x y H Q => ∃ a b ks, x = .ref a ∧ y = .ref b ∧ H a = some (.dK ks) ∧ H b = some (.dK []) ∧ Q (.bl (decide (ks.length = 0))) H) := by
  intro pins s σ H x y v u Q I rx ry h
  obtain ⟨a, b, ks, rfl, rfl, ea, eb, q⟩ := h
  obtain rfl : v = Value.ref a := rx
  obtain rfl : u = Value.ref b := ry
  obtain ⟨_, ya, va, ra, da⟩ := (show ObjOk X.prog X.w H s.heap a (.dK ks) from I.hok a _ ea)
  obtain ⟨_, yb, vb, rb, db⟩ := (show ObjOk X.prog X.w H s.heap b (.dK []) from I.hok b _ eb)
  have hb : vb.length = 0 := by rw [← rb.length]; rfl
  have hl : ks.length = va.length := ra.length
  refine PySem.W.keq_eq (knd := mixKind X.prog X.w) (r := true) ya yb da db (by omega) (fun e => hits_all rb ra fun p hp => ?_) (fin_bl I q ?_)
  · have : ks.length = 0 := by omega
    rw [List.length_eq_zero_iff.mp this] at hp
    cases hp
  · rw [hb, ← hl]
    cases ks <;> simp
theorem sl_tupF {X : Cx} : SlR X (fun x lo hi H Q => ∃ a xs, x = .ref a ∧ SqT X.K H a xs ∧
    ¬ (HT.sIx xs.length 0 lo = 0 ∧ HT.sIx xs.length xs.length hi = xs.length) ∧ ∀ p o, H p = none → Obj.dict o = none → Q (.ref p) (upd H p (.frz o (.tup (cutV xs lo hi))))) := by
  intro pins s σ H x v vl vu lo hi sl Q I rx hs pl pu h
  obtain ⟨a, xs, rfl, hx, hw, q⟩ := h
  cases rx
  obtain ⟨its, r, ht, hz⟩ := I.tuple hx
  have hlen : its.toArray.size = xs.length := by rw [List.size_toArray]; exact r.length.symm
  refine ⟨"tuple", _, PyProof.Rows.slot_tuple_getitem.lookup, ht.typeIs, ?_⟩
  refine HT.getItem_tuple_cut ht hs pl pu (by rw [hlen]; exact hw) ?_ (by rw [hlen]; exact hz)
  rw [hlen]
  refine ⟨.ref s.heap.objs.size, _, I.laid (t' := s.toks) (o := .frz { cls := .type "tuple", data := .seq (List.take (HT.sIx xs.length xs.length hi - HT.sIx xs.length 0 lo) (List.drop (HT.sIx xs.length 0 lo) its.toArray.toList)).toArray } (.tup (cutV xs lo hi))) (fun b ob q => Heap.get?_push_of_some _ q) (Nat.le_refl _) ?_, rfl, q _ _ (I.hok.fresh (Nat.le_refl _)) rfl⟩
  exact ⟨Heap.get?_push_size _ rfl, Nat.le_trans (cutV_length xs lo hi) hz, _, (r.drop (HT.sIx xs.length 0 lo)).take (HT.sIx xs.length xs.length hi - HT.sIx xs.length 0 lo), IsTup.new _ _⟩
end L2
/-! The law's own outside: what it answers, as functions; promises. -/
namespace OW
open PySem PySem.Spec PyProof.Rows L2 LB
def valKV (vals : List (Str × Option Int)) : List (Key × V) := vals.map fun fv => (sK fv.1, oV fv.2)
/-- dict(values).get(field) -/
def vget (vals : List (Str × Option Int)) (f : Str) : V := (valV (mergeK [] (valKV vals)) (sK f)).getD .non
def takenBy (kind field : Str) (n own : Int) (t : Th) : Bool := !decide (t.id = own) && (decide (t.kind = kind) && decide (vget t.vals field = .int n))
def needV (ths : List Th) (g : Str) (n : Int) : Str := match tfind ths n with
  | some t => if t.kind = g then "" else "need"
  | none => "need"
def whyV (ths : List Th) (tm : Str × List Str) (kind field : Str) (v : Option Int) (own : Int) : Str :=
  match v with
  | none => ""
  | some n =>
    if tm.1 = ("" : Str) then (if ("single" : Str) ∈ tm.2 then (if ths.any (takenBy kind field n own) then "taken" else "") else "")
    else needV ths tm.1 n
def formB (tm : Str × List Str) (v : Option Int) : Bool :=
  match v with
  | none => decide (("empty" : Str) ∈ tm.2)
  | some n => !decide (tm.1 = ("" : Str)) || (decide (0 ≤ n) && decide (n < 4294967296))
theorem put_all {κ : Type} [DecidableEq κ] {P : V → Prop} {kvs : List (κ × V)} {k : κ} {v : V} (h : ∀ kv ∈ kvs, P kv.2) (hv : P v) : ∀ kv ∈ putK kvs k v, P kv.2 := by
  intro kv hm
  unfold putK at hm
  split at hm
  · obtain ⟨x, hx, rfl⟩ := List.mem_map.mp hm
    by_cases q : x.1 = k
    · rw [if_pos q]; exact hv
    · rw [if_neg q]; exact h x hx
  · rcases List.mem_append.mp hm with hm | hm
    · exact h kv hm
    · rw [List.mem_singleton.mp hm]; exact hv
theorem merge_all {P : V → Prop} : ∀ {more kvs : List (Key × V)}, (∀ kv ∈ kvs, P kv.2) → (∀ kv ∈ more, P kv.2) → ∀ kv ∈ mergeK kvs more, P kv.2
  | [], _, h, _ => h
  | m :: more, kvs, h, g => merge_all (more := more) (put_all h (g m List.mem_cons_self)) fun kv hk => g kv (List.mem_cons_of_mem _ hk)
theorem valV_mem {κ : Type} [DecidableEq κ] {kvs : List (κ × V)} {k : κ} {v : V} (h : valV kvs k = some v) : ∃ kv ∈ kvs, kv.2 = v := by
  unfold valV at h
  cases e : kvs.find? (fun kv => decide (kv.1 = k)) with
  | none => rw [e] at h; cases h
  | some kv =>
    rw [e] at h
    exact ⟨kv, List.mem_of_find?_eq_some e, Option.some.inj h⟩
theorem vget_o (vals : List (Str × Option Int)) (f : Str) : ∃ o, vget vals f = oV o := by
  unfold vget
  cases e : valV (mergeK [] (valKV vals)) (sK f) with
  | none => exact ⟨none, rfl⟩
  | some v =>
    obtain ⟨kv, hk, rfl⟩ := valV_mem e
    refine merge_all (P := fun v => ∃ o, v = oV o) (fun _ h => absurd h List.not_mem_nil) (fun kv hk => ?_) kv hk
    obtain ⟨fv, _, rfl⟩ := List.mem_map.mp hk
    exact ⟨fv.2, rfl⟩
theorem tfind_mem {ths : List Th} (h : (ths.map (·.id)).Nodup) {i : Nat} {t : Th} (e : ths[i]? = some t) : tfind ths t.id = some t := by
  induction ths generalizing i with
  | nil => simp at e
  | cons a ths ih =>
    rw [List.map_cons, List.nodup_cons] at h
    cases i with
    | zero =>
      have e := Option.some.inj e
      subst e
      exact List.find?_cons_of_pos (by simp)
    | succ i =>
      have hm : t ∈ ths := List.mem_of_getElem? (i := i) e
      have ne : ¬ a.id = t.id := fun q => h.1 (by rw [q]; exact List.mem_map_of_mem hm)
      unfold tfind
      rw [List.find?_cons_of_neg (by simpa using ne)]
      exact ih h.2 e
structure Lk (K : PySem.W.Frag) (H : Hp) (A : LA) (W : Wd) (kd : Addr) (ds : List Addr) (kn : Kn) : Prop where
  lw : Lw K H A W
  kn : KndAt K H kd ds kn
  nd : [A.w, A.wT, A.wK, A.wF].Nodup
  ap : ∀ a ∈ [A.w, A.wT, A.wK, A.wF], a ∉ kd :: ds
  ids : (W.things.map (·.id)).Nodup
section
variable {K : PySem.W.Frag} {H H' : Hp} {A : LA} {W : Wd} {kd : Addr} {ds : List Addr} {kn : Kn}
theorem Lk.same (h : Lk K H A W kd ds kn) (s : Same H H') : Lk K H' A W kd ds kn := ⟨h.lw.same s, h.kn.same s, h.nd, h.ap, h.ids⟩
theorem Lk.ne (h : Lk K H A W kd ds kn) : A.w ≠ A.wT ∧ A.wK ≠ A.wT ∧ A.wF ≠ A.wT := by
  have := h.nd
  simp only [List.nodup_cons, List.mem_cons, List.not_mem_nil, or_false, not_or] at this
  exact ⟨this.1.1, fun q => this.2.1.1 q.symm, fun q => this.2.1.2 q.symm⟩
theorem frz_rd {a : Addr} {od : Obj} {u : HO} : Rd (upd H a (.frz od u)) a u := .inr ⟨od, upd_same⟩
theorem kp_lock {a : Addr} {od : Obj} {kvs : List (Key × V)} (h : H a = some (.dK kvs)) : Kp H (upd H a (.frz od (.dK kvs))) := .put h (fun z => z)
/-- locked, all is still to be read -/
theorem Lk.lock (h : Lk K H A W kd ds kn) {kvs : List (Key × V)} {od : Obj} (e : H A.wT = some (.dK kvs)) : LwR K (upd H A.wT (.frz od (.dK kvs))) A W ∧ KndAt K (upd H A.wT (.frz od (.dK kvs))) kd ds kn := by
  obtain ⟨n1, n2, n3⟩ := h.ne
  obtain ⟨kvs', a, b⟩ := h.lw.things
  have e2 : kvs' = kvs := by rw [e] at a; cases a; rfl
  subst e2
  have hap := h.ap A.wT (by simp)
  refine ⟨⟨by rw [upd_ne n1]; exact h.lw.w, ⟨kvs', frz_rd, ths_kp b (kp_lock e)⟩, .inl (by rw [upd_ne n2]; exact h.lw.toks), .inl (by rw [upd_ne n3]; exact h.lw.fences)⟩, h.kn.out (kp_lock e) (upd_ne (fun q => hap (by rw [q]; exact List.mem_cons_self))) fun d hd => upd_ne fun q => hap (by rw [← q]; exact List.mem_cons_of_mem _ hd)⟩
theorem same_unlock {a : Addr} {od : Obj} {u : HO} (e : H a = some u) (s : Same (upd H a (.frz od u)) H') : Same H (upd H' a u) := fun b o q => by
  by_cases z : b = a
  · subst z
    rw [upd_same]
    rw [e] at q
    exact q
  · rw [upd_ne z]
    exact s b o (by rw [upd_ne z]; exact q)
theorem same_frz {a : Addr} {od : Obj} {u : HO} (s : Same (upd H a (.frz od u)) H') : H' a = some (.frz od u) := s _ _ upd_same
theorem mem_names {names : List Str} {x : Str} : inV (.str x) (names.map V.str) = decide (x ∈ names) := by
  refine beq_of ?_
  unfold inV
  rw [List.any_map, List.any_eq_true, decide_eq_true_eq]
  constructor
  · rintro ⟨y, hy, e⟩
    have := of_decide_eq_true e
    rw [← this]
    exact hy
  · intro h
    exact ⟨x, h, decide_eq_true rfl⟩
theorem flat_strs (names : List Str) : (names.map V.str).all flatV = true := by
  rw [List.all_eq_true]
  intro x hx
  obtain ⟨y, _, rfl⟩ := List.mem_map.mp hx
  rfl
def spForm (K : PySem.W.Frag) : Sp := fun vs H Q _ => ∃ (kd : Addr) (ds : List Addr) (kn : Kn) (kind field : Str) (v : Option Int) (fs : List FT) (tm : Str × List Str), vs = [.ref kd, .str kind, .str field, oV v] ∧ KndAt K H kd ds kn ∧ kfind kn kind = some fs ∧ ffind fs field = some tm ∧ Q (.bl (formB tm v)) H
def spWhyV (K : PySem.W.Frag) : Sp := fun vs H Q _ => ∃ (A : LA) (W : Wd) (kd : Addr) (ds : List Addr) (kn : Kn) (kind field : Str) (v : Option Int) (own : Int) (fs : List FT) (tm : Str × List Str), vs = [.ref kd, .ref A.w, .str kind, .str field, oV v, .int own] ∧ Lk K H A W kd ds kn ∧ kfind kn kind = some fs ∧ ffind fs field = some tm ∧
  ∀ H', Same H H' → Q (.str (whyV W.things tm kind field v own)) H'
end
theorem eqv_strs : ∀ (a b : List Str), PyData.eqv (.list (a.map .str)) (.list (b.map .str)) = decide (a = b)
  | [], [] => rfl
  | [], b :: r => by rfl
  | a :: r, [] => by rfl
  | a :: r, b :: s => by
    have ih := eqv_strs r s
    have e : PyData.eqv (.list ((a :: r).map .str)) (.list ((b :: s).map .str)) = ((a == b) && PyData.eqv (.list (r.map .str)) (.list (s.map .str))) := by
      simp [PyData.eqv, PyData.eqvAll]
    rw [e, ih]
    by_cases h : a = b
    · subst h
      by_cases h2 : r = s <;> simp [h2]
    · simp [h]
end OW
/-! The outside as functions: why a call is refused, what it makes of the world. -/
namespace OW
open PySem PySem.Spec PyProof.Rows L2 LB
abbrev Vals_ := List (Str × Option Int)
abbrev Mk := Option (Int × Int)
def tmOf (fs : List FT) (f : Str) : Str × List Str := (ffind fs f).getD ("", [])
def HasF (fs : List FT) (vals : Vals_) : Prop := ∀ fv ∈ vals, ∃ tm, ffind fs fv.1 = some tm
theorem HasF.tm {fs : List FT} {vals : Vals_} (h : HasF fs vals) {fv : Str × Option Int} (m : fv ∈ vals) : ffind fs fv.1 = some (tmOf fs fv.1) := by
  obtain ⟨tm, e⟩ := h fv m
  unfold tmOf
  rw [e]
  rfl
def whysL (ths : List Th) (fs : List FT) (kind : Str) (vals : Vals_) (own : Int) : List Str := vals.map fun fv => whyV ths (tmOf fs fv.1) kind fv.1 fv.2 own
def pickW (l : List Str) : Str := if ("need" : Str) ∈ l then "need" else if ("taken" : Str) ∈ l then "taken" else ""
def firstW (ths : List Th) (fs : List FT) (kind : Str) (vals : Vals_) (own : Int) : Str := pickW (whysL ths fs kind vals own)
def goodB (fs : List FT) (vals : Vals_) : Bool := vals.all fun fv => formB (tmOf fs fv.1) fv.2
def fget (fs : List (Int × Int)) (o : Int) : Int := ((fs.find? fun e => decide (e.1 = o)).map (·.2)).getD 0
def oldB (fs : List (Int × Int)) : Mk → Bool
  | none => false
  | some m => decide (m.2 < fget fs m.1)
def knownB (ts : List (Tk × Int)) : Option Tk → Bool
  | none => false
  | some t => decide (t ∈ ts.map (·.1))
def fsOf (kn : Kn) (k : Str) : List FT := (kfind kn k).getD []
def makeW (kn : Kn) (W : Wd) (mk : Mk) (tok : Option Tk) (kind : Str) (vals : Vals_) : Str :=
  if oldB W.fences mk then "old" else if knownB W.toks tok then "known" else
    if vals.map (·.1) = (fsOf kn kind).map (·.1) then (if goodB (fsOf kn kind) vals then firstW W.things (fsOf kn kind) kind vals 0 else "form") else "form"
def needsB (kn : Kn) (one : Int) (t : Th) : Bool := t.vals.any fun fv => decide (oV fv.2 = .int one) && !decide ((tmOf (fsOf kn t.kind) fv.1).1 = ("" : Str))
def neededB (kn : Kn) (ths : List Th) (one : Int) : Bool := ths.any (needsB kn one)
def staleB (t : Th) : Option Int → Bool
  | none => false
  | some v => !decide (v = t.ver)
def otherW (W : Wd) (mk : Mk) (one : Int) (ver : Option Int) : Str :=
  if oldB W.fences mk then "old" else match tfind W.things one with
    | none => "gone"
    | some t => if staleB t ver then "stale" else ""
def changeForm (fs : List FT) (field : Str) (v : Option Int) : Bool := match ffind fs field with
  | none => false
  | some tm => !decide (("fixed" : Str) ∈ tm.2) && formB tm v
def changeW (kn : Kn) (W : Wd) (mk : Mk) (one : Int) (ver : Option Int) (field : Str) (v : Option Int) : Str :=
  if otherW W mk one ver = ("" : Str) then
    match tfind W.things one with
    | none => ""
    | some t => if changeForm (fsOf kn t.kind) field v then firstW W.things (fsOf kn t.kind) t.kind [(field, v)] one else "form"
  else otherW W mk one ver
def takeW (kn : Kn) (W : Wd) (mk : Mk) (one : Int) (ver : Option Int) : Str :=
  if otherW W mk one ver = ("" : Str) then (if neededB kn W.things one then "needed" else "") else otherW W mk one ver
/-! ### what becomes of the world -/
def newTh (W : Wd) (tok : Option Tk) (kind : Str) (vals : Vals_) : Th := ⟨W.nxt, kind, vals, 1, 1000 + 7 * W.nxt, tok⟩
def madeT (W : Wd) : Option Tk → List (Tk × Int)
  | none => W.toks
  | some t => W.toks ++ [(t, W.nxt)]
def doMake (kn : Kn) (W : Wd) (mk : Mk) (tok : Option Tk) (kind : Str) (vals : Vals_) : Wd :=
  if makeW kn W mk tok kind vals = ("" : Str) then ⟨W.things ++ [newTh W tok kind vals], madeT W tok, W.fences, W.mom + 1, W.nxt + 1⟩ else W
def setV (field : Str) (v : Option Int) (vals : Vals_) : Vals_ := vals.map fun fv => (fv.1, if fv.1 = field then v else fv.2)
def updTh (field : Str) (v : Option Int) (t : Th) : Th := { t with vals := setV field v t.vals, ver := t.ver + 1 }
def setT (one : Int) (field : Str) (v : Option Int) (ths : List Th) : List Th := ths.map fun t => if t.id = one then updTh field v t else t
def doChange (kn : Kn) (W : Wd) (mk : Mk) (one : Int) (ver : Option Int) (field : Str) (v : Option Int) : Wd :=
  if changeW kn W mk one ver field v = ("" : Str) then { W with things := setT one field v W.things, mom := W.mom + 1 } else W
def dropT (one : Int) (ths : List Th) : List Th := ths.filter fun t => !decide (t.id = one)
def doTake (kn : Kn) (W : Wd) (mk : Mk) (one : Int) (ver : Option Int) : Wd :=
  if takeW kn W mk one ver = ("" : Str) then { W with things := dropT one W.things, mom := W.mom + 1 } else W
def fput (fs : List (Int × Int)) (o r : Int) : List (Int × Int) := if fs.any (fun e => decide (e.1 = o)) then fs.map fun e => if e.1 = o then (e.1, r) else e else fs ++ [(o, r)]
def doFence (W : Wd) (m : Int × Int) : Wd := if fget W.fences m.1 < m.2 then { W with fences := fput W.fences m.1 m.2, mom := W.mom + 1 } else W
def ansD (why : Str) : PyData := if why = ("" : Str) then .tuple [.str "done"] else .tuple [.str "refused", .str why]
def ansM (why : Str) : PyData := if why = ("" : Str) ∨ why = ("known" : Str) then .tuple [.str "done"] else .tuple [.str "refused", .str why]
/-! ### what is true of a world at all times -/
def GoodTh (kn : Kn) (t : Th) : Prop := ∃ fs, kfind kn t.kind = some fs ∧ t.vals.map (·.1) = fs.map (·.1)
structure KnOk (kn : Kn) : Prop where
  srt : ∀ k fs, kfind kn k = some fs → ∀ ys : List Str, ys.Perm (fs.map (·.1)) → sortedS ys = true → ys = fs.map (·.1)
  few : ∀ k fs, kfind kn k = some fs → fs.length < 60
  nd : ∀ k fs, kfind kn k = some fs → (fs.map (·.1)).Nodup
  ref : ∀ k fs, kfind kn k = some fs → ∀ f ∈ fs, ¬ f.2.1 = ("" : Str) → ("single" : Str) ∉ f.2.2
  txt : ∀ k fs, kfind kn k = some fs → ∀ f ∈ fs.map (·.1), PyData.strOk f = true
structure WOk (kn : Kn) (W : Wd) : Prop where
  ids : (W.things.map (·.id)).Pairwise (· < ·)
  low : ∀ t ∈ W.things, 0 < t.id ∧ t.id < W.nxt
  good : ∀ t ∈ W.things, GoodTh kn t
  lenT : W.things.length < 60
  lenK : W.toks.length < 60
  lenF : W.fences.length < 60
  kF : (W.fences.map (·.1)).Nodup
  kK : (W.toks.map (·.1)).Nodup
  nxt : 0 < W.nxt
theorem ffind_mem {fs : List FT} {f : Str} (h : f ∈ fs.map (·.1)) : ∃ tm, ffind fs f = some tm := by
  unfold ffind
  cases e : fs.find? (fun e => decide (e.1 = f)) with
  | some tm => exact ⟨_, rfl⟩
  | none =>
    obtain ⟨x, hx, rfl⟩ := List.mem_map.mp h
    have := List.find?_eq_none.mp e x hx
    simp at this
theorem hasF_of {fs : List FT} {vals : Vals_} (h : vals.map (·.1) = fs.map (·.1)) : HasF fs vals := fun fv m => ffind_mem (by rw [← h]; exact List.mem_map_of_mem m)
theorem WOk.nd {kn : Kn} {W : Wd} (h : WOk kn W) : (W.things.map (·.id)).Nodup := h.ids.imp fun q => Int.ne_of_lt q
theorem tfind_some {ths : List Th} {i : Int} {t : Th} (h : tfind ths i = some t) : t ∈ ths ∧ t.id = i := by
  unfold tfind at h
  exact ⟨List.mem_of_find?_eq_some h, by have := List.find?_some h; simpa using this⟩
theorem fsOf_some {kn : Kn} {k : Str} {fs : List FT} (h : kfind kn k = some fs) : fsOf kn k = fs := by unfold fsOf; rw [h]; rfl
theorem fval {fs : List (Int × Int)} {o : Int} : (valV (itK fs) (Sum.inl o)).getD (.int 0) = .int (fget fs o) := by
  have : valV (itK fs) (Sum.inl o) = ((fs.find? fun e => decide (e.1 = o)).map (·.2)).map V.int := by
    induction fs with
    | nil => rfl
    | cons e fs ih =>
      show valV ((Sum.inl e.1, V.int e.2) :: itK fs) (Sum.inl o) = _
      rw [valV_cons]
      by_cases h : e.1 = o
      · rw [if_pos (by rw [h]), List.find?_cons_of_pos (by simpa using h)]
        rfl
      · rw [if_neg (by intro z; injection z with z; exact h z), List.find?_cons_of_neg (by simpa using h)]
        exact ih
  rw [this]
  unfold fget
  cases fs.find? (fun e => decide (e.1 = o)) <;> rfl
theorem tokv {ts : List (Tk × Int)} {t : Tk} : (valV (tokK ts) (kPair t)).isSome = decide (t ∈ ts.map (·.1)) := by
  induction ts with
  | nil => rfl
  | cons e ts ih =>
    show (valV ((kPair e.1, V.int e.2) :: tokK ts) (kPair t)).isSome = _
    rw [valV_cons]
    by_cases h : e.1 = t
    · rw [if_pos (by rw [h])]
      simp [h]
    · have h2 : ¬ kPair e.1 = kPair t := fun z => h (by
        have z : [Sum.inl e.1.1, (Sum.inl e.1.2 : Key)] = [Sum.inl t.1, Sum.inl t.2] := z
        injection z with z1 z2
        injection z2 with z2
        injection z1 with z1
        injection z2 with z2
        exact Prod.ext z1 z2)
      rw [if_neg h2, ih]
      have : (t ∈ List.map (·.1) (e :: ts)) ↔ t ∈ ts.map (·.1) := by
        rw [List.map_cons, List.mem_cons]
        exact ⟨fun q => q.elim (fun z => absurd z.symm h) id, .inr⟩
      exact (decide_eq_decide.mpr this).symm
theorem ffind_in {fs : List FT} {f : Str} {tm : Str × List Str} (h : ffind fs f = some tm) : f ∈ fs.map (·.1) := by
  unfold ffind at h
  cases e : fs.find? (fun e => decide (e.1 = f)) with
  | none => rw [e] at h; cases h
  | some x =>
    have h1 := List.mem_of_find?_eq_some e
    have h2 : x.1 = f := by have := List.find?_some e; simpa using this
    rw [← h2]
    exact List.mem_map_of_mem h1
theorem can_strs : ∀ (l : List Str), (∀ x ∈ l, PyData.strOk x = true) → PyData.canLayAll0 (l.map PyData.str) = true
  | [], _ => rfl
  | x :: l, h => by
    have h1 := can_strs l fun y hy => h y (List.mem_cons_of_mem _ hy)
    have h2 := h x List.mem_cons_self
    simp [PyData.canLayAll0, PyData.canLay0, h2, h1]
theorem dep_strs : ∀ (l : List Str), PyData.depthAll (l.map PyData.str) ≤ 1
  | [] => by simp [PyData.depthAll]
  | x :: l => by
    have h := dep_strs l
    simp [PyData.depthAll, PyData.depth]
    omega
theorem shaped_strs {l : List Str} (h : ∀ x ∈ l, PyData.strOk x = true) : SeqAt.shaped (.list (l.map PyData.str)) = true := by
  have h1 := can_strs l h
  have h2 := dep_strs l
  unfold SeqAt.shaped
  have e1 : (PyData.list (l.map PyData.str)).canLay0 = true := h1
  have e2 : (PyData.list (l.map PyData.str)).depth ≤ 64 := by
    have : (PyData.list (l.map PyData.str)).depth = PyData.depthAll (l.map PyData.str) + 1 := by simp [PyData.depth]
    rw [this]; omega
  rw [e1, decide_eq_true e2]
  rfl
section
variable {K : PySem.W.Frag}
def MkAt (K : PySem.W.Frag) (H : Hp) (v : V) : Mk → Prop
  | none => v = .non
  | some m => ∃ a, v = .ref a ∧ SqT K H a [.int m.1, .int m.2]
def TokV (K : PySem.W.Frag) (H : Hp) (v : V) : Option Tk → Prop
  | none => v = .non
  | some m => ∃ a, v = .ref a ∧ H a = some (.tup [.int m.1, .int m.2])
theorem MkAt.kp {H H' : Hp} {v : V} {m : Mk} (h : MkAt K H v m) (k : Kp H H') : MkAt K H' v m := by
  cases m with
  | none => exact h
  | some m => obtain ⟨a, e, s⟩ := h; exact ⟨a, e, sq_kp s k⟩
theorem TokV.kp {H H' : Hp} {v : V} {m : Option Tk} (h : TokV K H v m) (k : Kp H H') : TokV K H' v m := by
  cases m with
  | none => exact h
  | some m => obtain ⟨a, e, s⟩ := h; exact ⟨a, e, k _ _ trivial s⟩
/-- a tuple or a list of pairs -/
def ValsX (K : PySem.W.Frag) (H : Hp) (va : Addr) (vals : Vals_) : Prop := ∃ ps : List Addr, (SqT K H va (ps.map V.ref) ∨ SqL K H va (ps.map V.ref)) ∧ Paired (fun p (fv : Str × Option Int) => SqT K H p [.str fv.1, oV fv.2]) ps vals
theorem sqT_pl {H : Hp} {a : Addr} {xs : List V} (h : PlT H a xs) : SqT K H a xs := by
  obtain ⟨o, h, _⟩ := h
  exact .inl (.inr ⟨o, h⟩)
theorem ValsAt.x {H : Hp} {va : Addr} {vals : Vals_} (h : ValsAt K H va vals) : ValsX K H va vals := by
  obtain ⟨ps, h1, h2⟩ := h
  exact ⟨ps, .inl (sqT_pl h1), h2⟩
def spFirst (K : PySem.W.Frag) : Sp := fun vs H Q _ => ∃ (A : LA) (W : Wd) (kd : Addr) (ds : List Addr) (kn : Kn) (kind : Str) (va : Addr) (vals : Vals_) (own : Int) (fs : List FT), vs = [.ref kd, .ref A.w, .str kind, .ref va, .int own] ∧ Lk K H A W kd ds kn ∧ kfind kn kind = some fs ∧ ValsX K H va vals ∧ vals.length < 60 ∧ HasF fs vals ∧
  ∀ H', Same H H' → Q (.str (firstW W.things fs kind vals own)) H'
def spNeeded (K : PySem.W.Frag) : Sp := fun vs H Q _ => ∃ (A : LA) (W : Wd) (kd : Addr) (ds : List Addr) (kn : Kn) (one : Int), vs = [.ref kd, .ref A.w, .int one] ∧ Lk K H A W kd ds kn ∧ WOk kn W ∧ ∀ H', Same H H' → Q (.bl (neededB kn W.things one)) H'
def spMakeW (K : PySem.W.Frag) : Sp := fun vs H Q _ => ∃ (A : LA) (W : Wd) (kd : Addr) (ds : List Addr) (kn : Kn) (mk : Mk) (tok : Option Tk) (mv tv : V) (kind : Str) (va : Addr) (vals : Vals_) (fs : List FT), vs = [.ref kd, .ref A.w, mv, tv, .str kind, .ref va] ∧ Lk K H A W kd ds kn ∧ KnOk kn ∧ WOk kn W ∧ MkAt K H mv mk ∧ TokV K H tv tok ∧ kfind kn kind = some fs ∧ ValsAt K H va vals ∧ vals.length < 60 ∧ HasF fs vals ∧
  ∀ H', Same H H' → Q (.str (makeW kn W mk tok kind vals)) H'
def spOtherW (K : PySem.W.Frag) : Sp := fun vs H Q _ => ∃ (A : LA) (W : Wd) (kd : Addr) (ds : List Addr) (kn : Kn) (mk : Mk) (mv : V) (one : Int) (ver : Option Int), vs = [.ref kd, .ref A.w, mv, .int one, oV ver] ∧ Lk K H A W kd ds kn ∧ MkAt K H mv mk ∧ Q (.str (otherW W mk one ver)) H
def spChangeW (K : PySem.W.Frag) : Sp := fun vs H Q _ => ∃ (A : LA) (W : Wd) (kd : Addr) (ds : List Addr) (kn : Kn) (mk : Mk) (mv : V) (one : Int) (ver : Option Int) (field : Str) (v : Option Int), vs = [.ref kd, .ref A.w, mv, .int one, oV ver, .str field, oV v] ∧ Lk K H A W kd ds kn ∧ WOk kn W ∧ MkAt K H mv mk ∧
  ∀ H', Same H H' → Q (.str (changeW kn W mk one ver field v)) H'
end
end OW
/-! Worlds that change: what stands in the heap behind each write. -/
namespace OW
open PySem PySem.Spec PyProof.Rows L2 LB
structure Ch (S : List Addr) (H H' : Hp) : Prop where
  out : ∀ a o, a ∉ S → H a = some o → H' a = some o
  kp : Kp H H'
theorem Ch.refl {S : List Addr} {H : Hp} : Ch S H H := ⟨fun _ _ _ e => e, .refl⟩
theorem Ch.of_same {S : List Addr} {H H' : Hp} (h : Same H H') : Ch S H H' := ⟨fun a o _ e => h a o e, .of_same h⟩
theorem Ch.trans {S : List Addr} {H H1 H2 : Hp} (a : Ch S H H1) (b : Ch S H1 H2) : Ch S H H2 := ⟨fun x o n e => b.out x o n (a.out x o n e), a.kp.trans b.kp⟩
theorem Ch.put {S : List Addr} {H : Hp} {p : Addr} {u o : HO} (h : H p = some u) (n : ¬ Imm u) (m : p ∈ S) : Ch S H (upd H p o) := ⟨fun a x na e => by rw [upd_ne (fun q => na (by rw [q]; exact m))]; exact e, .put h n⟩
theorem Ch.mono {S S' : List Addr} {H H' : Hp} (h : Ch S H H') (s : ∀ a ∈ S, a ∈ S') : Ch S' H H' := ⟨fun a o n e => h.out a o (fun q => n (s a q)) e, h.kp⟩
abbrev LA.S (A : LA) : List Addr := [A.w, A.wT, A.wK, A.wF]
section
variable {K : PySem.W.Frag} {H H' : Hp} {A : LA} {W : Wd} {kd : Addr} {ds : List Addr} {kn : Kn}
theorem KndAt.ch (h : KndAt K H kd ds kn) {S : List Addr} (c : Ch S H H') (n : ∀ a ∈ S, a ∉ kd :: ds) : KndAt K H' kd ds kn := by
  refine h.out c.kp ?_ fun d hd => ?_
  · obtain ⟨kvs, q, _⟩ := h.top
    rw [q]
    exact c.out _ _ (fun m => n _ m List.mem_cons_self) q
  · obtain ⟨i, hi⟩ := List.mem_iff_getElem?.mp hd
    have hl := h.len
    have h2 := (List.getElem?_eq_some_iff.mp hi).1
    obtain ⟨fvs, q, _⟩ := h.fld i d (kn[i]'(by omega)) hi (List.getElem?_eq_getElem (by omega))
    rw [q]
    exact c.out _ _ (fun m => n _ m (List.mem_cons_of_mem _ hd)) q
theorem Lk.new (h : Lk K H A W kd ds kn) {W' : Wd} (c : Ch A.S H H') (l : Lw K H' A W') (hid : (W'.things.map (·.id)).Nodup) : Lk K H' A W' kd ds kn :=
  ⟨l, h.kn.ch c h.ap, h.nd, h.ap, hid⟩
theorem nd4 (h : A.S.Nodup) : A.w ≠ A.wT ∧ A.w ≠ A.wK ∧ A.w ≠ A.wF ∧ A.wT ≠ A.wK ∧ A.wT ≠ A.wF ∧ A.wK ≠ A.wF := by
  simp only [LA.S, List.nodup_cons, List.mem_cons, List.not_mem_nil, or_false, not_or] at h
  exact ⟨h.1.1, h.1.2.1, h.1.2.2, h.2.1.1, h.2.1.2, h.2.2.1⟩
theorem put_next {n : Int} : putK (wdK A W) (sK "next") (.int n) = wdK A { W with nxt := n } := by
  obtain ⟨a, b, c, d, e, f, g, i, j, k⟩ := wd_ne
  unfold putK wdK
  simp only [List.any_cons, List.map_cons, d, g, j, k, decide_true, if_true, if_false, Bool.or_true, List.map_nil, Bool.true_or]
theorem put_mom {n : Int} : putK (wdK A W) (sK "moment") (.int n) = wdK A { W with mom := n } := by
  obtain ⟨a, b, c, d, e, f, g, i, j, k⟩ := wd_ne
  have k' : ¬ sK "next" = sK "moment" := fun q => k q.symm
  unfold putK wdK
  simp only [List.any_cons, List.map_cons, c, f, i, k', decide_true, if_true, if_false, Bool.or_true, List.map_nil, Bool.true_or]
theorem wput {k : Key} {v : V} {r : List (Key × V)} (hw : H A.w = some (.dK (wdK A W))) (e : putK (wdK A W) k v = r) : DPut H A.w (kV k) v (upd H A.w (.dK r)) := by
  have h := DPut.k (k := k) (v := v) hw (by show 5 < sizeLine; decide)
  rwa [e] at h
theorem Lw.setW (h : Lw K H A W) (nd : A.S.Nodup) {W' : Wd} (h1 : W'.things = W.things) (h2 : W'.toks = W.toks) (h3 : W'.fences = W.fences) : Lw K (upd H A.w (.dK (wdK A W'))) A W' := by
  obtain ⟨n1, n2, n3, n4, n5, n6⟩ := nd4 nd
  have k : Kp H (upd H A.w (.dK (wdK A W'))) := .put h.w (fun z => z)
  refine ⟨upd_same, ?_, ?_, ?_⟩
  · obtain ⟨kvs, a, b⟩ := h.things
    rw [h1]
    exact ⟨kvs, by rw [upd_ne n1.symm]; exact a, ths_kp b k⟩
  · rw [upd_ne n2.symm, h2]; exact h.toks
  · rw [upd_ne n3.symm, h3]; exact h.fences
theorem wdK_eq {W W' : Wd} (h1 : W'.mom = W.mom) (h2 : W'.nxt = W.nxt) : wdK A W' = wdK A W := by unfold wdK; rw [h1, h2]
theorem Lw.setT (h : Lw K H A W) (nd : A.S.Nodup) {kvs : List (Key × V)} {ths : List Th} (hR : ThsR K (upd H A.wT (.dK kvs)) kvs ths) : Lw K (upd H A.wT (.dK kvs)) A { W with things := ths } := by
  obtain ⟨n1, n2, n3, n4, n5, n6⟩ := nd4 nd
  exact ⟨by rw [upd_ne n1]; exact h.w, ⟨kvs, upd_same, hR⟩, by rw [upd_ne n4.symm]; exact h.toks, by rw [upd_ne n5.symm]; exact h.fences⟩
theorem Lw.setK (h : Lw K H A W) (nd : A.S.Nodup) {ts : List (Tk × Int)} : Lw K (upd H A.wK (.dT (tokK ts))) A { W with toks := ts } := by
  obtain ⟨n1, n2, n3, n4, n5, n6⟩ := nd4 nd
  refine ⟨by rw [upd_ne n2]; exact h.w, ?_, upd_same, by rw [upd_ne n6.symm]; exact h.fences⟩
  obtain ⟨kvs, a, b⟩ := h.things
  exact ⟨kvs, by rw [upd_ne n4]; exact a, ths_kp b (.put h.toks (fun z => z))⟩
theorem Lw.setF (h : Lw K H A W) (nd : A.S.Nodup) {fs : List (Int × Int)} : Lw K (upd H A.wF (.dK (itK fs))) A { W with fences := fs } := by
  obtain ⟨n1, n2, n3, n4, n5, n6⟩ := nd4 nd
  refine ⟨by rw [upd_ne n3]; exact h.w, ?_, by rw [upd_ne n6]; exact h.toks, upd_same⟩
  obtain ⟨kvs, a, b⟩ := h.things
  exact ⟨kvs, by rw [upd_ne n5]; exact a, ths_kp b (.put h.fences (fun z => z))⟩
/-! ### the dicts themselves -/
theorem any_put {κ : Type} [DecidableEq κ] {kvs : List (κ × V)} {k : κ} : (kvs.any fun kv => decide (kv.1 = k)) = (valV kvs k).isSome := by
  induction kvs with
  | nil => rfl
  | cons kv kvs ih =>
    rw [List.any_cons, valV_cons, ih]
    by_cases h : kv.1 = k
    · rw [if_pos h, decide_eq_true h]; rfl
    · rw [if_neg h, decide_eq_false h]; rfl
theorem put_new {κ : Type} [DecidableEq κ] {kvs : List (κ × V)} {k : κ} {v : V} (h : valV kvs k = none) : putK kvs k v = kvs ++ [(k, v)] := by
  unfold putK
  rw [any_put, h]
  rfl
theorem put_old {κ : Type} [DecidableEq κ] {kvs : List (κ × V)} {k : κ} {v u : V} (h : valV kvs k = some u) : putK kvs k v = kvs.map (fun kv => if kv.1 = k then (kv.1, v) else kv) := by
  unfold putK
  rw [any_put, h]
  rfl
theorem par_map {α β α' β' : Type} {F : α → β → Prop} {G : α' → β' → Prop} {f : α → α'} {g : β → β'} (h : ∀ a b, F a b → G (f a) (g b)) : ∀ {xs : List α} {ys : List β}, Paired F xs ys → Paired G (xs.map f) (ys.map g)
  | _, _, .nil => .nil
  | _, _, .cons a b => .cons (h _ _ a) (par_map h b)
theorem ths_new {kvs : List (Key × V)} {ths : List Th} {a : Addr} {t : Th} (h : ThsR K H kvs ths) (e : tfind ths t.id = none) (ht : ThAt K H a t) : ThsR K H (putK kvs (Sum.inl t.id) (.ref a)) (ths ++ [t]) := by
  rw [put_new (ths_none h e)]
  exact par_snoc h ⟨rfl, a, rfl, ht⟩
theorem ths_set {kvs : List (Key × V)} {ths : List Th} {a : Addr} {t t' : Th} {one : Int} (h : ThsR K H kvs ths) (e : tfind ths one = some t) (hid : t'.id = one) (ht : ThAt K H a t') : ThsR K H (putK kvs (Sum.inl one) (.ref a)) (ths.map fun s => if s.id = one then t' else s) := by
  obtain ⟨b, hb, _⟩ := ths_some h e
  rw [put_old hb]
  refine par_map (fun kv s q => ?_) h
  obtain ⟨q1, q2⟩ := q
  by_cases z : s.id = one
  · rw [if_pos (by rw [q1, z]), if_pos z]
    exact ⟨by rw [q1, z, hid], a, rfl, ht⟩
  · rw [if_neg (by rw [q1]; intro w; injection w with w; exact z w), if_neg z]
    exact ⟨q1, q2⟩
theorem ths_drop {kvs : List (Key × V)} {ths : List Th} {one : Int} (h : ThsR K H kvs ths) : ThsR K H (dropK kvs (Sum.inl one)) (dropT one ths) := by
  unfold dropK dropT
  induction h with
  | nil => exact .nil
  | cons a b ih =>
    rename_i kv s kvs ths
    by_cases z : s.id = one
    · rw [List.filter_cons_of_neg (by rw [a.1, z]; simp), List.filter_cons_of_neg (by simpa using z)]
      exact ih
    · rw [List.filter_cons_of_pos (by rw [a.1]; simpa using z), List.filter_cons_of_pos (by simpa using z)]
      exact .cons a ih
theorem set_eq {ths : List Th} {one : Int} {field : Str} {v : Option Int} {t : Th} (nd : (ths.map (·.id)).Nodup) (e : tfind ths one = some t) : setT one field v ths = ths.map fun s => if s.id = one then updTh field v t else s := by
  unfold setT
  refine List.map_congr_left fun s hs => ?_
  by_cases z : s.id = one
  · rw [if_pos z, if_pos z]
    obtain ⟨i, hi⟩ := List.mem_iff_getElem?.mp hs
    have e2 := tfind_mem nd hi
    rw [z, e] at e2
    rw [Option.some.inj e2]
  · rw [if_neg z, if_neg z]
theorem put_fence {fs : List (Int × Int)} {o r : Int} : putK (itK fs) (Sum.inl o) (.int r) = itK (fput fs o r) := by
  unfold putK fput itK
  have e : ((fs.map fun e => ((Sum.inl e.1 : Key), V.int e.2)).any fun kv => decide (kv.1 = Sum.inl o)) = fs.any fun e => decide (e.1 = o) := by
    rw [List.any_map]
    congr 1
    funext x
    exact decide_eq_decide.mpr ⟨fun w => by injection w, fun w => by rw [← w]⟩
  rw [e]
  cases fs.any (fun e => decide (e.1 = o)) with
  | true =>
    rw [if_pos rfl, if_pos rfl, List.map_map, List.map_map]
    refine List.map_congr_left fun x _ => ?_
    show (if (Sum.inl x.1 : Key) = Sum.inl o then _ else _) = _
    by_cases z : x.1 = o
    · rw [if_pos (by rw [z])]
      simp [z]
    · rw [if_neg (by intro w; injection w with w; exact z w)]
      simp [z]
  | false =>
    rw [if_neg (by simp), if_neg (by simp), List.map_append]
    rfl
theorem put_tok {ts : List (Tk × Int)} {t : Tk} {n : Int} (h : t ∉ ts.map (·.1)) : putK (tokK ts) (kPair t) (.int n) = tokK (ts ++ [(t, n)]) := by
  have e := tokv (ts := ts) (t := t)
  rw [decide_eq_false h] at e
  have e2 : valV (tokK ts) (kPair t) = none := by
    cases q : valV (tokK ts) (kPair t) with
    | none => rfl
    | some v => rw [q] at e; cases e
  rw [put_new e2]
  unfold tokK
  rw [List.map_append]
  rfl
/-! ### answers, promises -/
def ansV (why : Str) : List V := if why = ("" : Str) then [.str "done"] else [.str "refused", .str why]
def AnsAt (K : PySem.W.Frag) (H : Hp) (v : V) (why : Str) : Prop := ∃ a, v = .ref a ∧ SqT K H a (ansV why)
theorem AnsAt.kp {v : V} {why : Str} (h : AnsAt K H v why) (k : Kp H H') : AnsAt K H' v why := by
  obtain ⟨a, e, s⟩ := h
  exact ⟨a, e, sq_kp s k⟩
def ansW (why : Str) : Str := if why = ("known" : Str) then "" else why
/-- what a change of the law's world promises -/
def LEnd (K : PySem.W.Frag) (H : Hp) (A : LA) (W' : Wd) (why : Str) (Q : VK) : Prop := ∀ (v : V) (H' : Hp), Ch A.S H H' → Lw K H' A W' → AnsAt K H' v why → Q v H'
def spDoMake (K : PySem.W.Frag) : Sp := fun vs H Q _ => ∃ (A : LA) (W : Wd) (kd : Addr) (ds : List Addr) (kn : Kn) (mk : Mk) (tok : Option Tk) (mv tv : V) (kind : Str) (va : Addr) (vals : Vals_) (fs : List FT), vs = [.ref kd, .ref A.w, mv, tv, .str kind, .ref va] ∧ Lk K H A W kd ds kn ∧ KnOk kn ∧ WOk kn W ∧ MkAt K H mv mk ∧ TokV K H tv tok ∧ kfind kn kind = some fs ∧ ValsAt K H va vals ∧ vals.length < 60 ∧ HasF fs vals ∧
  LEnd K H A (doMake kn W mk tok kind vals) (ansW (makeW kn W mk tok kind vals)) Q
def spDoChange (K : PySem.W.Frag) : Sp := fun vs H Q _ => ∃ (A : LA) (W : Wd) (kd : Addr) (ds : List Addr) (kn : Kn) (mk : Mk) (mv : V) (one : Int) (ver : Option Int) (field : Str) (v : Option Int), vs = [.ref kd, .ref A.w, mv, .int one, oV ver, .str field, oV v] ∧ Lk K H A W kd ds kn ∧ KnOk kn ∧ WOk kn W ∧ MkAt K H mv mk ∧
  LEnd K H A (doChange kn W mk one ver field v) (changeW kn W mk one ver field v) Q
def spDoTake (K : PySem.W.Frag) : Sp := fun vs H Q _ => ∃ (A : LA) (W : Wd) (kd : Addr) (ds : List Addr) (kn : Kn) (mk : Mk) (mv : V) (one : Int) (ver : Option Int), vs = [.ref kd, .ref A.w, mv, .int one, oV ver] ∧ Lk K H A W kd ds kn ∧ WOk kn W ∧ MkAt K H mv mk ∧
  LEnd K H A (doTake kn W mk one ver) (takeW kn W mk one ver) Q
/-! ### calls -/
inductive Cl where
  | fence (m : Int × Int)
  | make (m : Int × Int) (t : Tk) (kind : Str) (vals : Vals_)
  | change (m : Int × Int) (one ver : Int) (field : Str) (v : Option Int)
  | take (m : Int × Int) (one ver : Int)
def ClAt (K : PySem.W.Frag) (H : Hp) (kn : Kn) (a : Addr) : Cl → Prop
  | .fence m => ∃ ma, SqT K H a [.str "fence", .ref ma] ∧ SqT K H ma [.int m.1, .int m.2]
  | .make m t kind vals => ∃ ma ta va fs, SqT K H a [.str "make", .ref ma, .ref ta, .str kind, .ref va] ∧ SqT K H ma [.int m.1, .int m.2] ∧ H ta = some (.tup [.int t.1, .int t.2]) ∧ ValsAt K H va vals ∧ kfind kn kind = some fs ∧ vals.length < 60 ∧ HasF fs vals
  | .change m one ver field v => ∃ ma, SqT K H a [.str "change", .ref ma, .int one, .int ver, .str field, oV v] ∧ SqT K H ma [.int m.1, .int m.2]
  | .take m one ver => ∃ ma, SqT K H a [.str "take", .ref ma, .int one, .int ver] ∧ SqT K H ma [.int m.1, .int m.2]
theorem ClAt.kp {a : Addr} {c : Cl} (h : ClAt K H kn a c) (k : Kp H H') : ClAt K H' kn a c := by
  cases c with
  | fence m => obtain ⟨ma, h1, h2⟩ := h; exact ⟨ma, sq_kp h1 k, sq_kp h2 k⟩
  | make m t kind vals => obtain ⟨ma, ta, va, fs, h1, h2, h3, h4, h5⟩ := h; exact ⟨ma, ta, va, fs, sq_kp h1 k, sq_kp h2 k, k _ _ trivial h3, vals_kp h4 k, h5⟩
  | change m one ver field v => obtain ⟨ma, h1, h2⟩ := h; exact ⟨ma, sq_kp h1 k, sq_kp h2 k⟩
  | take m one ver => obtain ⟨ma, h1, h2⟩ := h; exact ⟨ma, sq_kp h1 k, sq_kp h2 k⟩
def doW (kn : Kn) (W : Wd) : Cl → Wd
  | .fence m => doFence W m
  | .make m t kind vals => doMake kn W (some m) (some t) kind vals
  | .change m one ver field v => doChange kn W (some m) one (some ver) field v
  | .take m one ver => doTake kn W (some m) one (some ver)
def whyW (kn : Kn) (W : Wd) : Cl → Str
  | .fence _ => ""
  | .make m t kind vals => ansW (makeW kn W (some m) (some t) kind vals)
  | .change m one ver field v => changeW kn W (some m) one (some ver) field v
  | .take m one ver => takeW kn W (some m) one (some ver)
def spLDo (K : PySem.W.Frag) : Sp := fun vs H Q _ => ∃ (A : LA) (W : Wd) (kd : Addr) (ds : List Addr) (kn : Kn) (a : Addr) (c : Cl), vs = [.ref kd, .ref A.w, .ref a] ∧ Lk K H A W kd ds kn ∧ KnOk kn ∧ WOk kn W ∧ ClAt K H kn a c ∧
  LEnd K H A (doW kn W c) (whyW kn W c) Q
end
end OW
/-! Looks as data; what is drawn. -/
namespace OW
open PySem PySem.Spec PyProof.Rows L2 LB
def oD : Option Int → PyData
  | none => .none
  | some n => .int n
def tokD : Option Tk → PyData
  | none => .tuple []
  | some t => .tuple [.int t.1, .int t.2]
def iiD (e : Int × Int) : PyData := .tuple [.int e.1, .int e.2]
def fvD (fv : Str × Option Int) : PyData := .tuple [.str fv.1, oD fv.2]
def thD (t : Th) : PyData := .tuple [.int t.id, .str t.kind, .tuple (t.vals.map fvD), .int t.ver, .int t.told, tokD t.tok]
def lookD (mom : Int) (fences : List (Int × Int)) (things : List Th) (spent : List Tk) : PyData := .tuple [.int mom, .tuple (fences.map iiD), .tuple (things.map thD), .tuple (spent.map iiD)]
def spentW (W : Wd) : List Tk := (W.toks.filter fun e => (tfind W.things e.2).isNone).map (·.1)
section
variable {K : PySem.W.Frag} {H H' : Hp} {A : LA} {W : Wd} {kd : Addr} {ds : List Addr} {kn : Kn}
theorem dp_o (o : Option Int) : Dp K H (oV o) (oD o) := by
  cases o with
  | none => exact .non
  | some n => exact .int n
theorem dpAll_par {α : Type} {F : Addr → α → Prop} {f : α → PyData} (h : ∀ a x, F a x → Dp K H (.ref a) (f x)) : ∀ {as : List Addr} {xs : List α}, Paired F as xs → DpAll K H (as.map V.ref) (xs.map f)
  | _, _, .nil => .nil
  | _, _, .cons a b => .cons (h _ _ a) (dpAll_par h b)
theorem vals_dp {va : Addr} {vals : Vals_} (h : ValsAt K H va vals) : Dp K H (.ref va) (.tuple (vals.map fvD)) := by
  obtain ⟨ps, pl, pp⟩ := h
  exact .tup (sqT_pl pl) (dpAll_par (f := fvD) (fun a x q => show Dp K H (.ref a) (.tuple [.str x.1, oD x.2]) from .tup q (.cons (.str _) (.cons (dp_o _) .nil))) pp)
theorem tok_dp {ta : Addr} {t : Option Tk} (h : TokAt K H ta t) : Dp K H (.ref ta) (tokD t) := by
  cases t with
  | none => exact .tup h .nil
  | some t => exact .tup (.of h) (.cons (.int _) (.cons (.int _) .nil))
theorem th_dp {a : Addr} {t : Th} (h : ThAt K H a t) : Dp K H (.ref a) (thD t) := by
  obtain ⟨va, ta, h1, h2, h3⟩ := h
  exact .tup h1 (.cons (.int _) (.cons (.str _) (.cons (vals_dp h2) (.cons (.int _) (.cons (.int _) (.cons (tok_dp h3) .nil))))))
theorem ths_keys {kvs : List (Key × V)} {ths : List Th} (h : ThsR K H kvs ths) : kvs.map (·.1) = (ths.map (·.id)).map Sum.inl := by
  induction h with
  | nil => rfl
  | cons a b ih => rw [List.map_cons, List.map_cons, List.map_cons, a.1, ih]
theorem sorted_ids {l ys : List Int} (h : l.Pairwise (· < ·)) (p : ys.Perm l) (s : ys.Pairwise (· ≤ ·)) : ys = l :=
  List.Perm.eq_of_pairwise (le := (· ≤ ·)) (fun a b _ _ h1 h2 => Int.le_antisymm h1 h2) s (h.imp fun q => Int.le_of_lt q) p
theorem Lk.ch (h : Lk K H A W kd ds kn) {S : List Addr} (c : Ch S H H') (n1 : ∀ a ∈ S, a ∉ A.S) (n2 : ∀ a ∈ S, a ∉ kd :: ds) : Lk K H' A W kd ds kn := by
  have o : ∀ a ∈ A.S, ∀ u, H a = some u → H' a = some u := fun a m u e => c.out a u (fun q => n1 a q m) e
  refine ⟨⟨o _ (by simp) _ h.lw.w, ?_, o _ (by simp) _ h.lw.toks, o _ (by simp) _ h.lw.fences⟩, h.kn.ch c n2, h.nd, h.ap, h.ids⟩
  obtain ⟨kvs, a, b⟩ := h.lw.things
  exact ⟨kvs, o _ (by simp) _ a, ths_kp b c.kp⟩
/-- a tape and the law's world -/
structure Sc (K : PySem.W.Frag) (H : Hp) (t c : Addr) (cs : List Int) (A : LA) (W : Wd) (kd : Addr) (ds : List Addr) (kn : Kn) : Prop where
  tp : Tape t c cs H
  lk : Lk K H A W kd ds kn
  nA : t ∉ A.S
  nK : t ∉ kd :: ds
theorem tape_same {t c : Addr} {cs : List Int} (T : Tape t c cs H) (s : Same H H') : Tape t c cs H' := by
  obtain ⟨⟨kvs, a, b⟩, l, n⟩ := T
  exact ⟨⟨kvs, s _ _ a, b⟩, s _ _ l, n⟩
variable {t c : Addr} {cs : List Int}
theorem Sc.same (h : Sc K H t c cs A W kd ds kn) (s : Same H H') : Sc K H' t c cs A W kd ds kn := ⟨tape_same h.tp s, h.lk.same s, h.nA, h.nK⟩
theorem tape_ch (T : Tape t c cs H) {kvs : List (Key × V)} : Ch [t] H (upd H t (.dK kvs)) := by
  obtain ⟨kv, a, _⟩ := T.dc
  exact .put a (fun z => z) (by simp)
theorem Sc.take (h : Sc K H t c cs A W kd ds kn) {kvs : List (Key × V)} (k : TapeK c cs kvs) : Sc K (upd H t (.dK kvs)) t c cs A W kd ds kn := by
  refine ⟨h.tp.new k, h.lk.ch (tape_ch h.tp) (fun a m => ?_) (fun a m => ?_), h.nA, h.nK⟩
  · rw [List.mem_singleton.mp m]; exact h.nA
  · rw [List.mem_singleton.mp m]; exact h.nK
theorem Ch.ext {S : List Addr} {H1 : Hp} {D : Addr} {u o : HO} (ch : Ch S H H1) (h : H D = none) (e : H1 D = some u) (n : ¬ Imm u) : Ch S H (upd H1 D o) :=
  ⟨fun a x na ea => by rw [upd_ne (ne_of_none ea h)]; exact ch.out a x na ea, ch.kp.trans (.put e n)⟩
theorem tape_put (T : Tape t c cs H) {D : Addr} {o : HO} (n1 : D ≠ t) (n2 : D ≠ c) : Tape t c cs (upd H D o) := by
  obtain ⟨⟨kvs, a, b⟩, l, n⟩ := T
  exact ⟨⟨kvs, by rw [upd_ne n1.symm]; exact a, b⟩, by rw [upd_ne n2.symm]; exact l, n⟩
theorem tape_fresh (T : Tape t c cs H) {D : Addr} (h : H D = none) : D ≠ t ∧ D ≠ c := by
  obtain ⟨⟨kvs, a, b⟩, l, n⟩ := T
  exact ⟨fun q => (by rw [q, a] at h; cases h), fun q => (by rw [q, l] at h; cases h)⟩
theorem Sc.ch (h : Sc K H t c cs A W kd ds kn) (ch : Ch [t] H H') (T : Tape t c cs H') : Sc K H' t c cs A W kd ds kn :=
  ⟨T, h.lk.ch ch (fun a m => by rw [List.mem_singleton.mp m]; exact h.nA) (fun a m => by rw [List.mem_singleton.mp m]; exact h.nK), h.nA, h.nK⟩
/-- what a drawing def promises -/
def SEnd (K : PySem.W.Frag) (H : Hp) (t c : Addr) (cs : List Int) (A : LA) (W : Wd) (kd : Addr) (ds : List Addr) (kn : Kn) (R : Hp → Prop) : Prop := ∀ H', Ch [t] H H' → Sc K H' t c cs A W kd ds kn → R H'
theorem SEnd.of {R : Hp → Prop} {H1 : Hp} (k : SEnd K H t c cs A W kd ds kn R) (ch : Ch [t] H H1) : SEnd K H1 t c cs A W kd ds kn R := fun H' c' s => k H' (ch.trans c') s
def spLookL (K : PySem.W.Frag) : Sp := fun vs H Q _ => ∃ (A : LA) (W : Wd) (kd : Addr) (ds : List Addr) (kn : Kn), vs = [.ref A.w] ∧ Lk K H A W kd ds kn ∧ WOk kn W ∧
  ∀ (v : V) (H' : Hp) (os : List Int) (sp : List Tk), Same H H' → os.Perm (W.fences.map (·.1)) → os.Pairwise (· ≤ ·) → sp.Perm (spentW W) → sp.Pairwise leP → Dp K H' v (lookD W.mom (os.map fun o => (o, fget W.fences o)) W.things sp) → Q v H'
def spAnyV (K : PySem.W.Frag) : Sp := fun vs H Q _ => ∃ (t c : Addr) (cs : List Int) (A : LA) (W : Wd) (kd : Addr) (ds : List Addr) (kn : Kn) (g : Str), vs = [.ref t, .ref A.w, .str g] ∧ Sc K H t c cs A W kd ds kn ∧ WOk kn W ∧
  ∀ o, SEnd K H t c cs A W kd ds kn (Q (oV o))
def spAnyVs (K : PySem.W.Frag) : Sp := fun vs H Q _ => ∃ (t c : Addr) (cs : List Int) (A : LA) (W : Wd) (kd : Addr) (ds : List Addr) (kn : Kn) (kind : Str) (fs : List FT), vs = [.ref t, .ref kd, .ref A.w, .str kind] ∧ Sc K H t c cs A W kd ds kn ∧ WOk kn W ∧ KnOk kn ∧ kfind kn kind = some fs ∧
  ∀ va vals, SEnd K H t c cs A W kd ds kn fun H' => vals.map (·.1) = fs.map (·.1) → ValsAt K H' va vals → Q (.ref va) H'
def spAnyId (K : PySem.W.Frag) : Sp := fun vs H Q _ => ∃ (t c : Addr) (cs : List Int) (A : LA) (W : Wd) (kd : Addr) (ds : List Addr) (kn : Kn), vs = [.ref t, .ref A.w] ∧ Sc K H t c cs A W kd ds kn ∧ WOk kn W ∧
  ∀ i, SEnd K H t c cs A W kd ds kn (Q (.int i))
def Has3 (kn : Kn) : Prop := ∀ k ∈ (["net", "box", "disk"] : List Str), ∃ fs, kfind kn k = some fs ∧ fs ≠ []
/-- drawn tokens are those of the owners 1 and 2 -/
def ClTok : Cl → Prop
  | .make _ t _ _ => t.1 < 9
  | _ => True
def spAnyCall (K : PySem.W.Frag) : Sp := fun vs H Q _ => ∃ (t c : Addr) (cs : List Int) (A : LA) (W : Wd) (kd : Addr) (ds : List Addr) (kn : Kn), vs = [.ref t, .ref kd, .ref A.w] ∧ Sc K H t c cs A W kd ds kn ∧ WOk kn W ∧ KnOk kn ∧ Has3 kn ∧
  ∀ a cl, ClTok cl → SEnd K H t c cs A W kd ds kn fun H' => ClAt K H' kn a cl → Q (.ref a) H'
end
end OW
/-! Kinds as they are drawn: tuples; then dicts. -/
namespace OW
open PySem PySem.Spec PyProof.Rows L2 LB
section
variable {K : PySem.W.Frag} {H H' : Hp} {t c : Addr} {cs : List Int}
def tStrs : List Str → TA
  | [] => tNil
  | s :: r => tCons (tC (.str s)) (tStrs r)
def tOpt : List (List Str) → TA
  | [] => tNil
  | o :: r => tCons (tTup (tStrs o)) (tOpt r)
theorem strs_rd {σ : L2.St} {R : List V → Hp → Prop} : ∀ {o : List Str} {R : List V → Hp → Prop}, R (o.map V.str) H → tStrs o σ H R
  | [], _, q => q
  | s :: r, R, q => by
    show tStrs r σ H fun xs H2 => R (V.str s :: xs) H2
    exact strs_rd (σ := σ) (R := R) (o := r) q
theorem opt_rd {σ : L2.St} : ∀ {opts : List (List Str)} {H : Hp} {R : List V → Hp → Prop}, (∀ o ∈ opts, o.length < 60) → (∀ as H', Same H H' → Paired (fun a o => SqT K H' a (o.map V.str)) as opts → R (as.map V.ref) H') → tOpt opts σ H R
  | [], H, R, _, q => q [] H (fun _ _ e => e) .nil
  | o :: r, H, R, hl, q => by
    refine strs_rd (R := fun _ _ => True) ?_
    refine ⟨?_, fun p np => ?_⟩
    · rw [List.length_map]
      exact Nat.le_trans (Nat.le_of_lt (hl o List.mem_cons_self)) (by decide)
    · have sp := same_upd (o := HO.tup (o.map V.str)) np
      refine opt_rd (opts := r) (fun x hx => hl x (List.mem_cons_of_mem _ hx)) fun as H' s' hP => ?_
      exact q (p :: as) H' (sp.trans s') (.cons (.of (s' _ _ upd_same)) hP)
def spMarks (K : PySem.W.Frag) : Sp := fun vs H Q _ => ∃ (t c : Addr) (cs : List Int) (l : Addr) (as : List Addr), vs = [.ref t, .ref l] ∧ Tape t c cs H ∧ H l = some (.lst (as.map V.ref)) ∧ 0 < as.length ∧ as.length < 60 ∧
  ∀ a ∈ as, ∀ kvs, TapeK c cs kvs → Q (.ref a) (upd H t (.dK kvs))
def FTup (K : PySem.W.Frag) (H : Hp) (p : Addr) (f : FT) : Prop := ∃ m, SqT K H p [.str f.1, .str f.2.1, .ref m] ∧ SqT K H m (f.2.2.map V.str)
theorem ftup_kp {p : Addr} {f : FT} (h : FTup K H p f) (k : Kp H H') : FTup K H' p f := by
  obtain ⟨m, a, b⟩ := h
  exact ⟨m, sq_kp a k, sq_kp b k⟩
def FsAt (K : PySem.W.Frag) (H : Hp) (a : Addr) (fs : List FT) : Prop := ∃ ps : List Addr, SqT K H a (ps.map V.ref) ∧ Paired (fun p f => FTup K H p f) ps fs
theorem fs_kp {a : Addr} {fs : List FT} (h : FsAt K H a fs) (k : Kp H H') : FsAt K H' a fs := by
  obtain ⟨ps, a, b⟩ := h
  exact ⟨ps, sq_kp a k, par_imp (fun _ _ q => ftup_kp q k) b⟩
def KsAt (K : PySem.W.Frag) (H : Hp) (a : Addr) (kn : Kn) : Prop := ∃ ps : List Addr, SqT K H a (ps.map V.ref) ∧ Paired (fun p (e : Str × List FT) => ∃ fa, SqT K H p [.str e.1, .ref fa] ∧ FsAt K H fa e.2) ps kn
/-- (f, g, _law_marks(tape, [..])) -/
theorem fdraw {σ : L2.St} {R : V → Hp → Prop} {f g : Str} {opts : List (List Str)} (T : Tape t c cs H) (h0 : σ[0]? = some (some (.ref t))) (hl : ∀ o ∈ opts, o.length < 60) (h1 : 0 < opts.length) (h2 : opts.length < 60)
    (k : ∀ p ms H', Ch [t] H H' → Tape t c cs H' → FTup K H' p (f, g, ms) ∧ ms ∈ opts → R (.ref p) H') :
    tTup (tCons (tC (V.str f)) (tCons (tC (V.str g)) (tCons (tCall (spMarks K) [] C8.E0 (tCons (tVar 0) (tCons (tLst (tOpt opts)) tNil))) tNil))) σ H R := by
  refine ⟨_, h0, opt_rd (K := K) hl fun as H1 s1 hP => ⟨?_, fun l nl => ?_⟩⟩
  · rw [List.length_map, hP.length]
    exact Nat.le_trans (Nat.le_of_lt h2) (by decide)
  · have sl := same_upd (o := HO.lst (as.map V.ref)) nl
    have T2 := tape_same T (s1.trans sl)
    refine ⟨t, c, cs, l, as, rfl, T2, upd_same, by rw [hP.length]; exact h1, by rw [hP.length]; exact h2, fun a ha kvs hk => ⟨by show 3 ≤ sizeLine; decide, fun p np => ?_⟩⟩
    obtain ⟨i, hi⟩ := List.mem_iff_getElem?.mp ha
    obtain ⟨ms, hms, sm⟩ := par_at hP hi
    have c3 := tape_ch T2 (kvs := kvs)
    have sp := same_upd (o := HO.tup [V.str f, .str g, .ref a]) np
    have c4 : Ch [t] H _ := (Ch.of_same (s1.trans sl)).trans (c3.trans (.of_same sp))
    exact k p ms _ c4 (tape_same (T2.new hk) sp) ⟨⟨a, .of upd_same, sq_kp sm ((Kp.of_same sl).trans (c3.kp.trans (.of_same sp)))⟩, List.mem_of_getElem? hms⟩
theorem asgS {tv : TE} {g : TG} {rest : TS} {D : Ends} {σ : L2.St} {H : Hp} (q : tv σ H fun v H1 => g v σ H1 fun σ2 H2 => rest D σ2 H2) : tSeq (tAsg tv g) rest D σ H := q
theorem varS {i : Nat} {σ : L2.St} {H : Hp} {v : V} {r : R2} {tb : TE} {R : V → Hp → Prop} (h : σ[i]? = some (some v)) (q : tb σ H fun y H2 => r v y H2 R) : tOp r (tVar i) tb σ H R := ⟨_, h, q⟩
theorem tup1 {X : TE} {σ : L2.St} {R : V → Hp → Prop} (q : X σ H fun x H1 => ∀ p, H1 p = none → R (.ref p) (upd H1 p (.tup [x]))) : tTup (tCons X tNil) σ H R := by
  have e : (tTup (tCons X tNil) σ H R) = X σ H fun x H1 => [x].length ≤ sizeLine ∧ ∀ p, H1 p = none → R (.ref p) (upd H1 p (.tup [x])) := rfl
  rw [e]
  have e2 : (fun (x : V) (H1 : Hp) => [x].length ≤ sizeLine ∧ ∀ p, H1 p = none → R (.ref p) (upd H1 p (.tup [x]))) = fun x H1 => ∀ p, H1 p = none → R (.ref p) (upd H1 p (.tup [x])) := by
    funext x H1
    exact propext ⟨fun h => h.2, fun h => ⟨by show 1 ≤ sizeLine; decide, h⟩⟩
  rw [e2]
  exact q
theorem tup2 {X Y : TE} {σ : L2.St} {R : V → Hp → Prop} (q : X σ H fun x H1 => Y σ H1 fun y H2 => ∀ p, H2 p = none → R (.ref p) (upd H2 p (.tup [x, y]))) : tTup (tCons X (tCons Y tNil)) σ H R := by
  have e : (tTup (tCons X (tCons Y tNil)) σ H R) = X σ H fun x H1 => Y σ H1 fun y H2 => [x, y].length ≤ sizeLine ∧ ∀ p, H2 p = none → R (.ref p) (upd H2 p (.tup [x, y])) := rfl
  rw [e]
  have e2 : (fun (x : V) (H1 : Hp) => Y σ H1 fun y H2 => [x, y].length ≤ sizeLine ∧ ∀ p, H2 p = none → R (.ref p) (upd H2 p (.tup [x, y]))) = fun x H1 => Y σ H1 fun y H2 => ∀ p, H2 p = none → R (.ref p) (upd H2 p (.tup [x, y])) := by
    funext x H1
    have e3 : (fun (y : V) (H2 : Hp) => [x, y].length ≤ sizeLine ∧ ∀ p, H2 p = none → R (.ref p) (upd H2 p (.tup [x, y]))) = fun y H2 => ∀ p, H2 p = none → R (.ref p) (upd H2 p (.tup [x, y])) := by
      funext y H2
      exact propext ⟨fun h => h.2, fun h => ⟨by show 2 ≤ sizeLine; decide, h⟩⟩
    rw [e3]
  rw [e2]
  exact q
theorem fconst {σ : L2.St} {R : V → Hp → Prop} {f g : Str} {o : List Str} (hl : o.length < 60) (k : ∀ p H', Same H H' → FTup K H' p (f, g, o) → R (.ref p) H') :
    tTup (tCons (tC (V.str f)) (tCons (tC (V.str g)) (tCons (tTup (tStrs o)) tNil))) σ H R := by
  refine strs_rd (R := fun _ _ => True) ⟨?_, fun m nm => ⟨by show 3 ≤ sizeLine; decide, fun p np => ?_⟩⟩
  · rw [List.length_map]
    exact Nat.le_trans (Nat.le_of_lt hl) (by decide)
  · have sm := same_upd (o := HO.tup (o.map V.str)) nm
    have sp := same_upd (o := HO.tup [V.str f, .str g, .ref m]) np
    exact k p _ (sm.trans sp) ⟨m, .of upd_same, .of (sp _ _ upd_same)⟩
theorem fs1 {p : Addr} {f : FT} {n : Addr} (h : FTup K H p f) (nn : H n = none) : FsAt K (upd H n (.tup [.ref p])) n [f] := ⟨[p], .of upd_same, .cons (ftup_kp h (.of_same (same_upd nn))) .nil⟩
theorem fs2 {p q : Addr} {f g : FT} {n : Addr} (h : FTup K H p f) (h2 : FTup K H q g) (nn : H n = none) : FsAt K (upd H n (.tup [.ref p, .ref q])) n [f, g] := ⟨[p, q], .of upd_same, .cons (ftup_kp h (.of_same (same_upd nn))) (.cons (ftup_kp h2 (.of_same (same_upd nn))) .nil)⟩
/-- a + b -/
theorem fcat {a b : Addr} {fs gs : List FT} {R : V → Hp → Prop} (ha : FsAt K H a fs) (hb : FsAt K H b gs) (h1 : fs ≠ []) (h2 : gs ≠ []) (h3 : fs.length + gs.length < 60) (k : ∀ p H', Same H H' → FsAt K H' p (fs ++ gs) → R (.ref p) H') :
    rCatT K (.ref a) (.ref b) H R := by
  obtain ⟨ps, sa, pa⟩ := ha
  obtain ⟨qs, sb, pb⟩ := hb
  have l1 := pa.length
  have l2 := pb.length
  refine ⟨a, b, _, _, rfl, rfl, sa, sb, ?_, ?_, fun z => ?_, fun _ p np => ?_⟩
  · intro z
    have := List.map_eq_nil_iff.mp z
    rw [this] at l1
    exact h1 (List.length_eq_zero_iff.mp l1.symm)
  · rw [List.length_map, List.length_map, l1, l2]
    exact Nat.le_trans (Nat.le_of_lt h3) (by decide)
  · exfalso
    have := List.map_eq_nil_iff.mp z
    rw [this] at l2
    exact h2 (List.length_eq_zero_iff.mp l2.symm)
  · have s := same_upd (o := HO.tup (ps.map V.ref ++ qs.map V.ref)) np
    refine k p _ s ⟨ps ++ qs, ?_, ?_⟩
    · rw [List.map_append]
      exact .of upd_same
    · have app : ∀ {xs ys : List Addr} {f g : List FT} {F : Addr → FT → Prop}, Paired F xs f → Paired F ys g → Paired F (xs ++ ys) (f ++ g) := fun h1 h2 => by
        induction h1 with
        | nil => exact h2
        | cons a b ih => exact .cons a ih
      exact app (par_imp (fun _ _ q => ftup_kp q (.of_same s)) pa) (par_imp (fun _ _ q => ftup_kp q (.of_same s)) pb)
abbrev FD (K : PySem.W.Frag) (f g : Str) (opts : List (List Str)) : TE := tTup (tCons (tC (V.str f)) (tCons (tC (V.str g)) (tCons (tCall (spMarks K) [] C8.E0 (tCons (tVar 0) (tCons (tLst (tOpt opts)) tNil))) tNil)))
section
variable {rest : TS} {D : Ends} {σ : L2.St} {i : Nat} {f g f2 g2 : Str} {opts opts2 : List (List Str)}
structure Few (opts : List (List Str)) : Prop where
  hl : ∀ o ∈ opts, o.length < 60
  h1 : 0 < opts.length
  h2 : opts.length < 60
theorem drawA (F : Few opts) (T : Tape t c cs H) (h0 : σ[0]? = some (some (.ref t))) (k : ∀ n m H1, Ch [t] H H1 → Tape t c cs H1 → FsAt K H1 n [(f, g, m)] → m ∈ opts → rest D (σ.set i (some (.ref n))) H1) :
    tSeq (tAsg (tTup (tCons (FD K f g opts) tNil)) (gName i)) rest D σ H :=
  asgS (tup1 (fdraw T h0 F.hl F.h1 F.h2 fun p m H1 c1 T1 f1 n nn => k n m _ (c1.trans (.of_same (same_upd nn))) (tape_same T1 (same_upd nn)) (fs1 f1.1 nn) f1.2))
theorem drawB {a : Addr} {fs : List FT} (F : Few opts) (T : Tape t c cs H) (h0 : σ[0]? = some (some (.ref t))) (hi : σ[i]? = some (some (.ref a))) (hF : FsAt K H a fs) (h1 : fs ≠ []) (h2 : fs.length < 50)
    (k : ∀ n m H1, Ch [t] H H1 → Tape t c cs H1 → FsAt K H1 n (fs ++ [(f, g, m)]) → m ∈ opts → rest D (σ.set i (some (.ref n))) H1) :
    tSeq (tAsg (tOp (rCatT K) (tVar i) (tTup (tCons (FD K f g opts) tNil))) (gName i)) rest D σ H :=
  asgS (varS hi (tup1 (fdraw T h0 F.hl F.h1 F.h2 fun p m H1 c1 T1 f1 n nn => fcat (fs_kp hF (c1.trans (.of_same (same_upd nn))).kp) (fs1 f1.1 nn) h1 (List.cons_ne_nil _ _) (by show fs.length + 1 < 60; omega) fun q H2 s2 hq => k q m _ ((c1.trans (.of_same (same_upd nn))).trans (.of_same s2)) (tape_same T1 ((same_upd nn).trans s2)) hq f1.2)))
theorem drawC {a : Addr} {fs : List FT} {o : List Str} (F : Few opts) (ho : o.length < 60) (T : Tape t c cs H) (h0 : σ[0]? = some (some (.ref t))) (hi : σ[i]? = some (some (.ref a))) (hF : FsAt K H a fs) (h1 : fs ≠ []) (h2 : fs.length < 50)
    (k : ∀ n m H1, Ch [t] H H1 → Tape t c cs H1 → FsAt K H1 n (fs ++ [(f, g, m), (f2, g2, o)]) → m ∈ opts → rest D (σ.set i (some (.ref n))) H1) :
    tSeq (tAsg (tOp (rCatT K) (tVar i) (tTup (tCons (FD K f g opts) (tCons (tTup (tCons (tC (V.str f2)) (tCons (tC (V.str g2)) (tCons (tTup (tStrs o)) tNil)))) tNil)))) (gName i)) rest D σ H :=
  asgS (varS hi (tup2 (fdraw T h0 F.hl F.h1 F.h2 fun p m H1 c1 T1 f1 => fconst (K := K) ho fun q H2 s2 f2 n nn => fcat (fs_kp hF (c1.trans (.of_same (s2.trans (same_upd nn)))).kp) (fs2 (ftup_kp f1.1 (.of_same s2)) f2 nn) h1 (List.cons_ne_nil _ _) (by show fs.length + 2 < 60; omega) fun q H3 s3 hq =>
    k q m _ (c1.trans (.of_same ((s2.trans (same_upd nn)).trans s3))) (tape_same T1 ((s2.trans (same_upd nn)).trans s3)) hq f1.2)))
theorem drawD (F : Few opts) (F2 : Few opts2) (T : Tape t c cs H) (h0 : σ[0]? = some (some (.ref t))) (k : ∀ n m m2 H1, Ch [t] H H1 → Tape t c cs H1 → FsAt K H1 n [(f, g, m), (f2, g2, m2)] → m ∈ opts → rest D (σ.set i (some (.ref n))) H1) :
    tSeq (tAsg (tTup (tCons (FD K f g opts) (tCons (FD K f2 g2 opts2) tNil))) (gName i)) rest D σ H :=
  asgS (tup2 (fdraw T h0 F.hl F.h1 F.h2 fun p m H1 c1 T1 f1 => fdraw T1 h0 F2.hl F2.h1 F2.h2 fun q m2 H2 c2 T2 f2 n nn => k n m m2 _ ((c1.trans c2).trans (.of_same (same_upd nn))) (tape_same T2 (same_upd nn)) (fs2 (ftup_kp f1.1 c2.kp) f2.1 nn) f1.2))
end
def knOf (m1 m2 m3 m4 m5 m6 m7 : List Str) : Kn := [("net", [("tag", "", m1), ("zone", "", m2)]), ("box", [("at", "net", m3), ("peer", "box", m4), ("size", "", ["empty"])]), ("disk", [("base", "", m5), ("code", "", m6), ("on", "box", m7)])]
def spKinds (K : PySem.W.Frag) : Sp := fun vs H Q _ => ∃ (t c : Addr) (cs : List Int), vs = [.ref t] ∧ Tape t c cs H ∧
  ∀ a m1 m2 m3 m4 m5 m6 m7 H', Ch [t] H H' → Tape t c cs H' → KsAt K H' a (knOf m1 m2 m3 m4 m5 m6 m7) → ("single" : Str) ∉ m3 → ("single" : Str) ∉ m4 → ("single" : Str) ∉ m7 → Q (.ref a) H'
def spKindDict (K : PySem.W.Frag) : Sp := fun vs H Q _ => ∃ (a : Addr) (kn : Kn), vs = [.ref a] ∧ KsAt K H a kn ∧ (kn.map (·.1)).Nodup ∧ kn.length < 60 ∧ (∀ e ∈ kn, (e.2.map (·.1)).Nodup ∧ e.2.length < 60) ∧
  ∀ kd ds H', Same H H' → KndAt K H' kd ds kn → (kd :: ds).Nodup → (∀ x ∈ kd :: ds, H x = none) → Q (.ref kd) H'
def newW : Wd := ⟨[], [], [], 0, 1⟩
def spNewW (K : PySem.W.Frag) : Sp := fun vs H Q _ => vs = [] ∧ ∀ A H', Same H H' → Lw K H' A newW → A.S.Nodup → (∀ x ∈ A.S, H x = none) → Q (.ref A.w) H'
end
end OW
/-! The program's outside: its object, what its methods promise. -/
namespace OW
open PySem PySem.Spec PyProof.Rows L2 LB
structure OA where
  a : Addr
  dx : Addr
  kd : Addr
  dF : Addr
  dT : Addr
  dS : Addr
  ds : List Addr
structure Od where
  things : List Th
  spent : List Tk
  fences : List (Int × Int)
  mom : Int
  grt : Int
  calls : Int
def obF (B : OA) (O : Od) : List (Str × V) := [("_kinds", .ref B.kd), ("_moment", .int O.mom), ("_fences", .ref B.dF), ("_things", .ref B.dT), ("_spent", .ref B.dS), ("_greatest_id", .int O.grt), ("_calls", .int O.calls)]
def spK (ts : List Tk) : List (List Key × V) := ts.map fun e => (kPair e, V.bl true)
abbrev OA.S (B : OA) : List Addr := [B.a, B.dF, B.dT, B.dS]
section
variable {B : OA} {O : Od}
theorem of_ne : ((("_moment" : Str) == "_kinds") = false ∧ (("_fences" : Str) == "_kinds") = false ∧ (("_fences" : Str) == "_moment") = false ∧ (("_things" : Str) == "_kinds") = false ∧ (("_things" : Str) == "_moment") = false ∧ (("_things" : Str) == "_fences") = false) ∧
  ((("_spent" : Str) == "_kinds") = false ∧ (("_spent" : Str) == "_moment") = false ∧ (("_spent" : Str) == "_fences") = false ∧ (("_spent" : Str) == "_things") = false) ∧
  ((("_greatest_id" : Str) == "_kinds") = false ∧ (("_greatest_id" : Str) == "_moment") = false ∧ (("_greatest_id" : Str) == "_fences") = false ∧ (("_greatest_id" : Str) == "_things") = false ∧ (("_greatest_id" : Str) == "_spent") = false) ∧
  ((("_calls" : Str) == "_kinds") = false ∧ (("_calls" : Str) == "_moment") = false ∧ (("_calls" : Str) == "_fences") = false ∧ (("_calls" : Str) == "_things") = false ∧ (("_calls" : Str) == "_spent") = false ∧ (("_calls" : Str) == "_greatest_id") = false) := by decide +kernel
theorem lk_kinds : List.lookup ("_kinds" : Str) (obF B O) = some (.ref B.kd) := by simp [obF, List.lookup]
theorem lk_moment : List.lookup ("_moment" : Str) (obF B O) = some (.int O.mom) := by simp [obF, List.lookup, of_ne.1.1]
theorem lk_fences : List.lookup ("_fences" : Str) (obF B O) = some (.ref B.dF) := by simp [obF, List.lookup, of_ne.1.2.1, of_ne.1.2.2.1]
theorem lk_things : List.lookup ("_things" : Str) (obF B O) = some (.ref B.dT) := by simp [obF, List.lookup, of_ne.1.2.2.2.1, of_ne.1.2.2.2.2.1, of_ne.1.2.2.2.2.2]
theorem lk_spent : List.lookup ("_spent" : Str) (obF B O) = some (.ref B.dS) := by simp [obF, List.lookup, of_ne.2.1.1, of_ne.2.1.2.1, of_ne.2.1.2.2.1, of_ne.2.1.2.2.2]
theorem lk_grt : List.lookup ("_greatest_id" : Str) (obF B O) = some (.int O.grt) := by simp [obF, List.lookup, of_ne.2.2.1.1, of_ne.2.2.1.2.1, of_ne.2.2.1.2.2.1, of_ne.2.2.1.2.2.2.1, of_ne.2.2.1.2.2.2.2]
theorem lk_calls : List.lookup ("_calls" : Str) (obF B O) = some (.int O.calls) := by simp [obF, List.lookup, of_ne.2.2.2.1, of_ne.2.2.2.2.1, of_ne.2.2.2.2.2.1, of_ne.2.2.2.2.2.2.1, of_ne.2.2.2.2.2.2.2.1, of_ne.2.2.2.2.2.2.2.2]
def NoF (x : Str) : Prop := (x == "_kinds") = false ∧ (x == "_moment") = false ∧ (x == "_fences") = false ∧ (x == "_things") = false ∧ (x == "_spent") = false ∧ (x == "_greatest_id") = false ∧ (x == "_calls") = false
instance {x : Str} : Decidable (NoF x) := by unfold NoF; exact inferInstance
theorem lk_no {x : Str} (h : NoF x) : List.lookup x (obF B O) = none := by
  simp [obF, List.lookup, h.1, h.2.1, h.2.2.1, h.2.2.2.1, h.2.2.2.2.1, h.2.2.2.2.2.1, h.2.2.2.2.2.2]
theorem beq_ne {a b : Str} (h : (a == b) = false) : ¬ b = a := fun z => by rw [z] at h; simp at h
theorem putF_mom {n : Int} : putF "_moment" (.int n) (obF B O) = obF B { O with mom := n } := by
  have h := of_ne.1.1
  simp [putF, obF, beq_ne h]
theorem putF_grt {n : Int} : putF "_greatest_id" (.int n) (obF B O) = obF B { O with grt := n } := by
  obtain ⟨h1, h2, h3, h4, h5⟩ := of_ne.2.2.1
  simp [putF, obF, beq_ne h1, beq_ne h2, beq_ne h3, beq_ne h4, beq_ne h5]
theorem putF_calls {n : Int} : putF "_calls" (.int n) (obF B O) = obF B { O with calls := n } := by
  obtain ⟨h1, h2, h3, h4, h5, h6⟩ := of_ne.2.2.2
  simp [putF, obF, beq_ne h1, beq_ne h2, beq_ne h3, beq_ne h4, beq_ne h5, beq_ne h6]
end
structure ObR (K : PySem.W.Frag) (H : Hp) (C : Addr) (B : OA) (O : Od) (kn : Kn) : Prop where
  at_ : H B.a = some (.ins C B.dx (obF B O))
  things : ∃ kvs, Rd H B.dT (.dK kvs) ∧ ThsR K H kvs O.things
  spent : Rd H B.dS (.dT (spK O.spent))
  fences : Rd H B.dF (.dK (itK O.fences))
  kn : KndAt K H B.kd B.ds kn
structure Ob (K : PySem.W.Frag) (H : Hp) (C : Addr) (B : OA) (O : Od) (kn : Kn) : Prop where
  at_ : H B.a = some (.ins C B.dx (obF B O))
  things : ∃ kvs, H B.dT = some (.dK kvs) ∧ ThsR K H kvs O.things
  spent : H B.dS = some (.dT (spK O.spent))
  fences : H B.dF = some (.dK (itK O.fences))
  kn : KndAt K H B.kd B.ds kn
  nd : B.S.Nodup
  ap : ∀ a ∈ B.S, a ∉ B.kd :: B.ds
section
variable {K : PySem.W.Frag} {H H' : Hp} {C : Addr} {B : OA} {O : Od} {kn : Kn}
theorem Ob.r (h : Ob K H C B O kn) : ObR K H C B O kn := ⟨h.at_, by obtain ⟨k, a, b⟩ := h.things; exact ⟨k, .inl a, b⟩, .inl h.spent, .inl h.fences, h.kn⟩
theorem rd_same {a : Addr} {u : HO} (h : Rd H a u) (s : Same H H') : Rd H' a u := h.elim (fun q => .inl (s _ _ q)) (fun ⟨o, q⟩ => .inr ⟨o, s _ _ q⟩)
theorem ObR.same (h : ObR K H C B O kn) (s : Same H H') : ObR K H' C B O kn :=
  ⟨s _ _ h.at_, by obtain ⟨k, a, b⟩ := h.things; exact ⟨k, rd_same a s, ths_kp b (.of_same s)⟩, rd_same h.spent s, rd_same h.fences s, h.kn.same s⟩
theorem Ob.same (h : Ob K H C B O kn) (s : Same H H') : Ob K H' C B O kn :=
  ⟨s _ _ h.at_, by obtain ⟨k, a, b⟩ := h.things; exact ⟨k, s _ _ a, ths_kp b (.of_same s)⟩, s _ _ h.spent, s _ _ h.fences, h.kn.same s, h.nd, h.ap⟩
theorem Ob.ch (h : Ob K H C B O kn) {S : List Addr} (c : Ch S H H') (n1 : ∀ a ∈ S, a ∉ B.S) (n2 : ∀ a ∈ S, a ∉ B.kd :: B.ds) : Ob K H' C B O kn := by
  have o : ∀ a ∈ B.S, ∀ u, H a = some u → H' a = some u := fun a m u e => c.out a u (fun q => n1 a q m) e
  refine ⟨o _ (by simp) _ h.at_, ?_, o _ (by simp) _ h.spent, o _ (by simp) _ h.fences, h.kn.ch c n2, h.nd, h.ap⟩
  obtain ⟨kvs, a, b⟩ := h.things
  exact ⟨kvs, o _ (by simp) _ a, ths_kp b c.kp⟩
theorem ond (h : B.S.Nodup) : B.a ≠ B.dF ∧ B.a ≠ B.dT ∧ B.a ≠ B.dS ∧ B.dF ≠ B.dT ∧ B.dF ≠ B.dS ∧ B.dT ≠ B.dS := by
  simp only [OA.S, List.nodup_cons, List.mem_cons, List.not_mem_nil, or_false, not_or] at h
  exact ⟨h.1.1, h.1.2.1, h.1.2.2, h.2.1.1, h.2.1.2, h.2.2.1⟩
theorem Ob.setO (h : Ob K H C B O kn) {O' : Od} (h1 : O'.things = O.things) (h2 : O'.spent = O.spent) (h3 : O'.fences = O.fences) : Ob K (upd H B.a (.ins C B.dx (obF B O'))) C B O' kn := by
  obtain ⟨n1, n2, n3, n4, n5, n6⟩ := ond h.nd
  have c : Ch B.S H (upd H B.a (.ins C B.dx (obF B O'))) := .put h.at_ (fun z => z) (by simp)
  refine ⟨upd_same, ?_, by rw [upd_ne n3.symm, h2]; exact h.spent, by rw [upd_ne n1.symm, h3]; exact h.fences, h.kn.ch c h.ap, h.nd, h.ap⟩
  obtain ⟨kvs, a, b⟩ := h.things
  rw [h1]
  exact ⟨kvs, by rw [upd_ne n2.symm]; exact a, ths_kp b c.kp⟩
theorem obF_eq {O O' : Od} (h1 : O'.mom = O.mom) (h2 : O'.grt = O.grt) (h3 : O'.calls = O.calls) : obF B O' = obF B O := by unfold obF; rw [h1, h2, h3]
theorem Ob.setT (h : Ob K H C B O kn) {kvs : List (Key × V)} {ths : List Th} (hR : ThsR K (upd H B.dT (.dK kvs)) kvs ths) : Ob K (upd H B.dT (.dK kvs)) C B { O with things := ths } kn := by
  obtain ⟨n1, n2, n3, n4, n5, n6⟩ := ond h.nd
  obtain ⟨kv, a, _⟩ := h.things
  have c : Ch B.S H (upd H B.dT (.dK kvs)) := .put a (fun z => z) (by simp)
  exact ⟨by rw [upd_ne n2]; exact h.at_, ⟨kvs, upd_same, hR⟩, by rw [upd_ne n6.symm]; exact h.spent, by rw [upd_ne n4]; exact h.fences, h.kn.ch c h.ap, h.nd, h.ap⟩
theorem Ob.setS (h : Ob K H C B O kn) {sp : List Tk} : Ob K (upd H B.dS (.dT (spK sp))) C B { O with spent := sp } kn := by
  obtain ⟨n1, n2, n3, n4, n5, n6⟩ := ond h.nd
  have c : Ch B.S H (upd H B.dS (.dT (spK sp))) := .put h.spent (fun z => z) (by simp)
  refine ⟨by rw [upd_ne n3]; exact h.at_, ?_, upd_same, by rw [upd_ne n5]; exact h.fences, h.kn.ch c h.ap, h.nd, h.ap⟩
  obtain ⟨kvs, a, b⟩ := h.things
  exact ⟨kvs, by rw [upd_ne n6]; exact a, ths_kp b c.kp⟩
theorem Ob.setF (h : Ob K H C B O kn) {fs : List (Int × Int)} : Ob K (upd H B.dF (.dK (itK fs))) C B { O with fences := fs } kn := by
  obtain ⟨n1, n2, n3, n4, n5, n6⟩ := ond h.nd
  have c : Ch B.S H (upd H B.dF (.dK (itK fs))) := .put h.fences (fun z => z) (by simp)
  refine ⟨by rw [upd_ne n1]; exact h.at_, ?_, by rw [upd_ne n5.symm]; exact h.spent, upd_same, h.kn.ch c h.ap, h.nd, h.ap⟩
  obtain ⟨kvs, a, b⟩ := h.things
  exact ⟨kvs, by rw [upd_ne n4.symm]; exact a, ths_kp b c.kp⟩
theorem ObR.thing (h : ObR K H C B O kn) {i : Int} {th : Th} (e : tfind O.things i = some th) : ∃ a, DGet H B.dT (.int i) (some (.ref a)) ∧ ThAt K H a th := by
  obtain ⟨kvs, h1, h2⟩ := h.things
  obtain ⟨a, h3, h4⟩ := ths_some h2 e
  exact ⟨a, .inl ⟨kvs, Sum.inl i, h1, rfl, h3.symm⟩, h4⟩
theorem ObR.nothing (h : ObR K H C B O kn) {i : Int} (e : tfind O.things i = none) : DGet H B.dT (.int i) none := by
  obtain ⟨kvs, h1, h2⟩ := h.things
  exact .inl ⟨kvs, Sum.inl i, h1, rfl, (ths_none h2 e).symm⟩
/-- the things' dict locked -/
theorem Ob.lock (h : Ob K H C B O kn) {kvs : List (Key × V)} {od : Obj} (e : H B.dT = some (.dK kvs)) : ObR K (upd H B.dT (.frz od (.dK kvs))) C B O kn := by
  obtain ⟨n1, n2, n3, n4, n5, n6⟩ := ond h.nd
  obtain ⟨kvs', a, b⟩ := h.things
  have e2 : kvs' = kvs := by rw [e] at a; cases a; rfl
  subst e2
  have c : Ch B.S H (upd H B.dT (.frz od (.dK kvs'))) := .put e (fun z => z) (by simp)
  exact ⟨by rw [upd_ne n2]; exact h.at_, ⟨kvs', frz_rd, ths_kp b c.kp⟩, .inl (by rw [upd_ne n6.symm]; exact h.spent), .inl (by rw [upd_ne n4]; exact h.fences), h.kn.ch c h.ap⟩
/-! ### as functions -/
def pw (O : Od) : Wd := ⟨O.things, [], O.fences, O.mom, O.grt + 1⟩
def oMake (kn : Kn) (O : Od) (tok : Option Tk) (kind : Str) (vals : Vals_) : Od :=
  if makeW kn (pw O) none none kind vals = ("" : Str) then { O with things := O.things ++ [newTh (pw O) tok kind vals], mom := O.mom + 1, grt := O.grt + 1 } else O
def oChange (kn : Kn) (O : Od) (one : Int) (ver : Option Int) (field : Str) (v : Option Int) : Od :=
  if changeW kn (pw O) none one ver field v = ("" : Str) then { O with things := setT one field v O.things, mom := O.mom + 1 } else O
def addS (ts : List Tk) (t : Tk) : List Tk := if t ∈ ts then ts else ts ++ [t]
def takeS (O : Od) (one : Int) : List Tk := match (tfind O.things one).bind (·.tok) with
  | none => O.spent
  | some t => addS O.spent t
def oTake (kn : Kn) (O : Od) (one : Int) (ver : Option Int) : Od :=
  if takeW kn (pw O) none one ver = ("" : Str) then { O with things := dropT one O.things, spent := takeS O one, mom := O.mom + 1 } else O
def oFence (O : Od) (m : Int × Int) : Od := if fget O.fences m.1 < m.2 then { O with fences := fput O.fences m.1 m.2, mom := O.mom + 1 } else O
def usedB (O : Od) (t : Tk) : Bool := decide (t ∈ O.spent) || O.things.any fun th => decide (th.tok = some t)
def oAns (kn : Kn) (O : Od) : Cl → Od
  | .fence m => oFence O m
  | .make m t kind vals => if m.2 < fget O.fences m.1 then O else if usedB O t = true then O else oMake kn O (some t) kind vals
  | .change m one ver field v => if m.2 < fget O.fences m.1 then O else oChange kn O one (some ver) field v
  | .take m one ver => if m.2 < fget O.fences m.1 then O else oTake kn O one (some ver)
def oWhy (kn : Kn) (O : Od) : Cl → Str
  | .fence m => ""
  | .make m t kind vals => if m.2 < fget O.fences m.1 then "old" else if usedB O t = true then "" else makeW kn (pw O) none none kind vals
  | .change m one ver field v => if m.2 < fget O.fences m.1 then "old" else changeW kn (pw O) none one (some ver) field v
  | .take m one ver => if m.2 < fget O.fences m.1 then "old" else takeW kn (pw O) none one (some ver)
def oDo (kn : Kn) (O : Od) (c : Cl) : Od := if O.mom < (oAns kn O c).mom then { oAns kn O c with calls := (oAns kn O c).calls + 1 } else oAns kn O c
structure OOk (kn : Kn) (O : Od) : Prop where
  w : WOk kn (pw O)
  k : KnOk kn
  lenS : O.spent.length < 60
def OEnd (K : PySem.W.Frag) (H : Hp) (C : Addr) (B : OA) (kn : Kn) (O' : Od) (why : Str) (Q : VK) : Prop := ∀ (v : V) (H' : Hp), Ch B.S H H' → Ob K H' C B O' kn → AnsAt K H' v why → Q v H'
/-! ### promises -/
def ValsS (K : PySem.W.Frag) (H : Hp) (va : Addr) (vals : Vals_) : Prop := ∃ ps : List Addr, SqT K H va (ps.map V.ref) ∧ Paired (fun p (fv : Str × Option Int) => SqT K H p [.str fv.1, oV fv.2]) ps vals
theorem ValsAt.s {va : Addr} {vals : Vals_} (h : ValsAt K H va vals) : ValsS K H va vals := by
  obtain ⟨ps, h1, h2⟩ := h
  exact ⟨ps, sqT_pl h1, h2⟩
theorem valsS_kp {a : Addr} {vals : Vals_} (h : ValsS K H a vals) (k : Kp H H') : ValsS K H' a vals := by
  obtain ⟨ps, h1, h2⟩ := h
  exact ⟨ps, sq_kp h1 k, par_imp (fun _ _ q => sq_kp q k) h2⟩
def livesB (ths : List Th) (i : Int) (k : Str) : Bool := match tfind ths i with
  | none => false
  | some t => decide (t.kind = k)
def spLives (K : PySem.W.Frag) (C : Addr) : Sp := fun vs H Q _ => ∃ (B : OA) (O : Od) (kn : Kn) (i : Int) (k : Str), vs = [.ref B.a, .int i, .str k] ∧ ObR K H C B O kn ∧ Q (.bl (livesB O.things i k)) H
def spBorne (K : PySem.W.Frag) (C : Addr) : Sp := fun vs H Q _ => ∃ (B : OA) (O : Od) (kn : Kn) (own : Int) (kind field : Str) (n : Int), vs = [.ref B.a, .int own, .str kind, .str field, .int n] ∧ Ob K H C B O kn ∧ OOk kn O ∧ PyData.strOk field = true ∧ ∀ H', Same H H' → Q (.bl (O.things.any (takenBy kind field n own))) H'
def needsL (kn : Kn) (t : Th) : List (Option Int) := (t.vals.filter fun fv => !decide ((tmOf (fsOf kn t.kind) fv.1).1 = ("" : Str))).map (·.2)
def spNeedsOf (K : PySem.W.Frag) (C : Addr) : Sp := fun vs H Q _ => ∃ (B : OA) (O : Od) (kn : Kn) (ta : Addr) (t : Th), vs = [.ref B.a, .ref ta] ∧ ObR K H C B O kn ∧ ThAt K H ta t ∧ GoodTh kn t ∧ KnOk kn ∧ ∀ D H', Same H H' → H' D = some (.lst ((needsL kn t).map oV)) → Q (.ref D) H'
def spIsNeeded (K : PySem.W.Frag) (C : Addr) : Sp := fun vs H Q _ => ∃ (B : OA) (O : Od) (kn : Kn) (i : Int), vs = [.ref B.a, .int i] ∧ Ob K H C B O kn ∧ OOk kn O ∧ ∀ H', Same H H' → Q (.bl (neededB kn O.things i)) H'
def spReach (K : PySem.W.Frag) (C : Addr) : Sp := fun vs H Q _ => ∃ (B : OA) (O : Od) (kn : Kn) (i : Int) (ver : Option Int), vs = [.ref B.a, .int i, oV ver] ∧ ObR K H C B O kn ∧ Q (.str (otherW (pw O) none i ver)) H
def bearW (ths : List Th) (fs : List FT) (kind : Str) (vals : Vals_) (own : Int) : Str := if goodB fs vals = true then firstW ths fs kind vals own else "form"
def spBear (K : PySem.W.Frag) (C : Addr) : Sp := fun vs H Q _ => ∃ (B : OA) (O : Od) (kn : Kn) (own : Int) (kind : Str) (va : Addr) (vals : Vals_) (fs : List FT), vs = [.ref B.a, .int own, .str kind, .ref va] ∧ Ob K H C B O kn ∧ OOk kn O ∧ kfind kn kind = some fs ∧ ValsS K H va vals ∧ vals.length < 60 ∧ HasF fs vals ∧
  ∀ H', Same H H' → Q (.str (bearW O.things fs kind vals own)) H'
def spWhyMake (K : PySem.W.Frag) (C : Addr) : Sp := fun vs H Q _ => ∃ (B : OA) (O : Od) (kn : Kn) (kind : Str) (va : Addr) (vals : Vals_) (fs : List FT), vs = [.ref B.a, .str kind, .ref va] ∧ Ob K H C B O kn ∧ OOk kn O ∧ kfind kn kind = some fs ∧ ValsS K H va vals ∧ vals.length < 60 ∧ HasF fs vals ∧
  ∀ H', Same H H' → Q (.str (makeW kn (pw O) none none kind vals)) H'
def spWhyChange (K : PySem.W.Frag) (C : Addr) : Sp := fun vs H Q _ => ∃ (B : OA) (O : Od) (kn : Kn) (i : Int) (ver : Option Int) (field : Str) (v : Option Int), vs = [.ref B.a, .int i, oV ver, .str field, oV v] ∧ Ob K H C B O kn ∧ OOk kn O ∧ ∀ H', Same H H' → Q (.str (changeW kn (pw O) none i ver field v)) H'
def spOMake (K : PySem.W.Frag) (C : Addr) : Sp := fun vs H Q _ => ∃ (B : OA) (O : Od) (kn : Kn) (ta : Addr) (tok : Option Tk) (kind : Str) (va : Addr) (vals : Vals_) (fs : List FT), vs = [.ref B.a, .ref ta, .str kind, .ref va] ∧ Ob K H C B O kn ∧ OOk kn O ∧ TokAt K H ta tok ∧ kfind kn kind = some fs ∧ ValsAt K H va vals ∧ vals.length < 60 ∧ HasF fs vals ∧
  OEnd K H C B kn (oMake kn O tok kind vals) (makeW kn (pw O) none none kind vals) Q
def spOChange (K : PySem.W.Frag) (C : Addr) : Sp := fun vs H Q _ => ∃ (B : OA) (O : Od) (kn : Kn) (i : Int) (ver : Option Int) (field : Str) (v : Option Int), vs = [.ref B.a, .int i, oV ver, .str field, oV v] ∧ Ob K H C B O kn ∧ OOk kn O ∧
  OEnd K H C B kn (oChange kn O i ver field v) (changeW kn (pw O) none i ver field v) Q
def spOTake (K : PySem.W.Frag) (C : Addr) : Sp := fun vs H Q _ => ∃ (B : OA) (O : Od) (kn : Kn) (i : Int) (ver : Option Int), vs = [.ref B.a, .int i, oV ver] ∧ Ob K H C B O kn ∧ OOk kn O ∧
  OEnd K H C B kn (oTake kn O i ver) (takeW kn (pw O) none i ver) Q
def spUsed (K : PySem.W.Frag) (C : Addr) : Sp := fun vs H Q _ => ∃ (B : OA) (O : Od) (kn : Kn) (ta : Addr) (t : Tk), vs = [.ref B.a, .ref ta] ∧ Ob K H C B O kn ∧ OOk kn O ∧ H ta = some (.tup [.int t.1, .int t.2]) ∧ ∀ H', Same H H' → Q (.bl (usedB O t)) H'
def spRaise (K : PySem.W.Frag) (C : Addr) : Sp := fun vs H Q _ => ∃ (B : OA) (O : Od) (kn : Kn) (o r : Int), vs = [.ref B.a, .int o, .int r] ∧ Ob K H C B O kn ∧ OOk kn O ∧ OEnd K H C B kn (oFence O (o, r)) "" Q
def spAnswer (K : PySem.W.Frag) (C : Addr) : Sp := fun vs H Q _ => ∃ (B : OA) (O : Od) (kn : Kn) (a : Addr) (c : Cl), vs = [.ref B.a, .ref a] ∧ Ob K H C B O kn ∧ OOk kn O ∧ ClAt K H kn a c ∧ OEnd K H C B kn (oAns kn O c) (oWhy kn O c) Q
def spODo (K : PySem.W.Frag) (C : Addr) : Sp := fun vs H Q _ => ∃ (B : OA) (O : Od) (kn : Kn) (a : Addr) (c : Cl), vs = [.ref B.a, .ref a] ∧ Ob K H C B O kn ∧ OOk kn O ∧ ClAt K H kn a c ∧ OEnd K H C B kn (oDo kn O c) (oWhy kn O c) Q
def spMk (K : PySem.W.Frag) (C : Addr) : Sp := fun vs H Q _ => ∃ (B : OA) (O : Od) (kn : Kn) (kind : Str) (va : Addr) (vals : Vals_) (fs : List FT), vs = [.ref B.a, .str kind, .ref va] ∧ Ob K H C B O kn ∧ OOk kn O ∧ kfind kn kind = some fs ∧ ValsAt K H va vals ∧ vals.length < 60 ∧ HasF fs vals ∧
  OEnd K H C B kn (oMake kn O none kind vals) (makeW kn (pw O) none none kind vals) Q
def spCh (K : PySem.W.Frag) (C : Addr) : Sp := fun vs H Q _ => ∃ (B : OA) (O : Od) (kn : Kn) (i : Int) (field : Str) (v : Option Int), vs = [.ref B.a, .int i, .str field, oV v] ∧ Ob K H C B O kn ∧ OOk kn O ∧
  OEnd K H C B kn (oChange kn O i none field v) (changeW kn (pw O) none i none field v) Q
def spTk (K : PySem.W.Frag) (C : Addr) : Sp := fun vs H Q _ => ∃ (B : OA) (O : Od) (kn : Kn) (i : Int), vs = [.ref B.a, .int i] ∧ Ob K H C B O kn ∧ OOk kn O ∧
  OEnd K H C B kn (oTake kn O i none) (takeW kn (pw O) none i none) Q
def spOLook (K : PySem.W.Frag) (C : Addr) : Sp := fun vs H Q _ => ∃ (B : OA) (O : Od) (kn : Kn), vs = [.ref B.a] ∧ Ob K H C B O kn ∧ OOk kn O ∧
  ∀ (v : V) (H' : Hp) (fs : List (Int × Int)) (sp : List Tk), Same H H' → fs.Perm O.fences → fs.Pairwise leP → sp.Perm O.spent → sp.Pairwise leP → Dp K H' v (lookD O.mom fs O.things sp) → Q v H'
def spCalls (K : PySem.W.Frag) (C : Addr) : Sp := fun vs H Q _ => ∃ (B : OA) (O : Od) (kn : Kn), vs = [.ref B.a] ∧ Ob K H C B O kn ∧ Q (.int O.calls) H
def newO : Od := ⟨[], [], [], 0, 0, 0⟩
end
end OW
/-! The forms of calls and deeds, as functions over data; what the module says of itself. -/
namespace OW
open PySem PySem.Spec PyProof.Rows L2 LB
def isIntD : PyData → Bool
  | .int _ => true
  | _ => false
def isStrD : PyData → Bool
  | .str _ => true
  | _ => false
def isNonD : PyData → Bool
  | .none => true
  | _ => false
def haveG (g : Str → PyData → Bool) (fs : List Str) (ds : List PyData) : Bool := decide (ds.length = fs.length) && (ds.zip fs).all fun p => g p.2 p.1
def tupG (g : Str → PyData → Bool) (fs : List Str) : PyData → Bool
  | .tuple ds => haveG g fs ds
  | _ => false
def formS (f : Str) (d : PyData) : Bool :=
  if f = ("integer" : Str) then isIntD d else if f = ("string" : Str) then isStrD d else if f = ("value" : Str) then isNonD d || isIntD d else true
def formP (f : Str) (d : PyData) : Bool :=
  if f = ("pair" : Str) then tupG formS ["integer", "integer"] d
  else if f = ("values" : Str) then (match d with | .tuple ds => ds.all (tupG formS ["string", "value"]) | _ => false)
  else formS f d
def simF (f : Str) : Prop := ¬ f = ("pair" : Str) ∧ ¬ f = ("values" : Str)
instance {f : Str} : Decidable (simF f) := by unfold simF; exact inferInstance
section
variable (K : PySem.W.Frag)
def spHasG (ok : Str → Prop) (g : Str → PyData → Bool) (sz : PyData → Prop) : Sp := fun vs H Q _ => ∃ (v : V) (d : PyData) (f : Str), vs = [v, .str f] ∧ Dp K H v d ∧ ok f ∧ sz d ∧ ∀ H', Same H H' → Q (.bl (g f d)) H'
def spHaveG (ok : Str → Prop) (g : Str → PyData → Bool) (sz : PyData → Prop) : Sp := fun vs H Q _ => ∃ (a b : Addr) (xs : List V) (ds : List PyData) (fs : List Str), vs = [.ref a, .ref b] ∧ SqT K H a xs ∧ DpAll K H xs ds ∧ SqT K H b (fs.map V.str) ∧ (∀ f ∈ fs, ok f) ∧ ds.length < 60 ∧ (∀ d ∈ ds, sz d) ∧ ∀ H', Same H H' → Q (.bl (haveG g fs ds)) H'
def spTupG (ok : Str → Prop) (g : Str → PyData → Bool) (sz : PyData → Prop) : Sp := fun vs H Q _ => ∃ (v : V) (b : Addr) (d : PyData) (fs : List Str), vs = [v, .ref b] ∧ Dp K H v d ∧ SqT K H b (fs.map V.str) ∧ (∀ f ∈ fs, ok f) ∧ (∀ ds, d = .tuple ds → ds.length < 60 ∧ ∀ d ∈ ds, sz d) ∧ ∀ H', Same H H' → Q (.bl (tupG g fs d)) H'
def spIsInteger : Sp := fun vs H Q _ => ∃ (v : V) (d : PyData), vs = [v] ∧ Dp K H v d ∧ Q (.bl (isIntD d)) H
end
def callForms (w : Str) : Option (List Str) :=
  if w = ("fence" : Str) then some ["pair"] else if w = ("make" : Str) then some ["pair", "pair", "anything", "values"]
  else if w = ("change" : Str) then some ["pair", "integer", "integer", "string", "value"] else if w = ("take" : Str) then some ["pair", "integer", "integer"] else none
def deedForms (w : Str) : List Str := if w = ("make" : Str) then ["anything", "values"] else if w = ("change" : Str) then ["integer", "string", "value"] else ["integer"]
def KTup (K : PySem.W.Frag) (d : Addr) (x : Str) (xs : List V) : Prop := ∃ p, PySem.W.nsIn K d x = some (some (.ref p)) ∧ ∀ H, SqT K H p xs
structure OTxt (P : Program) (w : World) (K : PySem.W.Frag) (mg : Str → Option Value) (C pC pD pN : Addr) (eC eD : Array DictEntry) (nC nD : Nat) : Prop where
  cl : Cls K C
  n_kinds : NoAttr K C "_kinds"
  n_moment : NoAttr K C "_moment"
  n_fences : NoAttr K C "_fences"
  n_things : NoAttr K C "_things"
  n_spent : NoAttr K C "_spent"
  n_grt : NoAttr K C "_greatest_id"
  n_calls : NoAttr K C "_calls"
  g_Outside : mg "Outside" = some (.ref C)
  g_CALLS : ∃ u, mg "CALLS" = some u ∧ RelV (.ref pC) u
  kd_CALLS : KDict K w pC eC nC
  c_fence : KTup K pC "fence" [.str "pair"]
  c_make : KTup K pC "make" [.str "pair", .str "pair", .str "anything", .str "values"]
  c_change : KTup K pC "change" [.str "pair", .str "integer", .str "integer", .str "string", .str "value"]
  c_take : KTup K pC "take" [.str "pair", .str "integer", .str "integer"]
  c_stay : PySem.W.nsIn K pC "stay" = some none
  g_DEEDS : ∃ u, mg "DEEDS" = some u ∧ RelV (.ref pD) u
  kd_DEEDS : KDict K w pD eD nD
  d_make : KTup K pD "make" [.str "anything", .str "values"]
  d_change : KTup K pD "change" [.str "integer", .str "string", .str "value"]
  d_take : KTup K pD "take" [.str "integer"]
  g_NUMBERS : ∃ u, mg "NUMBERS" = some u ∧ RelV (.int 4294967296) u
  g_DONE : ∃ u, mg "DONE" = some u ∧ RelV (.ref pN) u
  o_DONE : ∀ H, SqT K H pN [.str "done"]
  b_isinstance : mg "isinstance" = none
  b_tuple : mg "tuple" = none
  b_str : mg "str" = none
  b_int : mg "int" = none
  b_bool : mg "bool" = none
  b_len : mg "len" = none
  b_all : mg "all" = none
  b_any : mg "any" = none
  b_zip : mg "zip" = none
  b_sorted : mg "sorted" = none
  b_dict : mg "dict" = none
  b_max : mg "max" = none
  b_list : mg "list" = none
/-- a call by its word and the rest -/
def callD (w : Str) (rest : List PyData) : Bool := match callForms w with
  | none => false
  | some fs => haveG formP fs rest
def sz0 (_ : PyData) : Prop := True
def sz1 (d : PyData) : Prop := ∀ ds, d = .tuple ds → ds.length < 60 ∧ ∀ e ∈ ds, ∀ gs, e = .tuple gs → gs.length < 60
def Small (ds : List PyData) : Prop := ds.length < 60 ∧ ∀ d ∈ ds, sz1 d
def spHasF (K : PySem.W.Frag) (ok : Str → Prop) : Sp := fun vs H Q _ => ∃ (v : V) (d : PyData) (f : Str), vs = [v, .str f] ∧ Dp K H v d ∧ ok f ∧ (¬ simF f → sz1 d) ∧ ∀ H', Same H H' → Q (.bl (formP f d)) H'
def spIsCall (K : PySem.W.Frag) : Sp := fun vs H Q _ => ∃ (a : Addr) (xs : List V) (w : Str) (rest : List PyData), vs = [.ref a] ∧ SqT K H a xs ∧ DpAll K H xs (.str w :: rest) ∧ w ∈ (["fence", "make", "change", "take", "stay"] : List Str) ∧ Small rest ∧ ∀ H', Same H H' → Q (.bl (callD w rest)) H'
def spBegins (K : PySem.W.Frag) : Sp := fun vs H Q _ => ∃ (a : Addr) (xs : List V) (w : Str) (rest : List PyData), vs = [.ref a] ∧ SqT K H a xs ∧ DpAll K H xs (.str w :: rest) ∧ Q (.bl true) H
def spIsDeed (K : PySem.W.Frag) : Sp := fun vs H Q _ => ∃ (a : Addr) (xs : List V) (w : Str) (ds : List PyData), vs = [.str w, .ref a] ∧ SqT K H a xs ∧ DpAll K H xs ds ∧ w ∈ (["make", "change", "take"] : List Str) ∧ Small ds ∧ ∀ H', Same H H' → Q (.bl (haveG formP (deedForms w) ds)) H'
def spCheck (K : PySem.W.Frag) : Sp := fun vs H Q _ => ∃ (a : Addr) (xs : List V) (w : Str) (ds : List PyData), vs = [.str w, .ref a] ∧ SqT K H a xs ∧ DpAll K H xs ds ∧ w ∈ (["make", "change", "take"] : List Str) ∧ Small ds ∧ haveG formP (deedForms w) ds = true ∧ ∀ H', Same H H' → Q .non H'
def spFits (K : PySem.W.Frag) : Sp := fun vs H Q _ => ∃ (v : Option Int) (a m : Addr) (tm : Str × List Str), vs = [oV v, .ref a] ∧ SqT K H a [.str tm.1, .ref m] ∧ SqT K H m (tm.2.map V.str) ∧ Q (.bl (formB tm v)) H
end OW
namespace K07
open PySem PySem.Spec PyProof.Rows L2 LB OW
open RZ (pi_zipA)
section
variable {P : Program} {w : World} {K : PySem.W.Frag} {mg : Str → Option Value} {base : Heap} {C pC pD pN : Addr} {eC eD : Array DictEntry} {nC nD : Nat}
theorem ok__is_integer {f : Addr} {fd : FuncData} (F : Fun K "_is_integer" "_is_integer" s__is_integer f fd) (T : OTxt P w K mg C pC pD pN eC eD nC nD) : FnOk P w K mg base CX0 1 f fd ["part"] (spIsInteger K) := by
  refine F.ok sc__is_integer (fun vs H Q E h => ?_) (fun cdv A outer s H vs Q E hr h => ?_)
  · obtain ⟨v, d, rfl, _⟩ := h
    rfl
  · obtain ⟨v, d, rfl, hd, k⟩ := h
    refine ⟨_, (pss_one (ps_ret (pe_and (pe_callB call_isi (by rfl) T.b_isinstance (by decide +kernel) (pa_cons (pv 0) (pa_cons (pe_bltn (v := .ty "int") (by rfl) T.b_int (by decide +kernel) rfl) pa_nil))) (pe_one (pe_not (pe_callB call_isi (by rfl) T.b_isinstance (by decide +kernel) (pa_cons (pv 0) (pa_cons (pe_bltn (v := .ty "bool") (by rfl) T.b_bool (by decide +kernel) rfl) pa_nil)))))))), ?_⟩
    cases d with
    | none => exact isi_val rfl (ty_d hd : TyX K H v (.type "NoneType")) (b := false) (show kitB "NoneType" "int" = some false by decide +kernel) ⟨_, rfl, iteF k⟩
    | bool b => exact isi_val rfl (ty_d hd : TyX K H v (.type "bool")) (b := true) (show kitB "bool" "int" = some true by decide +kernel) ⟨_, rfl, iteT (isi_val rfl (ty_d hd : TyX K H v (.type "bool")) (b := true) (show kitB "bool" "bool" = some true by decide +kernel) ⟨_, rfl, k⟩)⟩
    | int i => exact isi_val rfl (ty_d hd : TyX K H v (.type "int")) (b := true) (show kitB "int" "int" = some true by decide +kernel) ⟨_, rfl, iteT (isi_val rfl (ty_d hd : TyX K H v (.type "int")) (b := false) (show kitB "int" "bool" = some false by decide +kernel) ⟨_, rfl, k⟩)⟩
    | str x => exact isi_val rfl (ty_d hd : TyX K H v (.type "str")) (b := false) (show kitB "str" "int" = some false by decide +kernel) ⟨_, rfl, iteF k⟩
    | list ds => exact isi_val rfl (ty_d hd : TyX K H v (.type "list")) (b := false) (show kitB "list" "int" = some false by decide +kernel) ⟨_, rfl, iteF k⟩
    | tuple ds => exact isi_val rfl (ty_d hd : TyX K H v (.type "tuple")) (b := false) (show kitB "tuple" "int" = some false by decide +kernel) ⟨_, rfl, iteF k⟩
    | dict _ => cases hd
theorem formP_sim {f : Str} {d : PyData} (h : simF f) : formP f d = formS f d := by
  unfold formP
  rw [if_neg h.1, if_neg h.2]
theorem all_zip {g h : Str → PyData → Bool} : ∀ {ds : List PyData} {fs : List Str}, (∀ f ∈ fs, ∀ d, g f d = h f d) → ((ds.zip fs).all fun p => g p.2 p.1) = (ds.zip fs).all fun p => h p.2 p.1
  | [], _, _ => by simp
  | _ :: _, [], _ => by simp
  | d :: ds, f :: fs, q => by
    rw [List.zip_cons_cons, List.all_cons, List.all_cons, all_zip fun f m d => q f (List.mem_cons_of_mem _ m) d]
    show (g f d && _) = (h f d && _)
    rw [q f List.mem_cons_self d]
theorem tupG_sim {fs : List Str} {d : PyData} (h : ∀ f ∈ fs, simF f) : tupG formP fs d = tupG formS fs d := by
  cases d with
  | tuple ds =>
    show haveG formP fs ds = haveG formS fs ds
    unfold haveG
    rw [all_zip (g := formP) (h := formS) fun f m d => formP_sim (h f m)]
  | _ => rfl
theorem deq {a b : Str} : (decide (V.str a = V.str b)) = decide (a = b) := by
  by_cases h : a = b
  · rw [decide_eq_true h, decide_eq_true (show V.str a = V.str b by rw [h])]
  · rw [decide_eq_false h, decide_eq_false (fun q => h (V.str.inj q))]
theorem dpAll_at {H : Hp} {vs : List V} {ds : List PyData} {i : Nat} {v : V} (h : DpAll K H vs ds) (e : vs[i]? = some v) : ∃ d, ds[i]? = some d ∧ Dp K H v d := by
  obtain ⟨v', d, e1, e2, e3⟩ := dpAll_get h (List.getElem?_eq_some_iff.mp e).1
  rw [e] at e1
  cases e1
  exact ⟨d, e2, e3⟩
theorem ok__have_forms {ok : Str → Prop} {g : Str → PyData → Bool} {sz : PyData → Prop} {k0 : Nat} {f : Addr} {fd : FuncData} (F : Fun K "_have_forms" "_have_forms" s__have_forms f fd) (T : OTxt P w K mg C pC pD pN eC eD nC nD) (c__has_form : C8.Cal P w K mg base k0 "_has_form" (spHasG K ok g sz) []) : FnOk P w K mg base CX0 (k0 + 1) f fd ["parts", "forms"] (spHaveG K ok g sz) := by
  refine F.ok sc__have_forms (fun vs H Q E h => ?_) (fun cdv A outer s H vs Q E hr h => ?_)
  · obtain ⟨a, b, xs, ds, fs, rfl, _⟩ := h
    rfl
  · obtain ⟨a, b, xs, ds, fs, rfl, ha, hx, hb, hok, hl, hsm, k⟩ := h
    refine ⟨_, (pss_cons (ps_if (pt_cmpR op_ne (pe_callB call_len_seq (by rfl) T.b_len (by decide +kernel) (pa_cons (pv 0) pa_nil)) (pe_callB call_len_seq (by rfl) T.b_len (by decide +kernel) (pa_cons (pv 1) pa_nil)) (nomark _))
      (pss_one (ps_ret pe_bl))
      pss_nil)
    (pss_one (ps_ret (pe_callB (cr_all rfl) (by rfl) T.b_all (by decide +kernel) (pa_cons (pe_lc (g := (gTup K 2 (gCons (gName 2) (gCons (gName 3) gNil)))) (own := [("part", 2), ("form", 3)]) rfl sc__have_forms.nd (pi_zipA (by rfl) T.b_zip (pa_cons (pv 0) (pa_cons (pv 1) pa_nil))) (blkOk_by (own := [("part", 2), ("form", 3)]) (N := N__have_forms) (sc := defScope s__have_forms) (by decide +kernel)) (fun _ _ _ _ _ => (pg_tup (by rfl) (pgs_cons (pg_name (i := 2) sc__have_forms.nd rfl (Or.inl rfl)) (pgs_cons (pg_name (i := 3) sc__have_forms.nd rfl (Or.inl rfl)) pgs_nil)))) (fun _ _ _ _ _ => pts_nil) (fun _ _ _ _ _ => (C8.pe_c c__has_form hr (by first | decide | omega) rfl (pa_cons (pv 2) (pa_cons (pv 3) pa_nil))))) pa_nil))))), ?_⟩
    have lx : xs.length = ds.length := dpAll_len hx
    refine ⟨_, rfl, a, _, rfl, .inr ha, _, rfl, b, _, rfl, .inr hb, rfl, _, rfl, ?_⟩
    show (if (!decide (V.int (xs.length : Int) = V.int ((fs.map V.str).length : Int))) = true then _ else _ : Prop)
    rw [List.length_map, lx]
    unfold haveG at k
    by_cases he : ds.length = fs.length
    · rw [decide_eq_true he] at k
      rw [decide_eq_true (show V.int (ds.length : Int) = V.int (fs.length : Int) by rw [he])]
      refine iteF ?_
      refine ⟨_, rfl, _, rfl, a, b, xs, _, rfl, .inr ⟨ha, hb, fun D hD => lc_it (walk_zipT rfl) (fun i H' => Same H H' ∧ H' D = some (.lst ((((ds.zip fs).take i).map fun p => g p.2 p.1).map V.bl))) ⟨same_upd hD, upd_same⟩ (fun i H' _ h => ⟨same_seqT h.1 ha, same_seqT h.1 hb⟩) ?_ ?_⟩⟩
      · rintro i x H1 H2 hi ⟨s1, hd⟩ ⟨p, vx, vf, rfl, np, rfl, ex, ef⟩
        rw [List.length_map, lx] at hi
        have ex : xs[i]? = some vx := ex
        have ef : (fs.map V.str)[i]? = some vf := ef
        obtain ⟨d, hdi, hdd⟩ := dpAll_at hx ex
        obtain ⟨fn, hfn, rfl⟩ : ∃ fn, fs[i]? = some fn ∧ V.str fn = vf := by
          rw [List.getElem?_map] at ef
          cases e : fs[i]? with
          | none => rw [e] at ef; cases ef
          | some n => rw [e] at ef; exact ⟨n, rfl, Option.some.inj ef⟩
        have sp := same_upd (o := HO.tup [vx, .str fn]) np
        refine ⟨p, _, rfl, .of upd_same, rfl, _, _, rfl, _, _, rfl, rfl, rfl, ?_⟩
        refine ⟨_, rfl, _, rfl, vx, d, fn, rfl, dp_mono (s1.trans sp) _ _ hdd, hok fn (List.mem_of_getElem? hfn), hsm d (List.mem_of_getElem? hdi), fun H3 s3 => ⟨_, s3 _ _ (sp _ _ hd), ?_, fun b o z => ?_, ?_⟩⟩
        · rw [List.length_map, List.length_map, List.length_take, List.length_zip]
          exact Nat.lt_of_lt_of_le (show min i _ < 60 by omega) (by decide)
        · rw [upd_ne (ne_of_none z hD)]
          exact s3 _ _ (sp _ _ (s1 _ _ z))
        · rw [upd_same, List.take_add_one]
          have e : (ds.zip fs)[i]? = some (d, fn) := by rw [List.getElem?_zip_eq_some]; exact ⟨hdi, hfn⟩
          rw [e, List.map_append, List.map_append]
          rfl
      · rintro H1 ⟨s1, hd⟩
        rw [List.length_map, lx] at hd
        have e : (ds.zip fs).take (min ds.length fs.length) = ds.zip fs := List.take_of_length_le (by rw [List.length_zip]; exact Nat.le_refl _)
        rw [e] at hd
        refine ⟨D, _, rfl, SqL.of hd, ?_⟩
        rw [List.all_map]
        exact k H1 s1
    · rw [decide_eq_false he] at k
      rw [decide_eq_false (fun q => he (by have := V.int.inj q; omega))]
      exact iteT (k H fun _ _ e => e)
theorem ok__is_tuple_of {ok : Str → Prop} {g : Str → PyData → Bool} {sz : PyData → Prop} {k0 : Nat} {f : Addr} {fd : FuncData} (F : Fun K "_is_tuple_of" "_is_tuple_of" s__is_tuple_of f fd) (T : OTxt P w K mg C pC pD pN eC eD nC nD) (c__have_forms : C8.Cal P w K mg base k0 "_have_forms" (spHaveG K ok g sz) []) : FnOk P w K mg base CX0 (k0 + 1) f fd ["part", "forms"] (spTupG K ok g sz) := by
  refine F.ok sc__is_tuple_of (fun vs H Q E h => ?_) (fun cdv A outer s H vs Q E hr h => ?_)
  · obtain ⟨v, b, d, fs, rfl, _⟩ := h
    rfl
  · obtain ⟨v, b, d, fs, rfl, hd, hb, hok, hsm, k⟩ := h
    refine ⟨_, (pss_one (ps_ret (pe_and (pe_callB call_isi (by rfl) T.b_isinstance (by decide +kernel) (pa_cons (pv 0) (pa_cons (pe_bltn (v := .ty "tuple") (by rfl) T.b_tuple (by decide +kernel) rfl) pa_nil))) (pe_one (C8.pe_c c__have_forms hr (by first | decide | omega) rfl (pa_cons (pv 0) (pa_cons (pv 1) pa_nil))))))), ?_⟩
    have refl : Same H H := fun _ _ e => e
    cases d with
    | none => exact isi_val rfl (ty_d hd : TyX K H v (.type "NoneType")) (b := false) (show kitB "NoneType" "tuple" = some false by decide +kernel) ⟨_, rfl, iteF (k H refl)⟩
    | bool b => exact isi_val rfl (ty_d hd : TyX K H v (.type "bool")) (b := false) (show kitB "bool" "tuple" = some false by decide +kernel) ⟨_, rfl, iteF (k H refl)⟩
    | int i => exact isi_val rfl (ty_d hd : TyX K H v (.type "int")) (b := false) (show kitB "int" "tuple" = some false by decide +kernel) ⟨_, rfl, iteF (k H refl)⟩
    | str x => exact isi_val rfl (ty_d hd : TyX K H v (.type "str")) (b := false) (show kitB "str" "tuple" = some false by decide +kernel) ⟨_, rfl, iteF (k H refl)⟩
    | list ds => exact isi_val rfl (ty_d hd : TyX K H v (.type "list")) (b := false) (show kitB "list" "tuple" = some false by decide +kernel) ⟨_, rfl, iteF (k H refl)⟩
    | tuple ds =>
      obtain ⟨h1, h2⟩ := hsm ds rfl
      have ty : TyX K H v (.type "tuple") := ty_d hd
      obtain ⟨a, xs, rfl, sa, ha⟩ := dp_tuple hd
      exact isi_val rfl ty (b := true) (by decide +kernel) ⟨_, rfl, iteT ⟨_, rfl, _, rfl, a, b, xs, ds, fs, rfl, sa, ha, hb, hok, h1, h2, k⟩⟩
    | dict _ => cases hd
theorem ok__has_form {ok : Str → Prop} {spT : Sp} {k0 : Nat} {f : Addr} {fd : FuncData} (F : Fun K "_has_form" "_has_form" s__has_form f fd) (T : OTxt P w K mg C pC pD pN eC eD nC nD) (hk : 1 ≤ k0) (c__is_integer : C8.Cal P w K mg base 1 "_is_integer" (spIsInteger K) [])
    (c__is_tuple_of : C8.Cal P w K mg base k0 "_is_tuple_of" spT []) (hT : ∀ f, ok f → ¬ simF f → ∀ vs H Q E, spTupG K simF formP sz0 vs H Q E → spT vs H Q E) : FnOk P w K mg base CX0 (k0 + 1) f fd ["part", "form"] (spHasF K ok) := by
  refine F.ok sc__has_form (fun vs H Q E h => ?_) (fun cdv A outer s H vs Q E hr h => ?_)
  · obtain ⟨v, d, f, rfl, _⟩ := h
    rfl
  · obtain ⟨v, d, f, rfl, hd, hok, hsm, k⟩ := h
    refine ⟨_, (pss_cons (ps_if (pt_cmpR op_eq (pv 1) pe_str (nomark _))
      (pss_one (ps_ret (C8.pe_c c__is_integer hr (by first | decide | omega) rfl (pa_cons (pv 0) pa_nil))))
      pss_nil)
    (pss_cons (ps_if (pt_cmpR op_eq (pv 1) pe_str (nomark _))
      (pss_one (ps_ret (pe_callB call_isi (by rfl) T.b_isinstance (by decide +kernel) (pa_cons (pv 0) (pa_cons (pe_bltn (v := .ty "str") (by rfl) T.b_str (by decide +kernel) rfl) pa_nil)))))
      pss_nil)
    (pss_cons (ps_if (pt_cmpR op_eq (pv 1) pe_str (nomark _))
      (pss_one (ps_ret (pe_or (pe_cmpR op_isN (pv 0) pe_non (nomark _)) (pe_one (C8.pe_c c__is_integer hr (by first | decide | omega) rfl (pa_cons (pv 0) pa_nil))))))
      pss_nil)
    (pss_cons (ps_if (pt_cmpR op_eq (pv 1) pe_str (nomark _))
      (pss_one (ps_ret (C8.pe_c c__is_tuple_of hr (by first | decide | omega) rfl (pa_cons (pv 0) (pa_cons (pe_tup (pa_cons pe_str (pa_cons pe_str pa_nil))) pa_nil)))))
      pss_nil)
    (pss_cons (ps_if (pt_cmpR op_eq (pv 1) pe_str (nomark _))
      (pss_one (ps_ret (pe_and (pe_callB call_isi (by rfl) T.b_isinstance (by decide +kernel) (pa_cons (pv 0) (pa_cons (pe_bltn (v := .ty "tuple") (by rfl) T.b_tuple (by decide +kernel) rfl) pa_nil))) (pe_one (pe_callB (cr_all rfl) (by rfl) T.b_all (by decide +kernel) (pa_cons (pe_lc (own := [("pair", 2)]) rfl sc__has_form.nd (pi_tup (pv 0)) (blkOk_by (own := [("pair", 2)]) (N := N__has_form) (sc := defScope s__has_form) (by decide +kernel)) (fun _ _ _ _ _ => (pg_name (i := 2) sc__has_form.nd rfl (Or.inl rfl))) (fun _ _ _ _ _ => pts_nil) (fun _ _ _ _ _ => (C8.pe_c c__is_tuple_of hr (by first | decide | omega) rfl (pa_cons (pv 2) (pa_cons (pe_tup (pa_cons pe_str (pa_cons pe_str pa_nil))) pa_nil))))) pa_nil))))))
      pss_nil)
    (pss_one (ps_ret pe_bl))))))), ?_⟩
    have refl : Same H H := fun _ _ e => e
    have pairOk : ∀ x ∈ (["integer", "integer"] : List Str), simF x := by decide +kernel
    have valOk : ∀ x ∈ (["string", "value"] : List Str), simF x := by decide +kernel
    refine ⟨_, rfl, rfl, _, rfl, ?_⟩
    show (if decide (V.str f = V.str "integer") = true then _ else _ : Prop)
    rw [deq]
    by_cases h1 : f = ("integer" : Str)
    · rw [decide_eq_true h1]
      subst h1
      exact iteT ⟨_, rfl, v, d, rfl, hd, k H refl⟩
    rw [decide_eq_false h1]
    refine iteF ⟨_, rfl, rfl, _, rfl, ?_⟩
    show (if decide (V.str f = V.str "string") = true then _ else _ : Prop)
    rw [deq]
    by_cases h2 : f = ("string" : Str)
    · rw [decide_eq_true h2]
      subst h2
      refine iteT ?_
      cases d with
      | none => exact isi_val rfl (ty_d hd : TyX K H v (.type "NoneType")) (b := false) (show kitB "NoneType" "str" = some false by decide +kernel) (k H refl)
      | bool b => exact isi_val rfl (ty_d hd : TyX K H v (.type "bool")) (b := false) (show kitB "bool" "str" = some false by decide +kernel) (k H refl)
      | int i => exact isi_val rfl (ty_d hd : TyX K H v (.type "int")) (b := false) (show kitB "int" "str" = some false by decide +kernel) (k H refl)
      | str x => exact isi_val rfl (ty_d hd : TyX K H v (.type "str")) (b := true) (show kitB "str" "str" = some true by decide +kernel) (k H refl)
      | list ds => exact isi_val rfl (ty_d hd : TyX K H v (.type "list")) (b := false) (show kitB "list" "str" = some false by decide +kernel) (k H refl)
      | tuple ds => exact isi_val rfl (ty_d hd : TyX K H v (.type "tuple")) (b := false) (show kitB "tuple" "str" = some false by decide +kernel) (k H refl)
      | dict _ => cases hd
    rw [decide_eq_false h2]
    refine iteF ⟨_, rfl, rfl, _, rfl, ?_⟩
    show (if decide (V.str f = V.str "value") = true then _ else _ : Prop)
    rw [deq]
    by_cases h3 : f = ("value" : Str)
    · rw [decide_eq_true h3]
      subst h3
      refine iteT ?_
      cases d with
      | none => cases hd; exact ⟨_, rfl, rfl, _, rfl, iteT (k H refl)⟩
      | bool b => cases hd; exact ⟨_, rfl, rfl, _, rfl, iteF ⟨_, rfl, _, .bool b, rfl, .bl b, k H refl⟩⟩
      | int i => cases hd; exact ⟨_, rfl, rfl, _, rfl, iteF ⟨_, rfl, _, .int i, rfl, .int i, k H refl⟩⟩
      | str x => cases hd; exact ⟨_, rfl, rfl, _, rfl, iteF ⟨_, rfl, _, .str x, rfl, .str x, k H refl⟩⟩
      | list ds =>
        have hd' := hd
        obtain ⟨a, xs, rfl, _⟩ := dp_list hd
        exact ⟨_, rfl, rfl, _, rfl, iteF ⟨_, rfl, _, .list ds, rfl, hd', k H refl⟩⟩
      | tuple ds =>
        have hd' := hd
        obtain ⟨a, xs, rfl, _⟩ := dp_tuple hd
        exact ⟨_, rfl, rfl, _, rfl, iteF ⟨_, rfl, _, .tuple ds, rfl, hd', k H refl⟩⟩
      | dict _ => cases hd
    rw [decide_eq_false h3]
    refine iteF ⟨_, rfl, rfl, _, rfl, ?_⟩
    show (if decide (V.str f = V.str "pair") = true then _ else _ : Prop)
    rw [deq]
    by_cases h4 : f = ("pair" : Str)
    · rw [decide_eq_true h4]
      subst h4
      have ns : ¬ simF ("pair" : Str) := fun z => z.1 rfl
      refine iteT ⟨_, rfl, by show 2 ≤ sizeLine; decide, fun p np => hT _ hok ns _ _ _ _ ⟨v, p, d, ["integer", "integer"], rfl, dp_mono (same_upd np) _ _ hd, .of upd_same, pairOk, fun ds e => ⟨(hsm ns ds e).1, fun _ _ => trivial⟩, fun H' s' => ?_⟩⟩
      have e : formP "pair" d = tupG formP ["integer", "integer"] d := by
        rw [tupG_sim pairOk]
        unfold formP
        rw [if_pos rfl]
      have := k H' ((same_upd np).trans s')
      rw [e] at this
      exact this
    rw [decide_eq_false h4]
    refine iteF ⟨_, rfl, rfl, _, rfl, ?_⟩
    show (if decide (V.str f = V.str "values") = true then _ else _ : Prop)
    rw [deq]
    by_cases h5 : f = ("values" : Str)
    · rw [decide_eq_true h5]
      subst h5
      have ns : ¬ simF ("values" : Str) := fun z => z.2 rfl
      refine iteT ?_
      cases d with
      | none => exact isi_val rfl (ty_d hd : TyX K H v (.type "NoneType")) (b := false) (show kitB "NoneType" "tuple" = some false by decide +kernel) ⟨_, rfl, iteF (k H refl)⟩
      | bool b => exact isi_val rfl (ty_d hd : TyX K H v (.type "bool")) (b := false) (show kitB "bool" "tuple" = some false by decide +kernel) ⟨_, rfl, iteF (k H refl)⟩
      | int i => exact isi_val rfl (ty_d hd : TyX K H v (.type "int")) (b := false) (show kitB "int" "tuple" = some false by decide +kernel) ⟨_, rfl, iteF (k H refl)⟩
      | str x => exact isi_val rfl (ty_d hd : TyX K H v (.type "str")) (b := false) (show kitB "str" "tuple" = some false by decide +kernel) ⟨_, rfl, iteF (k H refl)⟩
      | list ds => exact isi_val rfl (ty_d hd : TyX K H v (.type "list")) (b := false) (show kitB "list" "tuple" = some false by decide +kernel) ⟨_, rfl, iteF (k H refl)⟩
      | tuple ds =>
        obtain ⟨z1, z2⟩ := hsm ns ds rfl
        have ty : TyX K H v (.type "tuple") := ty_d hd
        obtain ⟨a, xs, rfl, sa, ha⟩ := dp_tuple hd
        have lx : xs.length = ds.length := dpAll_len ha
        refine isi_val rfl ty (b := true) (by decide +kernel) ⟨_, rfl, iteT ⟨_, rfl, a, rfl, ⟨_, sa⟩, fun D hD => lc_tup (K := K) (a := a) (xs := xs) (fun i H' => Same H H' ∧ H' D = some (.lst (((ds.take i).map (tupG formP ["string", "value"])).map V.bl))) ⟨same_upd hD, upd_same⟩ (fun i H' _ h => same_seqT h.1 sa) ?_ ?_⟩⟩
        · rintro i x H1 hx ⟨s1, hl⟩
          obtain ⟨e, hei, hed⟩ := dpAll_at ha hx
          have hi := (List.getElem?_eq_some_iff.mp hei).1
          refine ⟨rfl, _, rfl, by show 2 ≤ sizeLine; decide, fun p np => hT _ hok ns _ _ _ _ ⟨x, p, e, ["string", "value"], rfl, dp_mono (s1.trans (same_upd np)) _ _ hed, .of upd_same, valOk, fun gs q => ⟨z2 e (List.mem_of_getElem? hei) gs q, fun _ _ => trivial⟩, fun H3 s3 => ⟨_, s3 _ _ (same_upd np _ _ hl), ?_, fun b o z => ?_, ?_⟩⟩⟩
          · rw [List.length_map, List.length_map, List.length_take]
            exact Nat.lt_of_lt_of_le (show min i _ < 60 by omega) (by decide)
          · rw [upd_ne (ne_of_none z hD)]
            exact s3 _ _ (same_upd np _ _ (s1 _ _ z))
          · rw [upd_same, List.take_add_one, hei, List.map_append, List.map_append]
            rfl
        · rintro H1 ⟨s1, hl⟩
          rw [lx, List.take_length] at hl
          refine ⟨D, _, rfl, SqL.of hl, ?_⟩
          rw [List.all_map]
          have := k H1 s1
          have e : formP "values" (.tuple ds) = ds.all (id ∘ tupG formP ["string", "value"]) := by
            have e1 : (id ∘ tupG formP ["string", "value"]) = tupG formS ["string", "value"] := by
              funext x
              exact tupG_sim valOk
            rw [e1]
            unfold formP
            rw [if_neg h4, if_pos rfl]
          rw [e] at this
          exact this
      | dict _ => cases hd
    rw [decide_eq_false h5]
    refine iteF ?_
    have e : formP f d = true := by
      unfold formP formS
      rw [if_neg h4, if_neg h5, if_neg h1, if_neg h2, if_neg h3]
    have := k H refl
    rw [e] at this
    exact this
theorem ok__begins_with_word {f : Addr} {fd : FuncData} (F : Fun K "_begins_with_word" "_begins_with_word" s__begins_with_word f fd) (T : OTxt P w K mg C pC pD pN eC eD nC nD) : FnOk P w K mg base CX0 1 f fd ["row"] (spBegins K) := by
  refine F.ok sc__begins_with_word (fun vs H Q E h => ?_) (fun cdv A outer s H vs Q E hr h => ?_)
  · obtain ⟨a, xs, w, rest, rfl, _⟩ := h
    rfl
  · obtain ⟨a, xs, w, rest, rfl, sa, hx, k⟩ := h
    refine ⟨_, (pss_one (ps_ret (pe_and (pe_callB call_isi (by rfl) T.b_isinstance (by decide +kernel) (pa_cons (pv 0) (pa_cons (pe_bltn (v := .ty "tuple") (by rfl) T.b_tuple (by decide +kernel) rfl) pa_nil))) (pe_and (pe_cmpR op_gt (pe_callB call_len_seq (by rfl) T.b_len (by decide +kernel) (pa_cons (pv 0) pa_nil)) pe_int (nomark _)) (pe_one (pe_callB call_isi (by rfl) T.b_isinstance (by decide +kernel) (pa_cons (pe_ix ix_tup (pv 0) pe_int (fun _ _ => rfl)) (pa_cons (pe_bltn (v := .ty "str") (by rfl) T.b_str (by decide +kernel) rfl) pa_nil)))))))), ?_⟩
    obtain ⟨v, r, rfl, hv, _⟩ := ds_cons hx
    obtain rfl := dp_str hv
    have ty : TyX K H (.ref a) (.type "tuple") := ty_d (.tup sa hx : Dp K H (.ref a) (.tuple (.str w :: rest)))
    refine isi_val rfl ty (show kitB "tuple" "tuple" = some true by decide +kernel) ⟨_, rfl, iteT ⟨_, rfl, a, _, rfl, .inr sa, _, _, rfl, rfl, _, rfl, ?_⟩⟩
    have e : decide (((V.str w :: r).length : Int) > 0) = true := decide_eq_true (by rw [List.length_cons]; omega)
    show (if decide (((V.str w :: r).length : Int) > 0) = true then _ else _ : Prop)
    rw [e]
    refine iteT ⟨_, rfl, a, _, _, _, rfl, rfl, sa, atI_nat (j := 0) rfl, ?_⟩
    exact ⟨_, _, _, _, _, rfl, .ty _, .base (.str w), kit_ty (show kitB "str" "str" = some true by decide +kernel), k⟩
theorem cut_tail {v : V} {r : List V} : cutV (v :: r) (some 1) none = r := by
  show List.take ((v :: r).length - min 1 (v :: r).length) (List.drop (min 1 (v :: r).length) (v :: r)) = r
  have e1 : min 1 (v :: r).length = 1 := by rw [List.length_cons]; omega
  rw [e1]
  show List.take ((r.length + 1) - 1) r = r
  exact List.take_of_length_le (by omega)
theorem call_key (T : OTxt P w K mg C pC pD pN eC eD nC nD) {x : Str} (h : x ∈ (["fence", "make", "change", "take", "stay"] : List Str)) : (callForms x = none ∧ PySem.W.nsIn K pC x = some none) ∨ ∃ fs q, callForms x = some fs ∧ PySem.W.nsIn K pC x = some (some (.ref q)) ∧ ∀ H, SqT K H q (fs.map V.str) := by
  have e1 : callForms "fence" = some (["pair"] : List Str) := by decide +kernel
  have e2 : callForms "make" = some (["pair", "pair", "anything", "values"] : List Str) := by decide +kernel
  have e3 : callForms "change" = some (["pair", "integer", "integer", "string", "value"] : List Str) := by decide +kernel
  have e4 : callForms "take" = some (["pair", "integer", "integer"] : List Str) := by decide +kernel
  have e5 : callForms "stay" = none := by decide +kernel
  simp only [List.mem_cons, List.not_mem_nil, or_false] at h
  rcases h with rfl | rfl | rfl | rfl | rfl
  · obtain ⟨p, a, b⟩ := T.c_fence; exact .inr ⟨_, p, e1, a, b⟩
  · obtain ⟨p, a, b⟩ := T.c_make; exact .inr ⟨_, p, e2, a, b⟩
  · obtain ⟨p, a, b⟩ := T.c_change; exact .inr ⟨_, p, e3, a, b⟩
  · obtain ⟨p, a, b⟩ := T.c_take; exact .inr ⟨_, p, e4, a, b⟩
  · exact .inl ⟨e5, T.c_stay⟩
theorem deed_key (T : OTxt P w K mg C pC pD pN eC eD nC nD) {x : Str} (h : x ∈ (["make", "change", "take"] : List Str)) : ∃ q, PySem.W.nsIn K pD x = some (some (.ref q)) ∧ ∀ H, SqT K H q ((deedForms x).map V.str) := by
  have e1 : deedForms "make" = (["anything", "values"] : List Str) := by decide +kernel
  have e2 : deedForms "change" = (["integer", "string", "value"] : List Str) := by decide +kernel
  have e3 : deedForms "take" = (["integer"] : List Str) := by decide +kernel
  simp only [List.mem_cons, List.not_mem_nil, or_false] at h
  rcases h with rfl | rfl | rfl
  · obtain ⟨p, a, b⟩ := T.d_make; exact ⟨p, a, by rw [e1]; exact b⟩
  · obtain ⟨p, a, b⟩ := T.d_change; exact ⟨p, a, by rw [e2]; exact b⟩
  · obtain ⟨p, a, b⟩ := T.d_take; exact ⟨p, a, by rw [e3]; exact b⟩
theorem ok_is_call {k0 : Nat} (hk : 1 ≤ k0) {f : Addr} {fd : FuncData} (F : Fun K "is_call" "is_call" s_is_call f fd) (T : OTxt P w K mg C pC pD pN eC eD nC nD) (c__begins_with_word : C8.Cal P w K mg base 1 "_begins_with_word" (spBegins K) []) (c__have_forms : C8.Cal P w K mg base k0 "_have_forms" (spHaveG K (fun _ => True) formP sz1) []) : FnOk P w K mg base CX0 (k0 + 1) f fd ["call"] (spIsCall K) := by
  refine F.ok sc_is_call (fun vs H Q E h => ?_) (fun cdv A outer s H vs Q E hr h => ?_)
  · obtain ⟨a, xs, w, rest, rfl, _⟩ := h
    rfl
  · obtain ⟨a, xs, wd, rest, rfl, sa, hx, hw, ⟨hs1, hs2⟩, k⟩ := h
    refine ⟨_, (pss_one (ps_ret (pe_and (C8.pe_c c__begins_with_word hr (by first | decide | omega) rfl (pa_cons (pv 0) pa_nil)) (pe_and (pe_cmpR (op_in_kd T.kd_CALLS) (pe_ix ix_tup (pv 0) pe_int (fun _ _ => rfl)) (C8.pe_gc rfl T.g_CALLS) (by rfl)) (pe_one (C8.pe_c c__have_forms hr (by first | decide | omega) rfl (pa_cons (pe_slice sl_tup (pv 0) (po_some pe_int) po_none) (pa_cons (pe_ix ix_kdict (C8.pe_gc rfl T.g_CALLS) (pe_ix ix_tup (pv 0) pe_int (fun _ _ => rfl)) (fun _ _ => rfl)) pa_nil)))))))), ?_⟩
    have refl : Same H H := fun _ _ e => e
    obtain ⟨v, r, rfl, hv, hr2⟩ := ds_cons hx
    obtain rfl := dp_str hv
    refine ⟨_, rfl, a, _, wd, rest, rfl, sa, hx, _, rfl, iteT ?_⟩
    unfold callD at k
    rcases call_key T hw with ⟨e1, e2⟩ | ⟨fs, q, e1, e2, e3⟩
    · rw [e1] at k
      exact ⟨_, rfl, a, _, _, _, rfl, rfl, sa, atI_nat (j := 0) rfl, wd, _, rfl, rfl, e2, _, rfl, iteF (k H refl)⟩
    · rw [e1] at k
      refine ⟨_, rfl, a, _, _, _, rfl, rfl, sa, atI_nat (j := 0) rfl, wd, _, rfl, rfl, e2, _, rfl, iteT ?_⟩
      refine ⟨_, rfl, _, rfl, a, _, rfl, sa, ?_, fun p np => ?_⟩
      · show ¬ (min 1 (V.str wd :: r).length = 0 ∧ _)
        rw [List.length_cons]
        omega
      · rw [cut_tail]
        have sp := same_upd (o := HO.tup r) np
        refine ⟨_, rfl, a, _, _, _, rfl, rfl, same_seqT sp sa, atI_nat (j := 0) rfl, pC, wd, .ref q, rfl, rfl, ⟨eC, nC, _, T.kd_CALLS.at_, T.kd_CALLS.lit, e2, rfl⟩, ?_⟩
        exact ⟨p, q, r, rest, fs, rfl, .of upd_same, dpAll_mono sp _ _ hr2, e3 _, fun _ _ => trivial, hs1, hs2, fun H' s' => k H' (sp.trans s')⟩
theorem ok_is_deed {k0 : Nat} {f : Addr} {fd : FuncData} (F : Fun K "is_deed" "is_deed" s_is_deed f fd) (T : OTxt P w K mg C pC pD pN eC eD nC nD) (c__have_forms : C8.Cal P w K mg base k0 "_have_forms" (spHaveG K (fun _ => True) formP sz1) []) : FnOk P w K mg base CX0 (k0 + 1) f fd ["word", "parts"] (spIsDeed K) := by
  refine F.ok sc_is_deed (fun vs H Q E h => ?_) (fun cdv A outer s H vs Q E hr h => ?_)
  · obtain ⟨a, xs, w, ds, rfl, _⟩ := h
    rfl
  · obtain ⟨a, xs, wd, ds, rfl, sa, hx, hw, ⟨hs1, hs2⟩, k⟩ := h
    refine ⟨_, (pss_one (ps_ret (C8.pe_c c__have_forms hr (by first | decide | omega) rfl (pa_cons (pv 1) (pa_cons (pe_ix ix_kdict (C8.pe_gc rfl T.g_DEEDS) (pv 0) (fun _ _ => rfl)) pa_nil))))), ?_⟩
    obtain ⟨q, e2, e3⟩ := deed_key T hw
    refine ⟨_, rfl, _, rfl, pD, wd, .ref q, rfl, rfl, ⟨eD, nD, _, T.kd_DEEDS.at_, T.kd_DEEDS.lit, e2, rfl⟩, ?_⟩
    exact ⟨a, q, xs, ds, deedForms wd, rfl, sa, hx, e3 _, fun _ _ => trivial, hs1, hs2, k⟩
theorem ok__check_deed {k0 : Nat} {f : Addr} {fd : FuncData} (F : Fun K "_check_deed" "_check_deed" s__check_deed f fd) (T : OTxt P w K mg C pC pD pN eC eD nC nD) (c_is_deed : C8.Cal P w K mg base k0 "is_deed" (spIsDeed K) []) : FnOk P w K mg base CX0 (k0 + 1) f fd ["word", "parts"] (spCheck K) := by
  refine F.ok sc__check_deed (fun vs H Q E h => ?_) (fun cdv A outer s H vs Q E hr h => ?_)
  · obtain ⟨a, xs, w, ds, rfl, _⟩ := h
    rfl
  · obtain ⟨a, xs, wd, ds, rfl, sa, hx, hw, hs, hg, k⟩ := h
    refine ⟨_, (pss_one (ps_if (pt_not (pt_val (C8.pe_c c_is_deed hr (by first | decide | omega) rfl (pa_cons (pv 0) (pa_cons (pv 1) pa_nil)))))
      (pss_one ps_false)
      pss_nil)), ?_⟩
    refine ⟨_, rfl, _, rfl, a, xs, wd, ds, rfl, sa, hx, hw, hs, fun H' s' => ?_⟩
    rw [hg]
    exact ⟨_, rfl, iteF (k H' s')⟩
theorem ok__fits {f : Addr} {fd : FuncData} (F : Fun K "_fits" "_fits" s__fits f fd) (T : OTxt P w K mg C pC pD pN eC eD nC nD) : FnOk P w K mg base CX0 1 f fd ["value", "form"] (spFits K) := by
  refine F.ok sc__fits (fun vs H Q E h => ?_) (fun cdv A outer s H vs Q E hr h => ?_)
  · obtain ⟨v, a, m, tm, rfl, _⟩ := h
    rfl
  · obtain ⟨v, a, m, tm, rfl, sa, sm, k⟩ := h
    refine ⟨_, (pss_cons (ps_asg (pv 1) (pg_tup (by rfl) (pgs_cons (pg_name (i := 2) sc__fits.nd rfl (Or.inl rfl)) (pgs_cons (pg_name (i := 3) sc__fits.nd rfl (Or.inl rfl)) pgs_nil))))
    (pss_cons (ps_if (pt_cmpR op_isN (pv 0) pe_non (nomark _))
      (pss_one (ps_ret (pe_cmpR op_in_seq pe_str (pv 3) (by rfl))))
      pss_nil)
    (pss_one (ps_ret (pe_or (pe_cmpR op_ne (pv 2) pe_str (nomark _)) (pe_one (pe_chain op_le op_lt pe_int (pv 0) (C8.pe_gc rfl T.g_NUMBERS)))))))), ?_⟩
    refine ⟨_, rfl, a, _, rfl, sa, rfl, _, _, rfl, _, _, rfl, rfl, ?_⟩
    cases v with
    | none =>
      refine ⟨_, rfl, rfl, _, rfl, iteT ⟨_, rfl, m, _, rfl, Or.inr sm, rfl, flat_strs _, ?_⟩⟩
      rw [mem_names]
      exact k
    | some n =>
      refine ⟨_, rfl, rfl, _, rfl, iteF ⟨_, rfl, rfl, _, rfl, ?_⟩⟩
      by_cases h0 : tm.1 = ("" : Str)
      · have e1 : (!decide (V.str tm.1 = V.str "")) = false := by rw [h0]; decide +kernel
        rw [e1]
        refine iteF ?_
        have e2 : formB tm (some n) = (decide (0 ≤ n) && decide (n < 4294967296)) := by unfold formB; rw [decide_eq_true h0]; rfl
        rw [e2] at k
        refine ⟨_, rfl, _, _, rfl, rfl, _, rfl, ?_⟩
        by_cases h1 : 0 ≤ n
        · rw [decide_eq_true h1] at k ⊢
          exact iteT ⟨_, _, rfl, rfl, k⟩
        · rw [decide_eq_false h1] at k ⊢
          exact iteF k
      · have e1 : (!decide (V.str tm.1 = V.str "")) = true := by
          rw [decide_eq_false (fun q => h0 (V.str.inj q))]
          rfl
        rw [e1]
        have e2 : formB tm (some n) = true := by unfold formB; rw [decide_eq_false h0]; rfl
        rw [e2] at k
        exact iteT k
end
end K07
namespace K07
open PySem PySem.Spec PyProof.Rows L2 LB OW
section
variable {P : Program} {w : World} {K : PySem.W.Frag} {mg : Str → Option Value} {base : Heap} {C pC pD pN : Addr} {eC eD : Array DictEntry} {nC nD : Nat}
theorem o_int (o : Option Int) (n : Int) : scal (oV o) (.int n) = true := by cases o <;> rfl
theorem flat_o (l : List (Option Int)) : (l.map oV).all flatV = true := by
  rw [List.all_eq_true]
  intro x hx
  obtain ⟨y, _, rfl⟩ := List.mem_map.mp hx
  cases y <;> rfl
theorem eqV_o (o : Option Int) (n : Int) : eqV (oV o) (.int n) = decide (oV o = .int n) := by
  cases o with
  | none => rfl
  | some m =>
    simp [eqV, oV]
    by_cases h : m = n <;> simp [h]
theorem needs_in (kn : Kn) (one : Int) (t : Th) : inV (.int one) ((needsL kn t).map oV) = needsB kn one t := by
  refine beq_of ?_
  unfold inV needsL needsB
  rw [List.any_map, List.any_map, List.any_eq_true, List.any_eq_true]
  constructor
  · rintro ⟨fv, hm, e⟩
    obtain ⟨h1, h2⟩ := List.mem_filter.mp hm
    have e : eqV (oV fv.2) (.int one) = true := e
    rw [eqV_o] at e
    have e : oV fv.2 = .int one := of_decide_eq_true e
    exact ⟨fv, h1, by rw [decide_eq_true e]; exact h2⟩
  · rintro ⟨fv, hm, e⟩
    obtain ⟨h1, h2⟩ := Bool.and_eq_true_iff.mp e
    exact ⟨fv, List.mem_filter.mpr ⟨hm, h2⟩, show eqV (oV fv.2) (.int one) = true by rw [eqV_o]; exact h1⟩
theorem ok_Outside__lives {f : Addr} {fd : FuncData} (F : Fun K "_lives" "Outside._lives" s_Outside__lives f fd) (T : OTxt P w K mg C pC pD pN eC eD nC nD) : FnOk P w K mg base CX0 1 f fd ["self", "id_of_thing", "kind"] (spLives K C) := by
  refine F.ok sc_Outside__lives (fun vs H Q E h => ?_) (fun cdv A outer s H vs Q E hr h => ?_)
  · obtain ⟨B, O, kn, i, kd, rfl, _⟩ := h
    rfl
  · obtain ⟨B, O, kn, i, kd, rfl, hR, k⟩ := h
    have hu := hu_of hr
    refine ⟨_, (pss_one (ps_ret (pe_and (pe_cmp (pc_din hu (pv 1) (pe_fld (pv 0) rfl))) (pe_one (pe_cmpR op_eq (pe_ix ix_tup (pe_dget hu (pe_fld (pv 0) rfl) (pv 1) (fun _ _ => rfl)) pe_int (fun _ _ => rfl)) (pv 2) (nomark _)))))), ?_⟩
    unfold livesB at k
    cases ht : tfind O.things i with
    | none =>
      rw [ht] at k
      exact ⟨_, rfl, _, rfl, B.a, C, B.dx, _, _, rfl, hR.at_, T.cl, T.n_things, lk_things, B.dT, _, rfl, hR.nothing ht, _, rfl, iteF k⟩
    | some t =>
      rw [ht] at k
      obtain ⟨ta, g3, va, tka, st, _⟩ := hR.thing ht
      refine ⟨_, rfl, _, rfl, B.a, C, B.dx, _, _, rfl, hR.at_, T.cl, T.n_things, lk_things, B.dT, _, rfl, g3, _, rfl, iteT ?_⟩
      refine ⟨_, rfl, B.a, C, B.dx, _, _, rfl, hR.at_, T.cl, T.n_things, lk_things, _, rfl, B.dT, _, rfl, g3, ta, _, _, _, rfl, rfl, st, atI_nat (j := 1) rfl, _, rfl, rfl, ?_⟩
      rw [deq]
      exact k
theorem ok_Outside__why_not_reach {f : Addr} {fd : FuncData} (F : Fun K "_why_not_reach" "Outside._why_not_reach" s_Outside__why_not_reach f fd) (T : OTxt P w K mg C pC pD pN eC eD nC nD) : FnOk P w K mg base CX0 1 f fd ["self", "id_of_thing", "version"] (spReach K C) := by
  refine F.ok sc_Outside__why_not_reach (fun vs H Q E h => ?_) (fun cdv A outer s H vs Q E hr h => ?_)
  · obtain ⟨B, O, kn, i, ver, rfl, _⟩ := h
    rfl
  · obtain ⟨B, O, kn, i, ver, rfl, hR, k⟩ := h
    have hu := hu_of hr
    refine ⟨_, (pss_cons (ps_if (pt_cmp (pc_dnotin hu (pv 1) (pe_fld (pv 0) rfl)))
      (pss_one (ps_ret pe_str))
      pss_nil)
    (pss_cons (ps_if (PW.pt (pw_and (pt_cmpR op_notN (pv 2) pe_non (nomark _)) (pw_and1 (pt_cmpR op_ne (pv 2) (pe_ix ix_tup (pe_dget hu (pe_fld (pv 0) rfl) (pv 1) (fun _ _ => rfl)) pe_int (fun _ _ => rfl)) (nomark _)))))
      (pss_one (ps_ret pe_str))
      pss_nil)
    (pss_one (ps_ret pe_str)))), ?_⟩
    have k : Q (.str (match tfind O.things i with | none => ("gone" : Str) | some t => if staleB t ver = true then "stale" else "")) H := k
    cases ht : tfind O.things i with
    | none =>
      rw [ht] at k
      exact ⟨_, rfl, _, rfl, B.a, C, B.dx, _, _, rfl, hR.at_, T.cl, T.n_things, lk_things, B.dT, _, rfl, hR.nothing ht, _, rfl, iteT k⟩
    | some t =>
      rw [ht] at k
      have k : Q (.str (if staleB t ver = true then ("stale" : Str) else "")) H := k
      obtain ⟨ta, g3, va, tka, st, _⟩ := hR.thing ht
      refine ⟨_, rfl, _, rfl, B.a, C, B.dx, _, _, rfl, hR.at_, T.cl, T.n_things, lk_things, B.dT, _, rfl, g3, _, rfl, iteF ?_⟩
      cases ver with
      | none => exact ⟨_, rfl, rfl, _, rfl, iteF (iteF k)⟩
      | some v =>
        refine ⟨_, rfl, rfl, _, rfl, iteT ⟨_, rfl, _, rfl, B.a, C, B.dx, _, _, rfl, hR.at_, T.cl, T.n_things, lk_things, _, rfl, B.dT, _, rfl, g3, ta, _, _, _, rfl, rfl, st, atI_nat (j := 3) rfl, rfl, _, rfl, ?_⟩⟩
        show (if (!decide (V.int v = V.int t.ver)) = true then _ else _ : Prop)
        have k : Q (.str (if (!decide (v = t.ver)) = true then ("stale" : Str) else "")) H := k
        by_cases hv : v = t.ver
        · rw [decide_eq_true hv] at k
          rw [decide_eq_true (show V.int v = V.int t.ver by rw [hv])]
          exact iteF k
        · rw [decide_eq_false hv] at k
          rw [decide_eq_false (fun q => hv (V.int.inj q))]
          exact iteT k
theorem ok_Outside__needs_of {f : Addr} {fd : FuncData} (F : Fun K "_needs_of" "Outside._needs_of" s_Outside__needs_of f fd) (T : OTxt P w K mg C pC pD pN eC eD nC nD) : FnOk P w K mg base CX0 1 f fd ["self", "thing"] (spNeedsOf K C) := by
  refine F.ok sc_Outside__needs_of (fun vs H Q E h => ?_) (fun cdv A outer s H vs Q E hr h => ?_)
  · obtain ⟨B, O, kn, ta, t, rfl, _⟩ := h
    rfl
  · obtain ⟨B, O, kn, ta, t, rfl, hR, ⟨va, tka, st, ⟨ps, pl, pp⟩, _⟩, ⟨fs, hfs, hnm⟩, hN, k⟩ := h
    have hu := hu_of hr
    refine ⟨_, (pss_cons (ps_asg (pv 1) (pg_tup (by rfl) (pgs_cons (pg_name (i := 2) sc_Outside__needs_of.nd rfl (Or.inl rfl)) (pgs_cons (pg_name (i := 3) sc_Outside__needs_of.nd rfl (Or.inr rfl)) (pgs_cons (pg_name (i := 4) sc_Outside__needs_of.nd rfl (Or.inl rfl)) (pgs_cons (pg_name (i := 2) sc_Outside__needs_of.nd rfl (Or.inl rfl)) (pgs_cons (pg_name (i := 2) sc_Outside__needs_of.nd rfl (Or.inl rfl)) (pgs_cons (pg_name (i := 2) sc_Outside__needs_of.nd rfl (Or.inl rfl)) pgs_nil))))))))
    (pss_one (ps_ret (pe_lc (g := (gTup K 2 (gCons (gName 5) (gCons (gName 6) gNil)))) (own := [("field", 5), ("value", 6)]) rfl sc_Outside__needs_of.nd (pi_tup (pv 4)) (blkOk_by (own := [("field", 5), ("value", 6)]) (N := N_Outside__needs_of) (sc := defScope s_Outside__needs_of) (by decide +kernel)) (fun _ _ _ _ _ => (pg_tup (by rfl) (pgs_cons (pg_name (i := 5) sc_Outside__needs_of.nd rfl (Or.inl rfl)) (pgs_cons (pg_name (i := 6) sc_Outside__needs_of.nd rfl (Or.inl rfl)) pgs_nil)))) (fun _ _ _ _ _ => (pts_one (pt_cmpR op_ne (pe_ix (ix_tup : IxR _ (rIxT K)) (pe_dget hu (pe_dget hu (pe_fld (pv 0) rfl : PE _ _ (tFld K _ _)) (pv 3) (fun _ _ => rfl)) (pv 5) (fun _ _ => rfl)) pe_int (fun _ _ => rfl)) pe_str (nomark _)))) (fun _ _ _ _ _ => (pv 6)))))), ?_⟩
    have lp : ps.length = t.vals.length := pp.length
    have hH := hasF_of hnm
    have hsq := sqT_pl (K := K) pl
    have hlv : t.vals.length = fs.length := by
      have := congrArg List.length hnm
      rwa [List.length_map, List.length_map] at this
    have hfew := hN.few _ _ hfs
    refine ⟨_, rfl, ta, _, rfl, st, rfl, _, _, rfl, _, _, rfl, _, _, rfl, _, _, rfl, _, _, rfl, _, _, rfl, rfl, ?_⟩
    refine ⟨_, rfl, va, rfl, ⟨_, hsq⟩, fun D hD => lc_tup (K := K) (a := va) (xs := ps.map V.ref) (fun i H' => Same H H' ∧ H' D = some (.lst ((((t.vals.take i).filter fun fv => !decide ((tmOf (fsOf kn t.kind) fv.1).1 = ("" : Str))).map (·.2)).map oV))) ⟨same_upd hD, upd_same⟩ (fun i H' _ h => same_seqT h.1 hsq) ?_ ?_⟩
    · rintro i x H1 hx ⟨s1, hd⟩
      obtain ⟨p, hp, rfl⟩ : ∃ p, ps[i]? = some p ∧ V.ref p = x := by
        rw [List.getElem?_map] at hx
        cases e : ps[i]? with
        | none => rw [e] at hx; cases hx
        | some n => rw [e] at hx; exact ⟨n, rfl, Option.some.inj hx⟩
      obtain ⟨fv, hfv, sq⟩ := par_at pp hp
      have hi := (List.getElem?_eq_some_iff.mp hp).1
      have hmv : fv ∈ t.vals := List.mem_of_getElem? hfv
      have hR1 := hR.same s1
      obtain ⟨d, fvs, _, gk1, hd2, hF⟩ := hR1.kn.get hfs
      obtain ⟨a, m, g2, sa, sm⟩ := fld_get hd2 hF (hH.tm hmv)
      have et : t.vals.take (i + 1) = t.vals.take i ++ [fv] := by rw [List.take_add_one, hfv]; rfl
      refine ⟨p, _, rfl, same_seqT s1 sq, rfl, _, _, rfl, _, _, rfl, rfl, rfl, ?_⟩
      refine ⟨_, rfl, B.a, C, B.dx, _, _, rfl, hR1.at_, T.cl, T.n_kinds, lk_kinds, _, rfl, B.kd, _, rfl, gk1, _, rfl, d, _, rfl, g2, a, _, _, _, rfl, rfl, sa, atI_nat (j := 0) rfl, rfl, _, rfl, ?_⟩
      show (if (!decide (V.str (tmOf fs fv.1).1 = V.str "")) = true then _ else _ : Prop)
      rw [deq]
      have ef : fsOf kn t.kind = fs := fsOf_some hfs
      rw [ef] at hd ⊢
      by_cases h0 : (tmOf fs fv.1).1 = ("" : Str)
      · rw [decide_eq_true h0]
        refine iteF ⟨s1, ?_⟩
        rw [et, List.filter_append]
        simpa [h0] using hd
      · rw [decide_eq_false h0]
        refine iteT ⟨_, rfl, _, hd, ?_, fun b o z => ?_, ?_⟩
        · rw [List.length_map, List.length_map]
          have := List.length_filter_le (fun fv : Str × Option Int => !decide ((tmOf fs fv.1).1 = ("" : Str))) (t.vals.take i)
          rw [List.length_take] at this
          exact Nat.lt_of_lt_of_le (show _ < 60 by omega) (by decide)
        · rw [upd_ne (ne_of_none z hD)]
          exact s1 _ _ z
        · rw [upd_same, et, List.filter_append]
          simp [h0]
    · rintro H1 ⟨s1, hd⟩
      rw [List.length_map, lp, List.take_length] at hd
      exact k D H1 s1 hd
theorem ok_Outside__is_needed {f : Addr} {fd : FuncData} (F : Fun K "_is_needed" "Outside._is_needed" s_Outside__is_needed f fd) (T : OTxt P w K mg C pC pD pN eC eD nC nD)
    {f1 : Addr} {fd1 : FuncData} (m__needs_of : Meth K C "_needs_of" f1) (G__needs_of : FnOk P w K mg base CX0 1 f1 fd1 ["self", "thing"] (spNeedsOf K C)) (b__needs_of : Binds K fd1 ["self", "thing"] []) : FnOk P w K mg base CX0 2 f fd ["self", "id_of_thing"] (spIsNeeded K C) := by
  refine F.ok sc_Outside__is_needed (fun vs H Q E h => ?_) (fun cdv A outer s H vs Q E hr h => ?_)
  · obtain ⟨B, O, kn, i, rfl, _⟩ := h
    rfl
  · obtain ⟨B, O, kn, one, rfl, hO, hK, k⟩ := h
    have hu := hu_of hr
    refine ⟨_, (pss_one (ps_ret (pe_callB (cr_any rfl) (by rfl) T.b_any (by decide +kernel) (pa_cons (pe_lock (pe_lc (own := [("thing", 2)]) rfl sc_Outside__is_needed.nd (pi_values (pe_fld (pv 0) rfl)) (blkOk_by (own := [("thing", 2)]) (N := N_Outside__is_needed) (sc := defScope s_Outside__is_needed) (by decide +kernel)) (fun _ _ _ _ _ => (pg_name (i := 2) sc_Outside__is_needed.nd rfl (Or.inl rfl))) (fun _ _ _ _ _ => pts_nil) (fun _ _ _ _ _ => (pe_cmpR (op_in_seq : OpR _ (compareOp .In) (rIn K false)) (pv 1) (pe_meth (pv 0) T.cl m__needs_of G__needs_of (hr.mono (by decide)) b__needs_of .nil pass0 (pa_cons (pv 2) pa_nil)) (by rfl))))) pa_nil)))), ?_⟩
    obtain ⟨kvs, g1, g2⟩ := hO.things
    have lenK : kvs.length = O.things.length := g2.length
    have hlt := hK.w.lenT
    have hlt : O.things.length < 60 := hlt
    refine ⟨B.dT, _, g1, trivial, fun od => ?_⟩
    have hL := hO.lock (od := od) g1
    have g2L := ths_kp g2 (kp_lock (od := od) g1)
    refine ⟨_, rfl, B.a, C, B.dx, _, _, rfl, hL.at_, T.cl, T.n_things, lk_things, B.dT, od, kvs, rfl, upd_same, fun D hD => lc_it walk_values (fun i H' => Same (upd H B.dT (.frz od (.dK kvs))) H' ∧ H' D = some (.lst (((O.things.take i).map (needsB kn one)).map V.bl))) ⟨same_upd hD, upd_same⟩ (fun i H' _ h => h.1 _ _ upd_same) ?_ ?_⟩
    · rintro i x H1 H2 hi ⟨s1, hd⟩ ⟨rfl, key, hkv⟩
      obtain ⟨th, hth, ekey, ta, ev, hA⟩ := par_at g2L hkv
      have ev : x = .ref ta := ev
      subst ev
      have hm : th ∈ O.things := List.mem_of_getElem? hth
      have hgood := hK.w.good th hm
      have hR1 := hL.same s1
      have hi2 := (List.getElem?_eq_some_iff.mp hth).1
      refine ⟨rfl, _, rfl, _, rfl, B.a, B.dx, _, rfl, hR1.at_, lk_no (by decide +kernel), _, rfl, B, O, kn, ta, th, rfl, hR1, th_kp hA (.of_same s1), hgood, hK.k, fun D' H3 s3 hD' => ?_⟩
      refine ⟨D', _, rfl, Or.inl (SqL.of hD'), rfl, flat_o _, _, s3 _ _ hd, ?_, fun b o z => ?_, ?_⟩
      · rw [List.length_map, List.length_map, List.length_take]
        exact Nat.lt_of_lt_of_le (show min i _ < 60 by omega) (by decide)
      · rw [upd_ne (ne_of_none z hD)]
        exact s3 _ _ (s1 _ _ z)
      · rw [upd_same, List.take_add_one, hth, List.map_append, List.map_append]
        show some (HO.lst (_ ++ [V.bl (inV (.int one) ((needsL kn th).map oV))])) = _
        rw [needs_in]
        rfl
    · rintro H1 ⟨s1, hd⟩
      rw [lenK, List.take_length] at hd
      refine ⟨same_frz s1, ?_⟩
      have nD : D ≠ B.dT := fun z => by rw [z, upd_same] at hD; cases hD
      refine ⟨D, _, rfl, SqL.of (by rw [upd_ne nD]; exact hd), ?_⟩
      rw [List.any_map]
      exact k _ (same_unlock g1 s1)
theorem merge_app : ∀ {more acc : List (Key × V)}, ((acc ++ more).map (·.1)).Nodup → mergeK acc more = acc ++ more
  | [], acc, _ => by simp [mergeK]
  | m :: more, acc, h => by
    have e : valV acc m.1 = none := by
      unfold valV
      cases q : acc.find? (fun kv => decide (kv.1 = m.1)) with
      | none => rfl
      | some x =>
        exfalso
        have h1 := List.mem_of_find?_eq_some q
        have h2 : x.1 = m.1 := by have := List.find?_some q; simpa using this
        rw [List.map_append, List.nodup_append] at h
        exact h.2.2 x.1 (List.mem_map_of_mem h1) m.1 (by rw [List.map_cons]; exact List.mem_cons_self) h2
    have ih := merge_app (more := more) (acc := acc ++ [m]) (by simpa using h)
    show mergeK (putK acc m.1 m.2) more = _
    rw [put_new e]
    have : acc ++ [(m.1, m.2)] = acc ++ [m] := rfl
    rw [this, ih]
    simp
theorem vget_eq {vals : Vals_} {field : Str} {n : Int} (h : (vals.map (·.1)).Nodup) : decide (vget vals field = .int n) = vals.any fun fv => PyData.eqv (fvD fv) (fvD (field, some n)) := by
  have e0 : (valKV vals).map (·.1) = (vals.map (·.1)).map sK := by unfold valKV; rw [List.map_map, List.map_map]; rfl
  have nd : ((valKV vals).map (·.1)).Nodup := by
    rw [e0]
    exact List.Pairwise.map _ (fun a b q z => q (by injection z)) h
  unfold vget
  rw [merge_app (acc := []) (by simpa using nd), List.nil_append]
  refine beq_of ?_
  rw [decide_eq_true_eq, List.any_eq_true]
  have key : ∀ fv : Str × Option Int, PyData.eqv (fvD fv) (fvD (field, some n)) = true ↔ fv = (field, some n) := fun fv => by
    obtain ⟨g, v⟩ := fv
    cases v with
    | none => simp [fvD, oD, PyData.eqv, PyData.eqvAll]
    | some m => simp [fvD, oD, PyData.eqv, PyData.eqvAll]
  clear nd e0
  induction vals with
  | nil =>
    constructor
    · intro q
      have q : (V.non) = V.int n := q
      cases q
    · rintro ⟨fv, hm, _⟩; cases hm
  | cons x vals ih =>
    rw [List.map_cons, List.nodup_cons] at h
    have ih := ih h.2
    show (valV ((sK x.1, oV x.2) :: valKV vals) (sK field)).getD .non = .int n ↔ _
    rw [valV_cons]
    by_cases z : x.1 = field
    · rw [if_pos (by rw [z])]
      constructor
      · intro q
        refine ⟨x, List.mem_cons_self, (key x).mpr (Prod.ext z ?_)⟩
        have q : oV x.2 = .int n := q
        cases e : x.2 with
        | none => rw [e] at q; cases q
        | some m => rw [e] at q; cases q; rfl
      · rintro ⟨fv, hm, q⟩
        have q := (key fv).mp q
        rcases List.mem_cons.mp hm with rfl | hm
        · rw [q]; rfl
        · exfalso
          exact h.1 (by rw [z]; have := List.mem_map_of_mem (f := (·.1)) hm; rw [q] at this; exact this)
    · rw [if_neg (by intro w; injection w with w; exact z w)]
      refine Iff.trans ih ?_
      constructor
      · rintro ⟨fv, hm, q⟩; exact ⟨fv, List.mem_cons_of_mem _ hm, q⟩
      · rintro ⟨fv, hm, q⟩
        rcases List.mem_cons.mp hm with rfl | hm
        · exfalso
          have := (key fv).mp q
          exact z (by rw [this])
        · exact ⟨fv, hm, q⟩
theorem can_fvs : ∀ (l : Vals_), (∀ fv ∈ l, PyData.strOk fv.1 = true) → PyData.canLayAll0 (l.map fvD) = true
  | [], _ => rfl
  | x :: l, h => by
    have h1 := can_fvs l fun y hy => h y (List.mem_cons_of_mem _ hy)
    have h2 := h x List.mem_cons_self
    obtain ⟨g, v⟩ := x
    cases v <;> simp [PyData.canLayAll0, fvD, oD, PyData.canLay0, h1] <;> exact h2
theorem dep_fvs : ∀ (l : Vals_), PyData.depthAll (l.map fvD) ≤ 2
  | [] => by simp [PyData.depthAll]
  | x :: l => by
    have h := dep_fvs l
    obtain ⟨g, v⟩ := x
    cases v <;> simp [PyData.depthAll, fvD, oD, PyData.depth] <;> omega
theorem shaped_fvs {l : Vals_} (h : ∀ fv ∈ l, PyData.strOk fv.1 = true) : SeqAt.shaped (.tuple (l.map fvD)) = true := by
  have h1 := can_fvs l h
  have h2 := dep_fvs l
  unfold SeqAt.shaped
  have e1 : (PyData.tuple (l.map fvD)).canLay0 = true := h1
  have e2 : (PyData.tuple (l.map fvD)).depth ≤ 64 := by
    have : (PyData.tuple (l.map fvD)).depth = PyData.depthAll (l.map fvD) + 1 := by simp [PyData.depth]
    rw [this]; omega
  rw [e1, decide_eq_true e2]
  rfl
theorem shaped_fv {f : Str} {n : Int} (h : PyData.strOk f = true) : SeqAt.shaped (fvD (f, some n)) = true := by
  have h1 := can_fvs [(f, some n)] (fun fv m => by rw [List.mem_singleton.mp m]; exact h)
  have h2 := dep_fvs [(f, some n)]
  unfold SeqAt.shaped
  have e1 : (fvD (f, some n)).canLay0 = true := by simpa [PyData.canLayAll0] using h1
  have e2 : (fvD (f, some n)).depth ≤ 64 := by
    have : (fvD (f, some n)).depth ≤ 2 := by simpa [PyData.depthAll] using h2
    omega
  rw [e1, decide_eq_true e2]
  rfl
theorem good_nd {kn : Kn} {t : Th} (h : GoodTh kn t) (hN : KnOk kn) : (t.vals.map (·.1)).Nodup := by
  obtain ⟨fs, a, b⟩ := h
  rw [b]
  exact hN.nd _ _ a
theorem good_txt {kn : Kn} {t : Th} (h : GoodTh kn t) (hN : KnOk kn) : ∀ fv ∈ t.vals, PyData.strOk fv.1 = true := by
  obtain ⟨fs, a, b⟩ := h
  intro fv m
  exact hN.txt _ _ a _ (by rw [← b]; exact List.mem_map_of_mem m)
def sameK (kind : Str) (own : Int) (t : Th) : Bool := !decide (t.id = own) && decide (t.kind = kind)
theorem borne_eq {kn : Kn} {O : Od} (hK : OOk kn O) (kind field : Str) (n own : Int) : ((O.things.filter (sameK kind own)).any fun t => t.vals.any fun fv => PyData.eqv (fvD fv) (fvD (field, some n))) = O.things.any (takenBy kind field n own) := by
  refine beq_of ?_
  rw [List.any_eq_true, List.any_eq_true]
  constructor
  · rintro ⟨t, hm, q⟩
    obtain ⟨h1, h2⟩ := List.mem_filter.mp hm
    refine ⟨t, h1, ?_⟩
    rw [← vget_eq (good_nd (hK.w.good t h1) hK.k)] at q
    unfold takenBy
    unfold sameK at h2
    obtain ⟨z1, z2⟩ := Bool.and_eq_true_iff.mp h2
    rw [z1, z2, q]
    rfl
  · rintro ⟨t, hm, q⟩
    unfold takenBy at q
    obtain ⟨z1, z2⟩ := Bool.and_eq_true_iff.mp q
    obtain ⟨z2, z3⟩ := Bool.and_eq_true_iff.mp z2
    refine ⟨t, List.mem_filter.mpr ⟨hm, by unfold sameK; rw [z1, z2]; rfl⟩, ?_⟩
    rw [← vget_eq (good_nd (hK.w.good t hm) hK.k)]
    exact z3
theorem ok_Outside__is_borne {f : Addr} {fd : FuncData} (F : Fun K "_is_borne" "Outside._is_borne" s_Outside__is_borne f fd) (T : OTxt P w K mg C pC pD pN eC eD nC nD) : FnOk P w K mg base CX0 1 f fd ["self", "id_of_thing", "kind", "field", "value"] (spBorne K C) := by
  refine F.ok sc_Outside__is_borne (fun vs H Q E h => ?_) (fun cdv A outer s H vs Q E hr h => ?_)
  · obtain ⟨B, O, kn, own, kind, field, n, rfl, _⟩ := h
    rfl
  · obtain ⟨B, O, kn, own, kind, field, n, rfl, hO, hK, htx, k⟩ := h
    have hu := hu_of hr
    refine ⟨_, (pss_cons (ps_lock (ps_setLc (i := 5) rfl sc_Outside__is_borne.nd rfl rfl (sw_true rfl rfl rfl (by decide +kernel)) (own := [("thing", 6)]) (pi_values (pe_fld (pv 0) rfl)) (blkOk_by (own := [("thing", 6)]) (N := N_Outside__is_borne) (sc := defScope s_Outside__is_borne) (by decide +kernel)) (fun _ _ _ _ _ => (pg_name (i := 6) sc_Outside__is_borne.nd rfl (Or.inl rfl))) (fun _ _ _ _ _ => (pts_one (PW.pt (pw_and (pt_cmpR op_ne (pe_ix (ix_tup : IxR _ (rIxT K)) (pv 6) pe_int (fun _ _ => rfl)) (pv 1) (nomark _)) (pw_and1 (pt_cmpR op_eq (pe_ix (ix_tup : IxR _ (rIxT K)) (pv 6) pe_int (fun _ _ => rfl)) (pv 2) (nomark _))))))) (fun _ _ _ _ _ => (pv 6))))
    (pss_one (ps_ret (pe_callB (cr_any rfl) (by rfl) T.b_any (by decide +kernel) (pa_cons (pe_lc (own := [("thing", 6)]) rfl sc_Outside__is_borne.nd (pi_list (pv 5)) (blkOk_by (own := [("thing", 6)]) (N := N_Outside__is_borne) (sc := defScope s_Outside__is_borne) (by decide +kernel)) (fun _ _ _ _ _ => (pg_name (i := 6) sc_Outside__is_borne.nd rfl (Or.inl rfl))) (fun _ _ _ _ _ => pts_nil) (fun _ _ _ _ _ => (pe_cmpR (op_inDT hr.u65 : OpR _ (compareOp .In) (rInDT K)) (pe_tup (pa_cons (pv 3) (pa_cons (pv 4) pa_nil))) (pe_ix (ix_tup : IxR _ (rIxT K)) (pv 6) pe_int (fun _ _ => rfl)) (by rfl)))) pa_nil))))), ?_⟩
    obtain ⟨kvs, g1, g2⟩ := hO.things
    have lenK : kvs.length = O.things.length := g2.length
    have hlt : O.things.length < 60 := hK.w.lenT
    refine ⟨B.dT, _, g1, trivial, fun od => ?_⟩
    have hL := hO.lock (od := od) g1
    have g2L := ths_kp g2 (kp_lock (od := od) g1)
    refine ⟨_, rfl, B.a, C, B.dx, _, _, rfl, hL.at_, T.cl, T.n_things, lk_things, B.dT, od, kvs, rfl, upd_same, fun D hD => lc_it walk_values (fun i H' => Same (upd H B.dT (.frz od (.dK kvs))) H' ∧ ∃ as : List Addr, H' D = some (.lst (as.map V.ref)) ∧ Paired (fun a t => ThAt K H' a t) as ((O.things.take i).filter (sameK kind own))) ⟨same_upd hD, [], upd_same, .nil⟩ (fun i H' _ h => h.1 _ _ upd_same) ?_ ?_⟩
    · rintro i x H1 H2 hi ⟨s1, as, hd, hP⟩ ⟨rfl, key, hkv⟩
      obtain ⟨th, hth, ekey, ta, ev, hA⟩ := par_at g2L hkv
      have ev : x = .ref ta := ev
      subst ev
      have hA2 := th_kp hA (.of_same s1)
      obtain ⟨va, tka, st, _⟩ := hA2
      have hi2 := (List.getElem?_eq_some_iff.mp hth).1
      have et : O.things.take (i + 1) = O.things.take i ++ [th] := by rw [List.take_add_one, hth]; rfl
      have la : as.length ≤ i := by
        have h1 := hP.length
        have h2 := List.length_filter_le (sameK kind own) (O.things.take i)
        rw [List.length_take] at h2
        omega
      refine ⟨rfl, _, rfl, ta, _, _, _, rfl, rfl, st, atI_nat (j := 0) rfl, _, rfl, rfl, _, rfl, ?_⟩
      show (if (!decide (V.int th.id = V.int own)) = true then _ else _ : Prop)
      have skip : sameK kind own th = false → Paired (fun a t => ThAt K H2 a t) as ((O.things.take (i + 1)).filter (sameK kind own)) := fun q => by
        rw [et, List.filter_append]
        simpa [q] using hP
      by_cases ho : th.id = own
      · rw [decide_eq_true (show V.int th.id = V.int own by rw [ho])]
        exact iteF (iteF ⟨s1, as, hd, skip (by unfold sameK; rw [decide_eq_true ho]; rfl)⟩)
      · rw [decide_eq_false (fun q => ho (V.int.inj q))]
        refine iteT ⟨_, rfl, ta, _, _, _, rfl, rfl, st, atI_nat (j := 1) rfl, _, rfl, rfl, _, rfl, ?_⟩
        show (if decide (V.str th.kind = V.str kind) = true then _ else _ : Prop)
        rw [deq]
        by_cases hk : th.kind = kind
        · rw [decide_eq_true hk]
          have kp : Kp H2 (upd H2 D (.lst (as.map V.ref ++ [.ref ta]))) := .put hd (fun z => z)
          refine iteT ⟨_, rfl, _, hd, ?_, fun b o z => ?_, as ++ [ta], ?_, ?_⟩
          · rw [List.length_map]
            exact Nat.lt_of_lt_of_le (show as.length < 60 by omega) (by decide)
          · rw [upd_ne (ne_of_none z hD)]
            exact s1 _ _ z
          · rw [upd_same, List.map_append]; rfl
          · rw [et, List.filter_append]
            have e1 : [th].filter (sameK kind own) = [th] := by simp [sameK, ho, hk]
            rw [e1]
            exact par_snoc (par_imp (fun _ _ q => th_kp q kp) hP) (th_kp (th_kp hA (.of_same s1)) kp)
        · rw [decide_eq_false hk]
          exact iteF ⟨s1, as, hd, skip (by unfold sameK; rw [decide_eq_false hk, Bool.and_false])⟩
    · rintro H1 ⟨s1, as, hd, hP⟩
      rw [lenK, List.take_length] at hP
      refine ⟨same_frz s1, ?_⟩
      have nD : D ≠ B.dT := fun z => by rw [z, upd_same] at hD; cases hD
      have s2 : Same H (upd H1 B.dT (.dK kvs)) := same_unlock g1 s1
      have hd2 : upd H1 B.dT (.dK kvs) D = some (.lst (as.map V.ref)) := by rw [upd_ne nD]; exact hd
      have hP2 : Paired (fun a t => ThAt K (upd H1 B.dT (.dK kvs)) a t) as (O.things.filter (sameK kind own)) := par_imp (fun _ _ q => th_kp q (.put (same_frz s1) (fun z => z))) hP
      generalize upd H1 B.dT (.dK kvs) = H2 at s2 hd2 hP2
      clear hP hd s1
      have la : as.length < 60 := by
        have h1 := hP2.length
        have h2 := List.length_filter_le (sameK kind own) O.things
        omega
      have mem : ∀ t ∈ O.things.filter (sameK kind own), t ∈ O.things := fun t m => (List.mem_filter.mp m).1
      generalize hLL : O.things.filter (sameK kind own) = LL at hP2 mem
      refine ⟨_, rfl, D, rfl, ⟨_, SqL.of hd2⟩, fun D2 hD2 => lc_list (K := K) (a := D) (xs := as.map V.ref) (fun i H' => Same H2 H' ∧ H' D2 = some (.lst (((LL.take i).map fun t => t.vals.any fun fv => PyData.eqv (fvD fv) (fvD (field, some n))).map V.bl))) ⟨same_upd hD2, upd_same⟩ (fun i H' _ h => SqL.of (h.1 _ _ hd2)) ?_ ?_⟩
      · rintro i x H3 hx ⟨s3, hl⟩
        obtain ⟨ta, hta, rfl⟩ : ∃ ta, as[i]? = some ta ∧ V.ref ta = x := by
          rw [List.getElem?_map] at hx
          cases e : as[i]? with
          | none => rw [e] at hx; cases hx
          | some n => rw [e] at hx; exact ⟨n, rfl, Option.some.inj hx⟩
        obtain ⟨t, ht, hA⟩ := par_at hP2 hta
        have hi := (List.getElem?_eq_some_iff.mp hta).1
        have hm := mem t (List.mem_of_getElem? ht)
        have hg := hK.w.good t hm
        refine ⟨rfl, _, rfl, _, rfl, by show 2 ≤ sizeLine; decide, fun p np => ?_⟩
        have sp := same_upd (o := HO.tup [.str field, .int n]) np
        obtain ⟨va, tka, st, hv, _⟩ := th_kp hA (.of_same (s3.trans sp))
        refine ⟨_, rfl, ta, _, _, _, rfl, rfl, st, atI_nat (j := 2) rfl, fvD (field, some n), t.vals.map fvD, .tup (.of upd_same) (.cons (.str _) (.cons (.int _) .nil)), vals_dp hv, shaped_fv htx, shaped_fvs (good_txt hg hK.k), _, sp _ _ hl, ?_, fun b o z => ?_, ?_⟩
        · rw [List.length_map, List.length_map, List.length_take]
          exact Nat.lt_of_lt_of_le (show min i _ < 60 by omega) (by decide)
        · rw [upd_ne (ne_of_none z hD2)]
          exact sp _ _ (s3 _ _ z)
        · rw [upd_same, List.take_add_one, ht, List.map_append, List.map_append, List.any_map]
          rfl
      · rintro H3 ⟨s3, hl⟩
        have ll : (as.map V.ref).length = LL.length := by rw [List.length_map, hP2.length]
        rw [ll, List.take_length] at hl
        refine ⟨D2, _, rfl, SqL.of hl, ?_⟩
        rw [List.any_map]
        have e := borne_eq hK kind field n own
        rw [hLL] at e
        have := k H3 (s2.trans s3)
        rw [← e] at this
        exact this


end
end K07
namespace K07
open PySem PySem.Spec PyProof.Rows L2 LB OW
section
variable {P : Program} {w : World} {K : PySem.W.Frag} {mg : Str → Option Value} {base : Heap}
structure OBlt (mg : Str → Option Value) : Prop extends Blt mg where
  b_max : mg "max" = none
  b_all : mg "all" = none
  b_any : mg "any" = none
  b_zip : mg "zip" = none
  b_sorted : mg "sorted" = none
theorem ok__law_form {f : Addr} {fd : FuncData} (F : Fun K "_law_form" "_law_form" s__law_form f fd) (T : OBlt mg) : FnOk P w K mg base CX0 1 f fd ["kinds", "kind", "field", "value"] (spForm K) := by
  refine F.ok sc__law_form (fun vs H Q E h => ?_) (fun cdv A outer s H vs Q E hr h => ?_)
  · obtain ⟨kd, ds, kn, kind, field, v, fs, tm, rfl, _⟩ := h
    rfl
  · obtain ⟨kd, ds, kn, kind, field, v, fs, tm, rfl, hK, hf, hg, k⟩ := h
    have hu := hu_of hr
    refine ⟨_, (pss_cons (ps_asg (pe_dget hu (pe_dget hu (pv 0) (pv 1) (fun _ _ => rfl)) (pv 2) (fun _ _ => rfl)) (pg_tup (by rfl) (pgs_cons (pg_name (i := 4) sc__law_form.nd rfl (Or.inl rfl)) (pgs_cons (pg_name (i := 5) sc__law_form.nd rfl (Or.inl rfl)) pgs_nil))))
    (pss_cons (ps_if (pt_cmpR op_isN (pv 3) pe_non (nomark _))
      (pss_one (ps_ret (pe_cmpR op_in_seq pe_str (pv 5) (by rfl))))
      pss_nil)
    (pss_one (ps_ret (pe_or (pe_cmpR op_ne (pv 4) pe_str (nomark _)) (pe_one (pe_chain op_le op_lt pe_int (pv 3) pe_int))))))), ?_⟩
    obtain ⟨d, fvs, _, g1, hd, hF⟩ := hK.get hf
    obtain ⟨a, m, g2, sa, sm⟩ := fld_get hd hF hg
    refine ⟨_, rfl, _, rfl, kd, _, rfl, g1, _, rfl, d, _, rfl, g2, a, _, rfl, sa, rfl, _, _, rfl, _, _, rfl, rfl, ?_⟩
    cases v with
    | none =>
      refine ⟨_, rfl, rfl, _, rfl, iteT ⟨_, rfl, m, _, rfl, Or.inr sm, rfl, flat_strs _, ?_⟩⟩
      rw [mem_names]
      exact k
    | some n =>
      refine ⟨_, rfl, rfl, _, rfl, iteF ⟨_, rfl, rfl, _, rfl, ?_⟩⟩
      by_cases h0 : tm.1 = ("" : Str)
      · have e1 : (!decide (V.str tm.1 = V.str "")) = false := by rw [h0]; decide +kernel
        rw [e1]
        refine iteF ?_
        have e2 : formB tm (some n) = (decide (0 ≤ n) && decide (n < 4294967296)) := by unfold formB; rw [decide_eq_true h0]; rfl
        rw [e2] at k
        refine ⟨_, rfl, _, _, rfl, rfl, _, rfl, ?_⟩
        by_cases h1 : 0 ≤ n
        · rw [decide_eq_true h1] at k ⊢
          refine iteT ⟨_, _, rfl, rfl, ?_⟩
          exact k
        · rw [decide_eq_false h1] at k ⊢
          exact iteF k
      · have e1 : (!decide (V.str tm.1 = V.str "")) = true := by
          rw [decide_eq_false (fun q => h0 (V.str.inj q))]
          rfl
        rw [e1]
        have e2 : formB tm (some n) = true := by unfold formB; rw [decide_eq_false h0]; rfl
        rw [e2] at k
        exact iteT k
theorem paired_vals {H : Hp} {ps : List Addr} {vals : List (Str × Option Int)} (h : Paired (fun p (fv : Str × Option Int) => SqT K H p [.str fv.1, oV fv.2]) ps vals) : Paired (fun p (kv : Key × V) => SqT K H p [kV kv.1, kv.2]) ps (valKV vals) := by
  induction h with
  | nil => exact .nil
  | cons a b ih => exact .cons a ih
theorem scal_o (o : Option Int) (n : Int) : scal (oV o) (.int n) = true := by cases o <;> rfl
theorem ok__law_why_value {f : Addr} {fd : FuncData} (F : Fun K "_law_why_value" "_law_why_value" s__law_why_value f fd) (T : OBlt mg) : FnOk P w K mg base CX0 1 f fd ["kinds", "w", "kind", "field", "value", "own"] (spWhyV K) := by
  refine F.ok sc__law_why_value (fun vs H Q E h => ?_) (fun cdv A outer s H vs Q E hr h => ?_)
  · obtain ⟨A, W, kd, ds, kn, kind, field, v, own, fs, tm, rfl, _⟩ := h
    rfl
  · obtain ⟨A, W, kd, ds, kn, kind, field, v, own, fs, tm, rfl, hL, hf, hg, k⟩ := h
    have hu := hu_of hr
    refine ⟨_, (pss_cons (ps_asg (pe_dget hu (pe_dget hu (pv 0) (pv 2) (fun _ _ => rfl)) (pv 3) (fun _ _ => rfl)) (pg_tup (by rfl) (pgs_cons (pg_name (i := 6) sc__law_why_value.nd rfl (Or.inl rfl)) (pgs_cons (pg_name (i := 7) sc__law_why_value.nd rfl (Or.inl rfl)) pgs_nil))))
    (pss_cons (ps_if (pt_cmpR op_isN (pv 4) pe_non (nomark _))
      (pss_one (ps_ret pe_str))
      pss_nil)
    (pss_cons (ps_if (pt_cmpR op_ne (pv 6) pe_str (nomark _))
      (pss_one (ps_ret (pe_ifExp (PW.pt (pw_and (pt_cmp (pc_din hu (pv 4) (pe_dget hu (pv 1) pe_str (fun _ _ => rfl)))) (pw_and1 (pt_cmpR op_eq (pe_ix ix_tup (pe_dget hu (pe_dget hu (pv 1) pe_str (fun _ _ => rfl)) (pv 4) (fun _ _ => rfl)) pe_int (fun _ _ => rfl)) (pv 6) (nomark _))))) pe_str pe_str)))
      pss_nil)
    (pss_cons (ps_if (pt_cmpR op_notIn_seq pe_str (pv 7) (by rfl))
      (pss_one (ps_ret pe_str))
      pss_nil)
    (pss_cons (ps_lock (ps_for PassesOwn.never rfl (pi_keys (pe_dget hu (pv 1) pe_str (fun _ _ => rfl))) (pg_name (i := 8) sc__law_why_value.nd rfl (Or.inl rfl))
      (pss_cons (ps_set (i := 9) sc__law_why_value.nd rfl (Or.inl rfl) (pe_dget hu (pe_dget hu (pv 1) pe_str (fun _ _ => rfl)) (pv 8) (fun _ _ => rfl)))
      (pss_one (ps_if (PW.pt (pw_and (pt_cmpR op_ne (pv 8) (pv 5) (nomark _)) (pw_and (pt_cmpR op_eq (pe_ix ix_tup (pv 9) pe_int (fun _ _ => rfl)) (pv 2) (nomark _)) (pw_and1 (pt_cmpR op_eq (pe_dget1 hu (pe_callTy (call_dictPT rfl) (by rfl) T.b_dict (by decide +kernel) (pa_cons (pe_ix ix_tup (pv 9) pe_int (fun _ _ => rfl)) pa_nil)) (pv 3) ⟨by rfl, by rfl, by rfl, by rfl⟩) (pv 4) (nomark _))))))
        (pss_one (ps_ret pe_str))
        pss_nil)))))
    (pss_one (ps_ret pe_str))))))), ?_⟩
    have refl : Same H H := fun _ _ e => e
    obtain ⟨d, fvs, _, g1, hd, hF⟩ := hL.kn.get hf
    obtain ⟨a, m, g2, sa, sm⟩ := fld_get hd hF hg
    refine ⟨_, rfl, _, rfl, kd, _, rfl, g1, _, rfl, d, _, rfl, g2, a, _, rfl, sa, rfl, _, _, rfl, _, _, rfl, rfl, ?_⟩
    cases v with
    | none => exact ⟨_, rfl, rfl, _, rfl, iteT (k H refl)⟩
    | some n =>
      refine ⟨_, rfl, rfl, _, rfl, iteF ⟨_, rfl, rfl, _, rfl, ?_⟩⟩
      by_cases h0 : tm.1 = ("" : Str)
      · have e1 : (!decide (V.str tm.1 = V.str "")) = false := by rw [h0]; decide +kernel
        rw [e1]
        refine iteF ⟨_, rfl, m, _, rfl, Or.inr sm, rfl, flat_strs _, _, rfl, ?_⟩
        show (if (!inV _ _) = true then _ else _ : Prop)
        rw [mem_names]
        by_cases hs : ("single" : Str) ∈ tm.2
        · rw [decide_eq_true hs]
          refine iteF ?_
          have ek : whyV W.things tm kind field (some n) own = if W.things.any (takenBy kind field n own) then ("taken" : Str) else "" := by
            show (if tm.1 = ("" : Str) then (if ("single" : Str) ∈ tm.2 then _ else _) else _) = _
            rw [if_pos h0, if_pos hs]
          rw [ek] at k
          obtain ⟨kvs, hT, hR⟩ := hL.lw.things
          refine ⟨A.wT, _, hT, trivial, fun od => ?_⟩
          obtain ⟨hW1, _⟩ := hL.lock (od := od) hT
          have hR1 := ths_kp hR (kp_lock (od := od) hT)
          have lenR : kvs.length = W.things.length := hR.length
          refine ⟨_, rfl, A.w, _, rfl, hW1.g_things, A.wT, od, rfl, .inl ⟨kvs, upd_same, for_it walk_keys (fun i σ H' => ∃ (e8 e9 : Option V), σ = [some (.ref kd), some (.ref A.w), some (.str kind), some (.str field), some (.int n), some (.int own), some (.str tm.1), some (.ref m), e8, e9] ∧ Same (upd H A.wT (.frz od (.dK kvs))) H' ∧ (W.things.take i).any (takenBy kind field n own) = false)
            ⟨none, none, rfl, fun _ _ e => e, rfl⟩ (fun i σ H' _ ⟨_, _, _, s1, _⟩ => same_frz s1) ?_ ?_⟩⟩
          · rintro i x σ H1 H2 hi ⟨e8, e9, rfl, s1, hno⟩ ⟨rfl, key, v, hkv, rfl⟩
            obtain ⟨th, hth, ⟨ekey, ta, ev, hA⟩⟩ := par_at hR1 hkv
            have ekey : key = Sum.inl th.id := ekey
            have ev : v = .ref ta := ev
            subst ekey ev
            have hf := tfind_mem hL.ids hth
            have hW2 := hW1.same s1
            obtain ⟨ta', g3, hA3⟩ := hW2.thing hf
            obtain ⟨va, tka, st, ⟨ps, pl, pp⟩, _⟩ := hA3
            refine ⟨_, rfl, A.w, _, rfl, hW2.g_things, _, rfl, A.wT, _, rfl, g3, ?_⟩
            refine ⟨_, rfl, _, rfl, rfl, _, rfl, ?_⟩
            have next : ∀ {H3 : Hp}, Same H2 H3 → takenBy kind field n own th = false → ∃ (e8 e9 : Option V), [some (V.ref kd), some (V.ref A.w), some (V.str kind), some (V.str field), some (V.int n), some (V.int own), some (V.str tm.1), some (V.ref m), some (V.int th.id), some (V.ref ta')] = [some (.ref kd), some (.ref A.w), some (.str kind), some (.str field), some (.int n), some (.int own), some (.str tm.1), some (.ref m), e8, e9] ∧ Same (upd H A.wT (.frz od (.dK kvs))) H3 ∧ (W.things.take (i + 1)).any (takenBy kind field n own) = false := fun s2 q =>
              ⟨_, _, rfl, s1.trans s2, by rw [List.take_add_one, hth, List.any_append, hno]; simpa using q⟩
            have r2 : Same H2 H2 := fun _ _ e => e
            show (if (!decide (V.int th.id = V.int own)) = true then _ else _ : Prop)
            by_cases ho : th.id = own
            · rw [decide_eq_true (show V.int th.id = V.int own by rw [ho])]
              exact iteF (iteF (next r2 (by unfold takenBy; rw [decide_eq_true ho]; rfl)))
            · rw [decide_eq_false (fun q => ho (V.int.inj q))]
              refine iteT ⟨_, rfl, ta', _, _, _, rfl, rfl, st, atI_nat (j := 1) rfl, _, rfl, rfl, _, rfl, ?_⟩
              show (if decide (V.str th.kind = V.str kind) = true then _ else _ : Prop)
              by_cases hk : th.kind = kind
              · rw [decide_eq_true (show V.str th.kind = V.str kind by rw [hk])]
                refine iteT ⟨_, rfl, ta', _, _, _, rfl, rfl, st, atI_nat (j := 2) rfl, va, ps, valKV th.vals, rfl, pl, paired_vals pp, fun p np => ?_⟩
                refine ⟨p, rfl, .inl ⟨_, .inl upd_same⟩, _, rfl, _, .inl ⟨_, sK field, .inl upd_same, rfl, rfl⟩, _, rfl, ?_⟩
                have s2 := same_upd (o := .dK (mergeK [] (valKV th.vals))) np
                show scal (vget th.vals field) (.int n) = true ∧ _
                obtain ⟨o, eo⟩ := vget_o th.vals field
                refine ⟨by rw [eo]; exact scal_o o n, _, rfl, ?_⟩
                show (if decide (vget th.vals field = .int n) = true then _ else _ : Prop)
                have et : takenBy kind field n own th = decide (vget th.vals field = .int n) := by
                  unfold takenBy
                  rw [decide_eq_false ho, decide_eq_true hk]
                  rfl
                by_cases hv : vget th.vals field = .int n
                · rw [decide_eq_true hv] at et ⊢
                  have ha : W.things.any (takenBy kind field n own) = true := List.any_eq_true.mpr ⟨th, List.mem_of_getElem? hth, et⟩
                  rw [ha] at k
                  exact iteT ⟨same_frz (s1.trans s2), k _ (same_unlock hT (s1.trans s2))⟩
                · rw [decide_eq_false hv] at et ⊢
                  exact iteF (next s2 et)
              · rw [decide_eq_false (fun q => hk (V.str.inj q))]
                exact iteF (iteF (next r2 (by unfold takenBy; rw [decide_eq_false hk, Bool.false_and, Bool.and_false])))
          · rintro σ H1 ⟨e8, e9, rfl, s1, hno⟩
            rw [lenR, List.take_length] at hno
            rw [hno] at k
            exact ⟨same_frz s1, k _ (same_unlock hT s1)⟩
        · rw [decide_eq_false hs]
          have ek : whyV W.things tm kind field (some n) own = "" := by
            show (if tm.1 = ("" : Str) then (if ("single" : Str) ∈ tm.2 then _ else _) else _) = _
            rw [if_pos h0, if_neg hs]
          rw [ek] at k
          exact iteT (k H refl)
      · have e1 : (!decide (V.str tm.1 = V.str "")) = true := by
          rw [decide_eq_false (fun q => h0 (V.str.inj q))]
          rfl
        rw [e1]
        refine iteT ?_
        have ek : whyV W.things tm kind field (some n) own = needV W.things tm.1 n := by
          show (if tm.1 = ("" : Str) then _ else _) = _
          rw [if_neg h0]
        rw [ek] at k
        cases ht : tfind W.things n with
        | none =>
          have en : needV W.things tm.1 n = "need" := by unfold needV; rw [ht]
          rw [en] at k
          refine ⟨_, rfl, _, rfl, A.w, _, rfl, hL.lw.r.g_things, A.wT, _, rfl, hL.lw.r.nothing ht, _, rfl, iteF (iteF (k H refl))⟩
        | some t =>
          have en : needV W.things tm.1 n = if t.kind = tm.1 then ("" : Str) else "need" := by unfold needV; rw [ht]
          rw [en] at k
          obtain ⟨ta, g3, va, tka, st, _⟩ := hL.lw.r.thing ht
          refine ⟨_, rfl, _, rfl, A.w, _, rfl, hL.lw.r.g_things, A.wT, _, rfl, g3, _, rfl, iteT ?_⟩
          refine ⟨_, rfl, A.w, _, rfl, hL.lw.r.g_things, _, rfl, A.wT, _, rfl, g3, ta, _, _, _, rfl, rfl, st, atI_nat (j := 1) rfl, _, rfl, rfl, _, rfl, ?_⟩
          by_cases hk : t.kind = tm.1
          · rw [if_pos hk] at k
            rw [decide_eq_true (show V.str t.kind = V.str tm.1 by rw [hk])]
            exact iteT (k H refl)
          · rw [if_neg hk] at k
            rw [decide_eq_false (fun q => hk (V.str.inj q))]
            exact iteF (k H refl)
end
end K07
namespace K07
open PySem PySem.Spec PyProof.Rows L2 LB OW
section
variable {P : Program} {w : World} {K : PySem.W.Frag} {mg : Str → Option Value} {base : Heap}
theorem ok__law_first_why {f : Addr} {fd : FuncData} (F : Fun K "_law_first_why" "_law_first_why" s__law_first_why f fd) (T : OBlt mg) (c__law_why_value : C8.Cal P w K mg base 1 "_law_why_value" (spWhyV K) []) : FnOk P w K mg base CX0 2 f fd ["kinds", "w", "kind", "values", "own"] (spFirst K) := by
  refine F.ok sc__law_first_why (fun vs H Q E h => ?_) (fun cdv A outer s H vs Q E hr h => ?_)
  · obtain ⟨A, W, kd, ds, kn, kind, va, vals, own, fs, rfl, _⟩ := h
    rfl
  · obtain ⟨A, W, kd, ds, kn, kind, va, vals, own, fs, rfl, hL, hf, ⟨ps, hsq, pp⟩, hlen, hH, k⟩ := h
    refine ⟨_, (pss_cons (ps_setLc (i := 5) rfl sc__law_first_why.nd rfl rfl (sw_true rfl rfl rfl (by decide +kernel)) (g := (gTup K 2 (gCons (gName 6) (gCons (gName 7) gNil)))) (own := [("field", 6), ("value", 7)]) (pi_seq2 (pv 3)) (blkOk_by (own := [("field", 6), ("value", 7)]) (N := N__law_first_why) (sc := defScope s__law_first_why) (by decide +kernel)) (fun _ _ _ _ _ => (pg_tup (by rfl) (pgs_cons (pg_name (i := 6) sc__law_first_why.nd rfl (Or.inl rfl)) (pgs_cons (pg_name (i := 7) sc__law_first_why.nd rfl (Or.inl rfl)) pgs_nil)))) (fun _ _ _ _ _ => pts_nil) (fun _ _ _ _ _ => (C8.pe_c c__law_why_value hr (by first | decide | omega) rfl (pa_cons (pv 0) (pa_cons (pv 1) (pa_cons (pv 2) (pa_cons (pv 6) (pa_cons (pv 7) (pa_cons (pv 4) pa_nil)))))))))
    (pss_one (ps_ret (pe_ifExp (pt_cmpR op_in_seq pe_str (pv 5) (by rfl)) pe_str (pe_ifExp (pt_cmpR op_in_seq pe_str (pv 5) (by rfl)) pe_str pe_str))))), ?_⟩
    have lp : ps.length = vals.length := pp.length
    have refl : Same H H := fun _ _ e => e
    have body : ∀ (D : Addr) (hD : H D = none) (i : Nat) (x : V) (H1 : Hp), (ps.map V.ref)[i]? = some x → (Same H H1 ∧ H1 D = some (.lst (((whysL W.things fs kind vals own).take i).map V.str))) →
        ∃ (p : Addr) (fv : Str × Option Int), x = .ref p ∧ SqT K H1 p [.str fv.1, oV fv.2] ∧ Lk K H1 A W kd ds kn ∧ ffind fs fv.1 = some (tmOf fs fv.1) ∧ ∀ H2, Same H1 H2 → ∃ acc, H2 D = some (.lst acc) ∧ acc.length < sizeLine ∧ (Same H (upd H2 D (.lst (acc ++ [V.str (whyV W.things (tmOf fs fv.1) kind fv.1 fv.2 own)]))) ∧ (upd H2 D (.lst (acc ++ [V.str (whyV W.things (tmOf fs fv.1) kind fv.1 fv.2 own)]))) D = some (.lst (((whysL W.things fs kind vals own).take (i + 1)).map V.str))) := by
      rintro D hD i x H1 hx ⟨s1, hd⟩
      obtain ⟨p, hp, rfl⟩ : ∃ p, ps[i]? = some p ∧ V.ref p = x := by
        rw [List.getElem?_map] at hx
        cases e : ps[i]? with
        | none => rw [e] at hx; cases hx
        | some n => rw [e] at hx; exact ⟨n, rfl, Option.some.inj hx⟩
      obtain ⟨fv, hfv, sq⟩ := par_at pp hp
      have hm : fv ∈ vals := List.mem_of_getElem? hfv
      have hi := (List.getElem?_eq_some_iff.mp hp).1
      refine ⟨p, fv, rfl, same_seqT s1 sq, hL.same s1, hH.tm hm, fun H2 s2 => ⟨_, s2 _ _ hd, ?_, fun b o e => ?_, ?_⟩⟩
      · rw [List.length_map, List.length_take]
        exact Nat.lt_of_le_of_lt (show min i _ ≤ 60 by omega) (by decide)
      · rw [upd_ne (ne_of_none e hD)]
        exact s2 _ _ (s1 _ _ e)
      · rw [upd_same, List.take_add_one, List.map_append]
        unfold whysL
        rw [List.getElem?_map, hfv]
        rfl
    have fin : ∀ (D : Addr) (H1 : Hp), Same H H1 → H1 D = some (.lst (((whysL W.things fs kind vals own).take (ps.map V.ref).length).map V.str)) → Same H H1 ∧ H1 D = some (.lst ((whysL W.things fs kind vals own).map V.str)) := by
      intro D H1 s1 hd
      refine ⟨s1, ?_⟩
      rw [hd, List.take_of_length_le]
      rw [List.length_map, lp]
      unfold whysL
      rw [List.length_map]
      exact Nat.le_refl _

    rcases hsq with hsq | hsq
    · refine .inl ⟨_, rfl, va, rfl, ⟨_, hsq⟩, fun D hD => lc_tup (K := K) (a := va) (xs := ps.map V.ref) (fun i H' => Same H H' ∧ H' D = some (.lst (((whysL W.things fs kind vals own).take i).map V.str))) ⟨same_upd hD, by rw [upd_same]; rfl⟩ (fun i H' _ h => same_seqT h.1 hsq) ?_ ?_⟩
      · intro i x H1 hx hP
        obtain ⟨p, fv, rfl, sq, hL1, htm, go⟩ := body D hD i x H1 hx hP
        refine ⟨p, _, rfl, sq, rfl, _, _, rfl, _, _, rfl, rfl, rfl, ?_⟩
        refine ⟨_, rfl, _, rfl, _, rfl, _, rfl, _, rfl, _, rfl, A, W, kd, ds, kn, kind, fv.1, fv.2, own, fs, _, rfl, hL1, hf, htm, fun H2 s2 => ?_⟩
        exact go H2 s2
      · rintro H1 ⟨s1, hd⟩
        obtain ⟨s1, hd⟩ := fin D H1 s1 hd
        have k := k H1 s1
        unfold firstW at k
        generalize whysL W.things fs kind vals own = l at hd k
        unfold pickW at k
        refine ⟨_, rfl, D, _, rfl, Or.inl (SqL.of hd), rfl, flat_strs _, _, rfl, ?_⟩
        show (if inV _ _ = true then _ else _ : Prop)
        rw [mem_names]
        by_cases h1 : ("need" : Str) ∈ l
        · rw [if_pos h1] at k
          rw [decide_eq_true h1]
          exact iteT k
        · rw [if_neg h1] at k
          rw [decide_eq_false h1]
          refine iteF ⟨_, rfl, D, _, rfl, Or.inl (SqL.of hd), rfl, flat_strs _, _, rfl, ?_⟩
          show (if inV _ _ = true then _ else _ : Prop)
          rw [mem_names]
          by_cases h2 : ("taken" : Str) ∈ l
          · rw [if_pos h2] at k
            rw [decide_eq_true h2]
            exact iteT k
          · rw [if_neg h2] at k
            rw [decide_eq_false h2]
            exact iteF k
    · refine .inr ⟨_, rfl, va, rfl, ⟨_, hsq⟩, fun D hD => lc_list (K := K) (a := va) (xs := ps.map V.ref) (fun i H' => Same H H' ∧ H' D = some (.lst (((whysL W.things fs kind vals own).take i).map V.str))) ⟨same_upd hD, by rw [upd_same]; rfl⟩ (fun i H' _ h => h.1.seq hsq) ?_ ?_⟩
      · intro i x H1 hx hP
        obtain ⟨p, fv, rfl, sq, hL1, htm, go⟩ := body D hD i x H1 hx hP
        refine ⟨p, _, rfl, sq, rfl, _, _, rfl, _, _, rfl, rfl, rfl, ?_⟩
        refine ⟨_, rfl, _, rfl, _, rfl, _, rfl, _, rfl, _, rfl, A, W, kd, ds, kn, kind, fv.1, fv.2, own, fs, _, rfl, hL1, hf, htm, fun H2 s2 => ?_⟩
        exact go H2 s2
      · rintro H1 ⟨s1, hd⟩
        obtain ⟨s1, hd⟩ := fin D H1 s1 hd
        have k := k H1 s1
        unfold firstW at k
        generalize whysL W.things fs kind vals own = l at hd k
        unfold pickW at k
        refine ⟨_, rfl, D, _, rfl, Or.inl (SqL.of hd), rfl, flat_strs _, _, rfl, ?_⟩
        show (if inV _ _ = true then _ else _ : Prop)
        rw [mem_names]
        by_cases h1 : ("need" : Str) ∈ l
        · rw [if_pos h1] at k
          rw [decide_eq_true h1]
          exact iteT k
        · rw [if_neg h1] at k
          rw [decide_eq_false h1]
          refine iteF ⟨_, rfl, D, _, rfl, Or.inl (SqL.of hd), rfl, flat_strs _, _, rfl, ?_⟩
          show (if inV _ _ = true then _ else _ : Prop)
          rw [mem_names]
          by_cases h2 : ("taken" : Str) ∈ l
          · rw [if_pos h2] at k
            rw [decide_eq_true h2]
            exact iteT k
          · rw [if_neg h2] at k
            rw [decide_eq_false h2]
            exact iteF k
/-- mark is not None and mark[1] < w['fences'].get(mark[0], 0) -/
theorem old_rd {H : Hp} {A : LA} {W : Wd} {σ : L2.St} {R : Bool → Hp → Prop} {mk : OW.Mk} {mv : V} (hW : LwR K H A W) (hM : MkAt K H mv mk) (h1 : σ[1]? = some (some (.ref A.w))) (h2 : σ[2]? = some (some mv)) (q : R (oldB W.fences mk) H) :
    tAnd (tTest (tOp (fun x y H Q => y = V.non ∧ Q (V.bl !decide (x = V.non)) H) (tVar 2) (tC V.non))) (tTest (tOp (rI0 fun i j => V.bl (decide (i < j))) (tOp (rIxT K) (tVar 2) (tC (V.int 1))) (tDGet2 (tDGet (tVar 1) (tC (V.str "fences"))) (tOp (rIxT K) (tVar 2) (tC (V.int 0))) (tC (V.int 0))))) σ H R := by
  cases mk with
  | none =>
    have hM : mv = .non := hM
    subst hM
    exact ⟨_, h2, rfl, _, rfl, iteF q⟩
  | some m =>
    obtain ⟨ma, rfl, sm⟩ := hM
    refine ⟨_, h2, rfl, _, rfl, iteT ⟨_, h2, ma, _, _, _, rfl, rfl, sm, atI_nat (j := 1) rfl, _, h1, A.w, _, rfl, hW.g_fences, A.wF, rfl, .inl ⟨_, hW.fences⟩, _, h2, ma, _, _, _, rfl, rfl, sm, atI_nat (j := 0) rfl, _, .inl ⟨_, Sum.inl m.1, hW.fences, rfl, rfl⟩, ?_⟩⟩
    rw [fval]
    exact ⟨_, _, rfl, rfl, _, rfl, q⟩
theorem ok__law_needed {f : Addr} {fd : FuncData} (F : Fun K "_law_needed" "_law_needed" s__law_needed f fd) (T : OBlt mg) : FnOk P w K mg base CX0 1 f fd ["kinds", "w", "one"] (spNeeded K) := by
  refine F.ok sc__law_needed (fun vs H Q E h => ?_) (fun cdv A outer s H vs Q E hr h => ?_)
  · obtain ⟨A, W, kd, ds, kn, one, rfl, _⟩ := h
    rfl
  · obtain ⟨A, W, kd, ds, kn, one, rfl, hL, hO, k⟩ := h
    have hu := hu_of hr
    refine ⟨_, (pss_cons (ps_lock (ps_for PassesOwn.never rfl (pi_keys (pe_dget hu (pv 1) pe_str (fun _ _ => rfl))) (pg_name (i := 3) sc__law_needed.nd rfl (Or.inl rfl))
      (pss_cons (ps_set (i := 4) sc__law_needed.nd rfl (Or.inl rfl) (pe_dget hu (pe_dget hu (pv 1) pe_str (fun _ _ => rfl)) (pv 3) (fun _ _ => rfl)))
      (pss_one (ps_for PassesOwn.never rfl (pi_tup (pe_ix ix_tup (pv 4) pe_int (fun _ _ => rfl))) (pg_tup (by rfl) (pgs_cons (pg_name (i := 5) sc__law_needed.nd rfl (Or.inl rfl)) (pgs_cons (pg_name (i := 6) sc__law_needed.nd rfl (Or.inl rfl)) pgs_nil)))
        (pss_one (ps_if (PW.pt (pw_and (pt_cmpR op_eq (pv 6) (pv 2) (nomark _)) (pw_and1 (pt_cmpR op_ne (pe_ix ix_tup (pe_dget hu (pe_dget hu (pv 0) (pe_ix ix_tup (pv 4) pe_int (fun _ _ => rfl)) (fun _ _ => rfl)) (pv 5) (fun _ _ => rfl)) pe_int (fun _ _ => rfl)) pe_str (nomark _)))))
          (pss_one (ps_ret pe_bl))
          pss_nil)))))))
    (pss_one (ps_ret pe_bl))), ?_⟩
    obtain ⟨kvs, hT, hR⟩ := hL.lw.things
    refine ⟨A.wT, _, hT, trivial, fun od => ?_⟩
    obtain ⟨hW1, hK1⟩ := hL.lock (od := od) hT
    have hR1 := ths_kp hR (kp_lock (od := od) hT)
    have lenR : kvs.length = W.things.length := hR.length
    have refl : Same (upd H A.wT (.frz od (.dK kvs))) (upd H A.wT (.frz od (.dK kvs))) := fun _ _ e => e
    refine ⟨_, rfl, A.w, _, rfl, hW1.g_things, A.wT, od, rfl, .inl ⟨kvs, upd_same, for_it walk_keys (fun i σ H' => ∃ (e3 e4 e5 e6 : Option V), σ = [some (.ref kd), some (.ref A.w), some (.int one), e3, e4, e5, e6] ∧ H' = upd H A.wT (.frz od (.dK kvs)) ∧ (W.things.take i).any (needsB kn one) = false)
      ⟨none, none, none, none, rfl, rfl, rfl⟩ (fun i σ H' _ ⟨_, _, _, _, _, e, _⟩ => by rw [e]; exact upd_same) ?_ ?_⟩⟩
    · rintro i x σ H1 H2 hi ⟨e3, e4, e5, e6, rfl, rfl, hno⟩ ⟨rfl, key, v, hkv, rfl⟩
      obtain ⟨th, hth, ⟨ekey, ta, ev, hA⟩⟩ := par_at hR1 hkv
      have ekey : key = Sum.inl th.id := ekey
      have ev : v = .ref ta := ev
      subst ekey ev
      have hm : th ∈ W.things := List.mem_of_getElem? hth
      have hf := tfind_mem hL.ids hth
      obtain ⟨ta', g3, hA3⟩ := hW1.thing hf
      obtain ⟨va, tka, st, ⟨ps, pl, pp⟩, _⟩ := hA3
      obtain ⟨fs, hfs, hnm⟩ := hO.good th hm
      obtain ⟨d, fvs, _, gk1, hd, hF⟩ := hK1.get hfs
      have hH := hasF_of hnm
      have lp : ps.length = th.vals.length := pp.length
      refine ⟨_, rfl, A.w, _, rfl, hW1.g_things, _, rfl, A.wT, _, rfl, g3, ?_⟩
      refine ⟨_, rfl, ta', _, _, _, rfl, rfl, st, atI_nat (j := 2) rfl, va, rfl, ⟨_, sqT_pl pl⟩, for_tup (K := K) (a := va) (xs := ps.map V.ref) (fun j σ H' => ∃ (e5 e6 : Option V), σ = [some (.ref kd), some (.ref A.w), some (.int one), some (.int th.id), some (.ref ta'), e5, e6] ∧ H' = upd H A.wT (.frz od (.dK kvs)) ∧ (th.vals.take j).any (fun fv => decide (oV fv.2 = .int one) && !decide ((tmOf (fsOf kn th.kind) fv.1).1 = ("" : Str))) = false)
        ⟨e5, e6, rfl, rfl, rfl⟩ (fun j σ H' _ ⟨_, _, _, e, _⟩ => by rw [e]; exact sqT_pl pl) ?_ ?_⟩
      · rintro j x σ H1 hx ⟨e5, e6, rfl, rfl, hnv⟩
        obtain ⟨p, hp, rfl⟩ : ∃ p, ps[j]? = some p ∧ V.ref p = x := by
          rw [List.getElem?_map] at hx
          cases e : ps[j]? with
          | none => rw [e] at hx; cases hx
          | some n => rw [e] at hx; exact ⟨n, rfl, Option.some.inj hx⟩
        obtain ⟨fv, hfv, sq⟩ := par_at pp hp
        have hmv : fv ∈ th.vals := List.mem_of_getElem? hfv
        have htm := hH.tm hmv
        rw [← fsOf_some hfs] at htm
        obtain ⟨a, m, g2, sa, sm⟩ := fld_get hd hF (by rw [← fsOf_some hfs]; exact htm)
        refine ⟨p, _, rfl, sq, rfl, _, _, rfl, _, _, rfl, rfl, ?_⟩
        refine ⟨_, rfl, _, rfl, scal_o _ _, _, rfl, ?_⟩
        have step : (decide (oV fv.2 = .int one) && !decide ((tmOf (fsOf kn th.kind) fv.1).1 = ("" : Str))) = false → (th.vals.take (j + 1)).any (fun fv => decide (oV fv.2 = .int one) && !decide ((tmOf (fsOf kn th.kind) fv.1).1 = ("" : Str))) = false := fun q => by
          rw [List.take_add_one, hfv, List.any_append, hnv]
          simpa using q
        by_cases h1 : oV fv.2 = .int one
        · rw [decide_eq_true h1] at step ⊢
          refine iteT ⟨_, rfl, _, rfl, ta', _, _, _, rfl, rfl, st, atI_nat (j := 1) rfl, kd, _, rfl, gk1, _, rfl, d, _, rfl, g2, a, _, _, _, rfl, rfl, sa, atI_nat (j := 0) rfl, rfl, _, rfl, ?_⟩
          show (if (!decide (V.str (tmOf (fsOf kn th.kind) fv.1).1 = V.str "")) = true then _ else _ : Prop)
          by_cases h2 : (tmOf (fsOf kn th.kind) fv.1).1 = ("" : Str)
          · rw [decide_eq_true h2] at step
            rw [decide_eq_true (show V.str _ = V.str "" by rw [h2])]
            exact iteF ⟨_, _, rfl, rfl, step rfl⟩
          · rw [decide_eq_false (fun q => h2 (V.str.inj q))]
            have hb : needsB kn one th = true := by
              unfold needsB
              rw [List.any_eq_true]
              exact ⟨fv, hmv, by rw [decide_eq_true h1, decide_eq_false h2]; rfl⟩
            have ha : neededB kn W.things one = true := List.any_eq_true.mpr ⟨th, hm, hb⟩
            rw [ha] at k
            exact iteT ⟨upd_same, k _ (same_unlock hT refl)⟩
        · rw [decide_eq_false h1] at step ⊢
          exact iteF (iteF ⟨_, _, rfl, rfl, step rfl⟩)
      · rintro σ H1 ⟨e5, e6, rfl, rfl, hnv⟩
        rw [List.length_map, lp, List.take_length] at hnv
        refine ⟨_, _, _, _, rfl, rfl, ?_⟩
        rw [List.take_add_one, hth, List.any_append, hno]
        have hnv : needsB kn one th = false := hnv
        simpa using hnv
    · rintro σ H1 ⟨e3, e4, e5, e6, rfl, rfl, hno⟩
      rw [lenR, List.take_length] at hno
      have k := k _ (same_unlock hT refl)
      unfold neededB at k
      rw [hno] at k
      exact ⟨upd_same, k⟩
theorem ok__law_other_why {f : Addr} {fd : FuncData} (F : Fun K "_law_other_why" "_law_other_why" s__law_other_why f fd) (T : OBlt mg) : FnOk P w K mg base CX0 1 f fd ["kinds", "w", "mark", "one", "version"] (spOtherW K) := by
  refine F.ok sc__law_other_why (fun vs H Q E h => ?_) (fun cdv A outer s H vs Q E hr h => ?_)
  · obtain ⟨A, W, kd, ds, kn, mk, mv, one, ver, rfl, _⟩ := h
    rfl
  · obtain ⟨A, W, kd, ds, kn, mk, mv, one, ver, rfl, hL, hM, k⟩ := h
    have hu := hu_of hr
    refine ⟨_, (pss_cons (ps_if (PW.pt (pw_and (pt_cmpR op_notN (pv 2) pe_non (nomark _)) (pw_and1 (pt_cmpR op_lt (pe_ix ix_tup (pv 2) pe_int (fun _ _ => rfl)) (pe_dget2 hu (pe_dget hu (pv 1) pe_str (fun _ _ => rfl)) (pe_ix ix_tup (pv 2) pe_int (fun _ _ => rfl)) pe_int ⟨by rfl, by rfl, by rfl, by rfl⟩) (nomark _)))))
      (pss_one (ps_ret pe_str))
      pss_nil)
    (pss_cons (ps_if (pt_cmp (pc_dnotin hu (pv 3) (pe_dget hu (pv 1) pe_str (fun _ _ => rfl))))
      (pss_one (ps_ret pe_str))
      pss_nil)
    (pss_one (ps_ret (pe_ifExp (PW.pt (pw_and (pt_cmpR op_notN (pv 4) pe_non (nomark _)) (pw_and1 (pt_cmpR op_ne (pv 4) (pe_ix ix_tup (pe_dget hu (pe_dget hu (pv 1) pe_str (fun _ _ => rfl)) (pv 3) (fun _ _ => rfl)) pe_int (fun _ _ => rfl)) (nomark _))))) pe_str pe_str))))), ?_⟩
    have hW := hL.lw.r
    refine old_rd hW hM rfl rfl ?_
    cases ho : oldB W.fences mk with
    | true =>
      unfold otherW at k
      rw [ho] at k
      exact iteT k
    | false =>
      refine iteF ?_
      unfold otherW at k
      rw [ho] at k
      cases ht : tfind W.things one with
      | none =>
        rw [ht] at k
        exact ⟨_, rfl, _, rfl, A.w, _, rfl, hW.g_things, A.wT, _, rfl, hW.nothing ht, _, rfl, iteT k⟩
      | some t =>
        rw [ht] at k
        have k : Q (.str (if staleB t ver = true then ("stale" : Str) else "")) H := k
        obtain ⟨ta, g3, va, tka, st, _⟩ := hW.thing ht
        refine ⟨_, rfl, _, rfl, A.w, _, rfl, hW.g_things, A.wT, _, rfl, g3, _, rfl, iteF ?_⟩
        cases ver with
        | none => exact ⟨_, rfl, rfl, _, rfl, iteF (iteF k)⟩
        | some v =>
          refine ⟨_, rfl, rfl, _, rfl, iteT ⟨_, rfl, _, rfl, A.w, _, rfl, hW.g_things, _, rfl, A.wT, _, rfl, g3, ta, _, _, _, rfl, rfl, st, atI_nat (j := 3) rfl, rfl, _, rfl, ?_⟩⟩
          show (if (!decide (V.int v = V.int t.ver)) = true then _ else _ : Prop)
          have k : Q (.str (if (!decide (v = t.ver)) = true then ("stale" : Str) else "")) H := k
          by_cases hv : v = t.ver
          · rw [decide_eq_true hv] at k
            rw [decide_eq_true (show V.int v = V.int t.ver by rw [hv])]
            exact iteF k
          · rw [decide_eq_false hv] at k
            rw [decide_eq_false (fun q => hv (V.int.inj q))]
            exact iteT k
theorem fld_keys {H : Hp} {fvs : List (Key × V)} {fs : List FT} (h : FldR K H fvs fs) : fvs.map (·.1) = (fs.map (·.1)).map Sum.inr := by
  induction h with
  | nil => rfl
  | cons a b ih => rw [List.map_cons, List.map_cons, List.map_cons, a.1, ih]
theorem dps_strs {H : Hp} : ∀ (l : List Str), DpAll K H (l.map V.str) (l.map PyData.str)
  | [] => .nil
  | x :: l => .cons (.str x) (dps_strs l)
theorem ok__law_make_why {f : Addr} {fd : FuncData} (F : Fun K "_law_make_why" "_law_make_why" s__law_make_why f fd) (T : OBlt mg) (c__law_form : C8.Cal P w K mg base 1 "_law_form" (spForm K) []) (c__law_first_why : C8.Cal P w K mg base 2 "_law_first_why" (spFirst K) []) : FnOk P w K mg base CX0 3 f fd ["kinds", "w", "mark", "token", "kind", "values"] (spMakeW K) := by
  refine F.ok sc__law_make_why (fun vs H Q E h => ?_) (fun cdv A outer s H vs Q E hr h => ?_)
  · obtain ⟨A, W, kd, ds, kn, mk, tok, mv, tv, kind, va, vals, fs, rfl, _⟩ := h
    rfl
  · obtain ⟨A, W, kd, ds, kn, mk, tok, mv, tv, kind, va, vals, fs, rfl, hL, hN, hO, hM, hT, hf, hV, hlen, hH, k⟩ := h
    have hu := hu_of hr
    refine ⟨_, (pss_cons (ps_if (PW.pt (pw_and (pt_cmpR op_notN (pv 2) pe_non (nomark _)) (pw_and1 (pt_cmpR op_lt (pe_ix ix_tup (pv 2) pe_int (fun _ _ => rfl)) (pe_dget2 hu (pe_dget hu (pv 1) pe_str (fun _ _ => rfl)) (pe_ix ix_tup (pv 2) pe_int (fun _ _ => rfl)) pe_int ⟨by rfl, by rfl, by rfl, by rfl⟩) (nomark _)))))
      (pss_one (ps_ret pe_str))
      pss_nil)
    (pss_cons (ps_if (PW.pt (pw_and (pt_cmpR op_notN (pv 3) pe_non (nomark _)) (pw_and1 (pt_cmp (pc_din hu (pv 3) (pe_dget hu (pv 1) pe_str (fun _ _ => rfl)))))))
      (pss_one (ps_ret pe_str))
      pss_nil)
    (pss_cons (ps_if (PW.pt (pw_or (pt_cmp (pc_dnotin hu (pv 4) (pv 0))) (pw_or1 (pt_cmpR (op_neD hr.units) (pe_lc (g := (gTup K 2 (gCons (gName 6) (gCons (gName 7) gNil)))) (own := [("field", 6), ("value", 7)]) rfl sc__law_make_why.nd (pi_tup (pv 5)) (blkOk_by (own := [("field", 6), ("value", 7)]) (N := N__law_make_why) (sc := defScope s__law_make_why) (by decide +kernel)) (fun _ _ _ _ _ => (pg_tup (by rfl) (pgs_cons (pg_name (i := 6) sc__law_make_why.nd rfl (Or.inl rfl)) (pgs_cons (pg_name (i := 7) sc__law_make_why.nd rfl (Or.inl rfl)) pgs_nil)))) (fun _ _ _ _ _ => pts_nil) (fun _ _ _ _ _ => (pv 6))) (pe_callB (call_sortedD rfl) (by rfl) T.b_sorted (by decide +kernel) (pa_cons (pe_dget hu (pv 0) (pv 4) (fun _ _ => rfl)) pa_nil)) (nomark _)))))
      (pss_one (ps_ret pe_str))
      pss_nil)
    (pss_cons (ps_if (pt_cmpR (op_neD hr.units) (pe_lc (g := (gTup K 2 (gCons (gName 6) (gCons (gName 7) gNil)))) (own := [("field", 6), ("value", 7)]) rfl sc__law_make_why.nd (pi_tup (pv 5)) (blkOk_by (own := [("field", 6), ("value", 7)]) (N := N__law_make_why) (sc := defScope s__law_make_why) (by decide +kernel)) (fun _ _ _ _ _ => (pg_tup (by rfl) (pgs_cons (pg_name (i := 6) sc__law_make_why.nd rfl (Or.inl rfl)) (pgs_cons (pg_name (i := 7) sc__law_make_why.nd rfl (Or.inl rfl)) pgs_nil)))) (fun _ _ _ _ _ => (pts_one (pt_not (pt_val (C8.pe_c c__law_form hr (by first | decide | omega) rfl (pa_cons (pv 0) (pa_cons (pv 4) (pa_cons (pv 6) (pa_cons (pv 7) pa_nil))))))))) (fun _ _ _ _ _ => (pv 6))) (pe_lst pa_nil) (nomark _))
      (pss_one (ps_ret pe_str))
      pss_nil)
    (pss_one (ps_ret (C8.pe_c c__law_first_why hr (by first | decide | omega) rfl (pa_cons (pv 0) (pa_cons (pv 1) (pa_cons (pv 4) (pa_cons (pv 5) (pa_cons pe_int pa_nil)))))))))))), ?_⟩
    have hW := hL.lw.r
    have refl : Same H H := fun _ _ e => e
    unfold makeW at k
    rw [fsOf_some hf] at k
    refine old_rd hW hM rfl rfl ?_
    cases ho : oldB W.fences mk with
    | true =>
      rw [ho] at k
      exact iteT (k H refl)
    | false =>
      rw [ho] at k
      refine iteF ?_
      have known : ∀ {R : Bool → Hp → Prop}, R (knownB W.toks tok) H → tAnd (tTest (tOp (fun x y H Q => y = V.non ∧ Q (V.bl !decide (x = V.non)) H) (tVar 3) (tC V.non))) (tB (tDIn (tVar 3) (tDGet (tVar 1) (tC (V.str "tokens"))))) (L2.start N__law_make_why [.ref kd, .ref A.w, mv, tv, .str kind, .ref va]) H R := by
        intro R q
        cases tok with
        | none =>
          have hT : tv = .non := hT
          subst hT
          exact ⟨_, rfl, rfl, _, rfl, iteF q⟩
        | some t =>
          obtain ⟨tb, rfl, ht⟩ := hT
          refine ⟨_, rfl, rfl, _, rfl, iteT ⟨_, rfl, _, rfl, A.w, _, rfl, hW.g_tokens, A.wK, _, rfl, .inr ⟨_, kPair t, tb, hW.toks, rfl, ht, rfl⟩, _, rfl, ?_⟩⟩
          rw [tokv]
          exact q
      refine known ?_
      cases hk : knownB W.toks tok with
      | true =>
        rw [hk] at k
        exact iteT (k H refl)
      | false =>
        rw [hk] at k
        refine iteF ?_
        have k : ∀ H', Same H H' → Q (.str (if vals.map (·.1) = fs.map (·.1) then (if goodB fs vals = true then firstW W.things fs kind vals 0 else "form") else "form")) H' := k
        obtain ⟨d, fvs, _, gk1, hd, hF⟩ := hL.kn.get hf
        obtain ⟨ps, pl, pp⟩ := hV
        have hsq := sqT_pl (K := K) pl
        have lp : ps.length = vals.length := pp.length
        refine ⟨_, rfl, _, rfl, kd, _, rfl, gk1, _, rfl, iteF ?_⟩
        refine ⟨_, rfl, va, rfl, ⟨_, hsq⟩, fun D hD => lc_tup (K := K) (a := va) (xs := ps.map V.ref) (fun i H' => H' = upd H D (.lst (((vals.take i).map (·.1)).map V.str))) rfl (fun i H' _ h => by rw [h]; exact same_seqT (same_upd hD) hsq) ?_ ?_⟩
        · rintro i x H1 hx rfl
          obtain ⟨p, hp, rfl⟩ : ∃ p, ps[i]? = some p ∧ V.ref p = x := by
            rw [List.getElem?_map] at hx
            cases e : ps[i]? with
            | none => rw [e] at hx; cases hx
            | some n => rw [e] at hx; exact ⟨n, rfl, Option.some.inj hx⟩
          obtain ⟨fv, hfv, sq⟩ := par_at pp hp
          have hi := (List.getElem?_eq_some_iff.mp hp).1
          refine ⟨p, _, rfl, same_seqT (same_upd hD) sq, rfl, _, _, rfl, _, _, rfl, rfl, rfl, _, rfl, _, upd_same, ?_, ?_⟩
          · rw [List.length_map, List.length_map, List.length_take]
            exact Nat.lt_of_le_of_lt (show min i _ ≤ 60 by omega) (by decide)
          · rw [upd_upd, List.take_add_one, hfv]
            simp
        · rintro H1 rfl
          rw [List.length_map, lp, List.take_length]
          have hdD : upd H D (.lst ((vals.map (·.1)).map V.str)) d = some (.dK fvs) := same_upd hD _ _ hd
          obtain ⟨d', fvs', _, gk1', hd', hF'⟩ := (hL.kn.same (same_upd (o := .lst ((vals.map (·.1)).map V.str)) hD)).get hf
          have hkeys := fld_keys hF'
          refine ⟨_, rfl, _, rfl, kd, _, rfl, gk1', d', fvs', fs.map (·.1), rfl, .inl hd', hkeys, by rw [List.length_map]; have := hN.few _ _ hf; omega, fun ys p hperm hsrt np => ?_⟩
          have eys := hN.srt _ _ hf ys hperm hsrt
          subst eys
          have s1 : Same H (upd (upd H D (.lst ((vals.map (·.1)).map V.str))) p (.lst ((fs.map (·.1)).map V.str))) := (same_upd hD).trans (same_upd np)
          refine ⟨.list ((vals.map (·.1)).map .str), .list ((fs.map (·.1)).map .str), .lst (SqL.of (same_upd np _ _ upd_same)) (dps_strs _), .lst (SqL.of upd_same) (dps_strs _), ?_, ?_, _, rfl, ?_⟩
          · refine shaped_strs fun x hx => ?_
            obtain ⟨fv, hm, rfl⟩ := List.mem_map.mp hx
            exact hN.txt _ _ hf _ (ffind_in (hH.tm hm))
          · exact shaped_strs fun x hx => hN.txt _ _ hf _ hx
          · rw [eqv_strs]
            generalize upd (upd H D (.lst ((vals.map (·.1)).map V.str))) p (.lst ((fs.map (·.1)).map V.str)) = H2 at s1
            by_cases hn : vals.map (·.1) = fs.map (·.1)
            · rw [decide_eq_true hn]
              simp only [hn, if_true] at k
              refine iteF ?_
              have hL2 := hL.same s1
              have hsq2 := same_seqT s1 hsq
              have pp2 := par_imp (fun _ _ q => same_seqT s1 q) pp
              refine ⟨_, rfl, va, rfl, ⟨_, hsq2⟩, fun D2 hD2 => lc_tup (K := K) (a := va) (xs := ps.map V.ref) (fun i H' => H' = upd H2 D2 (.lst ((((vals.take i).filter fun fv => !formB (tmOf fs fv.1) fv.2).map (·.1)).map V.str))) rfl (fun i H' _ h => by rw [h]; exact same_seqT (same_upd hD2) hsq2) ?_ ?_⟩
              · rintro i x H1 hx rfl
                obtain ⟨p, hp, rfl⟩ : ∃ p, ps[i]? = some p ∧ V.ref p = x := by
                  rw [List.getElem?_map] at hx
                  cases e : ps[i]? with
                  | none => rw [e] at hx; cases hx
                  | some n => rw [e] at hx; exact ⟨n, rfl, Option.some.inj hx⟩
                obtain ⟨fv, hfv, sq⟩ := par_at pp2 hp
                have hi := (List.getElem?_eq_some_iff.mp hp).1
                have hmv : fv ∈ vals := List.mem_of_getElem? hfv
                refine ⟨p, _, rfl, same_seqT (same_upd hD2) sq, rfl, _, _, rfl, _, _, rfl, rfl, rfl, ?_⟩
                refine ⟨_, rfl, _, rfl, _, rfl, _, rfl, kd, ds, kn, kind, fv.1, fv.2, fs, _, rfl, (hL2.same (same_upd hD2)).kn, hf, hH.tm hmv, _, rfl, ?_⟩
                have et : vals.take (i + 1) = vals.take i ++ [fv] := by rw [List.take_add_one, hfv]; rfl
                cases hb : formB (tmOf fs fv.1) fv.2 with
                | true =>
                  refine iteF ?_
                  rw [et, List.filter_append]
                  simp [hb]
                | false =>
                  refine iteT ⟨_, rfl, _, upd_same, ?_, ?_⟩
                  · rw [List.length_map, List.length_map]
                    have := List.length_filter_le (fun fv : Str × Option Int => !formB (tmOf fs fv.1) fv.2) (vals.take i)
                    rw [List.length_take] at this
                    exact Nat.lt_of_le_of_lt (show _ ≤ 60 by omega) (by decide)
                  · rw [upd_upd, et, List.filter_append]
                    simp [hb]
              · rintro H1 rfl
                rw [List.length_map, lp, List.take_length]
                refine ⟨Nat.zero_le _, fun q nq => ⟨.list (((vals.filter fun fv => !formB (tmOf fs fv.1) fv.2).map (·.1)).map .str), .list ([].map .str), .lst (SqL.of (same_upd nq _ _ upd_same)) (dps_strs _), .lst (SqL.of upd_same) .nil, ?_, by rfl, _, rfl, ?_⟩⟩
                · refine shaped_strs fun x hx => ?_
                  obtain ⟨fv, hm, rfl⟩ := List.mem_map.mp hx
                  exact hN.txt _ _ hf _ (ffind_in (hH.tm (List.mem_filter.mp hm).1))
                · rw [eqv_strs]
                  have s3 : Same H (upd (upd H2 D2 (.lst (((vals.filter fun fv => !formB (tmOf fs fv.1) fv.2).map (·.1)).map V.str))) q (.lst [])) := s1.trans ((same_upd hD2).trans (same_upd nq))
                  have eg : goodB fs vals = decide ((vals.filter fun fv => !formB (tmOf fs fv.1) fv.2).map (·.1) = []) := by
                    refine beq_of ?_
                    unfold goodB
                    rw [decide_eq_true_eq, List.map_eq_nil_iff, List.filter_eq_nil_iff, List.all_eq_true]
                    refine forall_congr' fun x => ?_
                    cases formB (tmOf fs x.1) x.2 <;> simp
                  rw [← eg]
                  cases hg : goodB fs vals with
                  | false =>
                    rw [hg] at k
                    exact iteT (k _ s3)
                  | true =>
                    rw [hg] at k
                    refine iteF ⟨_, rfl, _, rfl, _, rfl, _, rfl, A, W, kd, ds, kn, kind, va, vals, 0, fs, rfl, hL.same s3, hf, ⟨ps, .inl (same_seqT s3 hsq), par_imp (fun _ _ q => same_seqT s3 q) pp⟩, hlen, hH, fun H' s4 => k H' (s3.trans s4)⟩
            · rw [decide_eq_false hn]
              simp only [hn, if_false] at k
              exact iteT (k H2 s1)
theorem str_ne {a b : Str} : (!decide (V.str a = V.str b)) = !decide (a = b) := by
  by_cases h : a = b
  · rw [decide_eq_true h, decide_eq_true (show V.str a = V.str b by rw [h])]
  · rw [decide_eq_false h, decide_eq_false (fun q => h (V.str.inj q))]
theorem ok__law_change_why {f : Addr} {fd : FuncData} (F : Fun K "_law_change_why" "_law_change_why" s__law_change_why f fd) (T : OBlt mg) (c__law_form : C8.Cal P w K mg base 1 "_law_form" (spForm K) []) (c__law_first_why : C8.Cal P w K mg base 2 "_law_first_why" (spFirst K) []) (c__law_other_why : C8.Cal P w K mg base 1 "_law_other_why" (spOtherW K) []) : FnOk P w K mg base CX0 3 f fd ["kinds", "w", "mark", "one", "version", "field", "value"] (spChangeW K) := by
  refine F.ok sc__law_change_why (fun vs H Q E h => ?_) (fun cdv A outer s H vs Q E hr h => ?_)
  · obtain ⟨A, W, kd, ds, kn, mk, mv, one, ver, field, v, rfl, _⟩ := h
    rfl
  · obtain ⟨A, W, kd, ds, kn, mk, mv, one, ver, field, v, rfl, hL, hO, hM, k⟩ := h
    have hu := hu_of hr
    refine ⟨_, (pss_cons (ps_set (i := 7) sc__law_change_why.nd rfl (Or.inl rfl) (C8.pe_c c__law_other_why hr (by first | decide | omega) rfl (pa_cons (pv 0) (pa_cons (pv 1) (pa_cons (pv 2) (pa_cons (pv 3) (pa_cons (pv 4) pa_nil)))))))
    (pss_cons (ps_if (pt_cmpR op_ne (pv 7) pe_str (nomark _))
      (pss_one (ps_ret (pv 7)))
      pss_nil)
    (pss_cons (ps_set (i := 8) sc__law_change_why.nd rfl (Or.inl rfl) (pe_ix ix_tup (pe_dget hu (pe_dget hu (pv 1) pe_str (fun _ _ => rfl)) (pv 3) (fun _ _ => rfl)) pe_int (fun _ _ => rfl)))
    (pss_cons (ps_if (PW.pt (pw_or (pt_cmp (pc_dnotin hu (pv 5) (pe_dget hu (pv 0) (pv 8) (fun _ _ => rfl)))) (pw_or (pt_cmpR op_in_seq pe_str (pe_ix ix_tup (pe_dget hu (pe_dget hu (pv 0) (pv 8) (fun _ _ => rfl)) (pv 5) (fun _ _ => rfl)) pe_int (fun _ _ => rfl)) (by rfl)) (pw_or1 (pt_not (pt_val (C8.pe_c c__law_form hr (by first | decide | omega) rfl (pa_cons (pv 0) (pa_cons (pv 8) (pa_cons (pv 5) (pa_cons (pv 6) pa_nil)))))))))))
      (pss_one (ps_ret pe_str))
      pss_nil)
    (pss_one (ps_ret (C8.pe_c c__law_first_why hr (by first | decide | omega) rfl (pa_cons (pv 0) (pa_cons (pv 1) (pa_cons (pv 8) (pa_cons (pe_lst (pa_cons (pe_tup (pa_cons (pv 5) (pa_cons (pv 6) pa_nil))) pa_nil)) (pa_cons (pv 3) pa_nil)))))))))))), ?_⟩
    have hW := hL.lw.r
    have refl : Same H H := fun _ _ e => e
    unfold changeW at k
    refine ⟨_, rfl, _, rfl, _, rfl, _, rfl, _, rfl, A, W, kd, ds, kn, mk, mv, one, ver, rfl, hL, hM, ?_⟩
    refine ⟨_, rfl, rfl, _, rfl, ?_⟩
    show (if (!decide (V.str (otherW W mk one ver) = V.str "")) = true then _ else _ : Prop)
    rw [str_ne]
    by_cases h0 : otherW W mk one ver = ("" : Str)
    · rw [if_pos h0] at k
      rw [decide_eq_true h0]
      refine iteF ?_
      cases ht : tfind W.things one with
      | none =>
        exfalso
        unfold otherW at h0
        rw [ht] at h0
        cases ho : oldB W.fences mk with
        | true => rw [ho] at h0; exact absurd (show ("old" : Str) = "" from h0) (by decide +kernel)
        | false => rw [ho] at h0; exact absurd (show ("gone" : Str) = "" from h0) (by decide +kernel)
      | some t =>
        rw [ht] at k
        have k : ∀ H', Same H H' → Q (.str (if changeForm (fsOf kn t.kind) field v = true then firstW W.things (fsOf kn t.kind) t.kind [(field, v)] one else "form")) H' := k
        obtain ⟨hm, _⟩ := tfind_some ht
        obtain ⟨fs, hf, hnm⟩ := hO.good t hm
        rw [fsOf_some hf] at k
        obtain ⟨ta, g3, va, tka, st, _⟩ := hW.thing ht
        obtain ⟨d, fvs, _, gk1, hd, hF⟩ := hL.kn.get hf
        refine ⟨_, rfl, A.w, _, rfl, hW.g_things, _, rfl, A.wT, _, rfl, g3, ta, _, _, _, rfl, rfl, st, atI_nat (j := 1) rfl, ?_⟩
        unfold changeForm at k
        cases hg : ffind fs field with
        | none =>
          rw [hg] at k
          exact ⟨_, rfl, _, rfl, _, rfl, kd, _, rfl, gk1, d, _, rfl, fld_getN hd hF hg, _, rfl, iteT (iteT (k H refl))⟩
        | some tm =>
          rw [hg] at k
          have k : ∀ H', Same H H' → Q (.str (if (!decide (("fixed" : Str) ∈ tm.2) && formB tm v) = true then firstW W.things fs t.kind [(field, v)] one else "form")) H' := k
          obtain ⟨a, m, g2, sa, sm⟩ := fld_get hd hF hg
          refine ⟨_, rfl, _, rfl, _, rfl, kd, _, rfl, gk1, d, _, rfl, g2, _, rfl, iteF ?_⟩
          refine ⟨_, rfl, _, rfl, kd, _, rfl, gk1, _, rfl, d, _, rfl, g2, a, _, _, _, rfl, rfl, sa, atI_nat (j := 1) rfl, m, _, rfl, Or.inr sm, rfl, flat_strs _, _, rfl, ?_⟩
          show (if inV _ _ = true then _ else _ : Prop)
          rw [mem_names]
          by_cases hx : ("fixed" : Str) ∈ tm.2
          · rw [decide_eq_true hx] at k ⊢
            exact iteT (iteT (k H refl))
          · rw [decide_eq_false hx] at k ⊢
            refine iteF ⟨_, rfl, _, rfl, _, rfl, _, rfl, kd, ds, kn, t.kind, field, v, fs, tm, rfl, hL.kn, hf, hg, _, rfl, ?_⟩
            cases hb : formB tm v with
            | false =>
              rw [hb] at k
              exact iteT (k H refl)
            | true =>
              rw [hb] at k
              refine iteF ⟨_, rfl, _, rfl, _, rfl, _, rfl, _, rfl, by show 2 ≤ sizeLine; decide, fun p np => ⟨by show 1 ≤ sizeLine; decide, fun q nq => ?_⟩⟩
              have s1 : Same H (upd (upd H p (.tup [.str field, oV v])) q (.lst [.ref p])) := (same_upd np).trans (same_upd nq)
              refine ⟨_, rfl, A, W, kd, ds, kn, t.kind, q, [(field, v)], one, fs, rfl, hL.same s1, hf, ⟨[p], .inr (SqL.of upd_same), .cons (SqT.of (same_upd nq _ _ upd_same)) .nil⟩, by show 1 < 60; decide, fun fv hm => ?_, fun H' s2 => k H' (s1.trans s2)⟩
              rw [List.mem_singleton.mp hm]
              exact ⟨tm, hg⟩
    · rw [if_neg h0] at k
      rw [decide_eq_false h0]
      exact iteT ⟨_, rfl, k H refl⟩

end
end K07
namespace K07
open PySem PySem.Spec PyProof.Rows L2 LB OW
section
variable {P : Program} {w : World} {K : PySem.W.Frag} {mg : Str → Option Value} {base : Heap} {C pC pD pN : Addr} {eC eD : Array DictEntry} {nC nD : Nat}
def needF (ths : List Th) (fs : List FT) (fv : Str × Option Int) : Bool := match fv.2 with
  | some n => !decide ((tmOf fs fv.1).1 = ("" : Str)) && !livesB ths n (tmOf fs fv.1).1
  | none => false
def takeF (ths : List Th) (fs : List FT) (kind : Str) (own : Int) (fv : Str × Option Int) : Bool := match fv.2 with
  | some n => decide (("single" : Str) ∈ (tmOf fs fv.1).2) && ths.any (takenBy kind fv.1 n own)
  | none => false
theorem lives_need (ths : List Th) (g : Str) (n : Int) : needV ths g n = if livesB ths n g = true then ("" : Str) else "need" := by
  unfold needV livesB
  cases tfind ths n with
  | none => rfl
  | some t =>
    by_cases h : t.kind = g
    · simp [h]
    · simp [h]
theorem why_need {ths : List Th} {fs : List FT} {kind : Str} {own : Int} {fv : Str × Option Int} : decide (("need" : Str) = whyV ths (tmOf fs fv.1) kind fv.1 fv.2 own) = needF ths fs fv := by
  have e1 : ¬ ("need" : Str) = "" := by decide +kernel
  have e2 : ¬ ("need" : Str) = "taken" := by decide +kernel
  unfold whyV needF
  cases hv : fv.2 with
  | none => exact decide_eq_false e1
  | some n =>
    show decide (("need" : Str) = if (tmOf fs fv.1).1 = ("" : Str) then _ else _) = (!decide ((tmOf fs fv.1).1 = ("" : Str)) && _)
    by_cases h0 : (tmOf fs fv.1).1 = ("" : Str)
    · rw [if_pos h0, decide_eq_true h0]
      refine decide_eq_false ?_
      by_cases h1 : ("single" : Str) ∈ (tmOf fs fv.1).2
      · rw [if_pos h1]
        cases ths.any (takenBy kind fv.1 n own) with
        | true => exact e2
        | false => exact e1
      · rw [if_neg h1]; exact e1
    · rw [if_neg h0, decide_eq_false h0, lives_need]
      cases livesB ths n (tmOf fs fv.1).1 with
      | true => exact decide_eq_false e1
      | false => exact decide_eq_true rfl
theorem why_taken {ths : List Th} {fs : List FT} {kind : Str} {own : Int} {fv : Str × Option Int} (hr : ¬ (tmOf fs fv.1).1 = ("" : Str) → ("single" : Str) ∉ (tmOf fs fv.1).2) : decide (("taken" : Str) = whyV ths (tmOf fs fv.1) kind fv.1 fv.2 own) = takeF ths fs kind own fv := by
  have e1 : ¬ ("taken" : Str) = "" := by decide +kernel
  have e2 : ¬ ("taken" : Str) = "need" := by decide +kernel
  unfold whyV takeF
  cases hv : fv.2 with
  | none => exact decide_eq_false e1
  | some n =>
    show decide (("taken" : Str) = if (tmOf fs fv.1).1 = ("" : Str) then _ else _) = (decide (("single" : Str) ∈ (tmOf fs fv.1).2) && _)
    by_cases h0 : (tmOf fs fv.1).1 = ("" : Str)
    · rw [if_pos h0]
      by_cases h1 : ("single" : Str) ∈ (tmOf fs fv.1).2
      · rw [if_pos h1, decide_eq_true h1]
        cases ths.any (takenBy kind fv.1 n own) with
        | true => exact decide_eq_true rfl
        | false => exact decide_eq_false e1
      · rw [if_neg h1, decide_eq_false h1]; exact decide_eq_false e1
    · rw [if_neg h0, lives_need, decide_eq_false (hr h0)]
      cases livesB ths n (tmOf fs fv.1).1 with
      | true => exact decide_eq_false e1
      | false => exact decide_eq_false e2
theorem mem_any {x : Str} {l : List Str} : decide (x ∈ l) = l.any fun y => decide (x = y) := by
  refine beq_of ?_
  rw [decide_eq_true_eq, List.any_eq_true]
  exact ⟨fun h => ⟨x, h, decide_eq_true rfl⟩, fun ⟨y, hy, e⟩ => by rw [of_decide_eq_true e]; exact hy⟩
theorem any_congr' {α : Type} {f g : α → Bool} : ∀ {l : List α}, (∀ x ∈ l, f x = g x) → l.any f = l.any g
  | [], _ => rfl
  | a :: l, h => by rw [List.any_cons, List.any_cons, h a List.mem_cons_self, any_congr' fun x m => h x (List.mem_cons_of_mem _ m)]
theorem first_eq {ths : List Th} {fs : List FT} {kind : Str} {vals : Vals_} {own : Int} (hr : ∀ fv ∈ vals, ¬ (tmOf fs fv.1).1 = ("" : Str) → ("single" : Str) ∉ (tmOf fs fv.1).2) :
    firstW ths fs kind vals own = if vals.any (needF ths fs) = true then ("need" : Str) else if vals.any (takeF ths fs kind own) = true then "taken" else "" := by
  unfold firstW pickW
  have e1 : decide (("need" : Str) ∈ whysL ths fs kind vals own) = vals.any (needF ths fs) := by
    rw [mem_any]
    unfold whysL
    rw [List.any_map]
    exact any_congr' fun fv _ => why_need
  have e2 : decide (("taken" : Str) ∈ whysL ths fs kind vals own) = vals.any (takeF ths fs kind own) := by
    rw [mem_any]
    unfold whysL
    rw [List.any_map]
    exact any_congr' fun fv m => why_taken (hr fv m)
  rw [← e1, ← e2]
  simp
def fillL (vals : Vals_) : Vals_ := vals.filter fun fv => fv.2.isSome
theorem fill_any {vals : Vals_} {f : Str × Option Int → Bool} (h : ∀ fv, fv.2 = none → f fv = false) : (fillL vals).any f = vals.any f := by
  unfold fillL
  induction vals with
  | nil => rfl
  | cons x vals ih =>
    cases e : x.2 with
    | none =>
      rw [List.filter_cons_of_neg (by rw [e]; simp), List.any_cons, h x e, ih, Bool.false_or]
    | some n =>
      rw [List.filter_cons_of_pos (by rw [e]; rfl), List.any_cons, List.any_cons, ih]
theorem ref_of {kn : Kn} {kind : Str} {fs : List FT} (hN : KnOk kn) (hf : kfind kn kind = some fs) {x : Str} (h : ∃ tm, ffind fs x = some tm) : ¬ (tmOf fs x).1 = ("" : Str) → ("single" : Str) ∉ (tmOf fs x).2 := by
  obtain ⟨tm, e⟩ := h
  have e2 : tmOf fs x = tm := by unfold tmOf; rw [e]; rfl
  rw [e2]
  unfold ffind at e
  cases q : fs.find? (fun e => decide (e.1 = x)) with
  | none => rw [q] at e; cases e
  | some y =>
    rw [q] at e
    have e : y.2 = tm := Option.some.inj e
    rw [← e]
    exact hN.ref _ _ hf y (List.mem_of_find?_eq_some q)
theorem ok_Outside__why_not_bear {f : Addr} {fd : FuncData} (F : Fun K "_why_not_bear" "Outside._why_not_bear" s_Outside__why_not_bear f fd) (T : OTxt P w K mg C pC pD pN eC eD nC nD) (c__fits : C8.Cal P w K mg base 1 "_fits" (spFits K) [])
    {f1 f2 : Addr} {fd1 fd2 : FuncData} (m__lives : Meth K C "_lives" f1) (G__lives : FnOk P w K mg base CX0 1 f1 fd1 ["self", "id_of_thing", "kind"] (spLives K C)) (b__lives : Binds K fd1 ["self", "id_of_thing", "kind"] [])
    (m__is_borne : Meth K C "_is_borne" f2) (G__is_borne : FnOk P w K mg base CX0 1 f2 fd2 ["self", "id_of_thing", "kind", "field", "value"] (spBorne K C)) (b__is_borne : Binds K fd2 ["self", "id_of_thing", "kind", "field", "value"] []) :
    FnOk P w K mg base CX0 2 f fd ["self", "id_of_thing", "kind", "values"] (spBear K C) := by
  refine F.ok sc_Outside__why_not_bear (fun vs H Q E h => ?_) (fun cdv A outer s H vs Q E hr h => ?_)
  · obtain ⟨B, O, kn, own, kind, va, vals, fs, rfl, _⟩ := h
    rfl
  · obtain ⟨B, O, kn, own, kind, va, vals, fs, rfl, hO, hK, hf, ⟨ps, hsq, pp⟩, hlen, hH, k⟩ := h
    have hu := hu_of hr
    refine ⟨_, (pss_cons (ps_set (i := 4) sc_Outside__why_not_bear.nd rfl (Or.inl rfl) (pe_dget hu (pe_fld (pv 0) rfl) (pv 2) (fun _ _ => rfl)))
    (pss_cons (ps_for PassesOwn.never rfl (pi_tup (pv 3)) (pg_tup (by rfl) (pgs_cons (pg_name (i := 5) sc_Outside__why_not_bear.nd rfl (Or.inl rfl)) (pgs_cons (pg_name (i := 6) sc_Outside__why_not_bear.nd rfl (Or.inl rfl)) pgs_nil)))
      (pss_one (ps_if (pt_not (pt_val (C8.pe_c c__fits hr (by first | decide | omega) rfl (pa_cons (pv 6) (pa_cons (pe_dget hu (pv 4) (pv 5) (fun _ _ => rfl)) pa_nil)))))
        (pss_one (ps_ret pe_str))
        pss_nil)))
    (pss_cons (ps_setLc (i := 7) rfl sc_Outside__why_not_bear.nd rfl rfl (sw_true rfl rfl rfl (by decide +kernel)) (own := [("pair", 11)]) (pi_tup (pv 3)) (blkOk_by (own := [("pair", 11)]) (N := N_Outside__why_not_bear) (sc := defScope s_Outside__why_not_bear) (by decide +kernel)) (fun _ _ _ _ _ => (pg_name (i := 11) sc_Outside__why_not_bear.nd rfl (Or.inl rfl))) (fun _ _ _ _ _ => (pts_one (pt_cmpR op_notN (pe_ix (ix_tup : IxR _ (rIxT K)) (pv 11) pe_int (fun _ _ => rfl)) pe_non (nomark _)))) (fun _ _ _ _ _ => (pv 11)))
    (pss_cons (ps_for PassesOwn.never rfl (pi_list (pv 7)) (pg_tup (by rfl) (pgs_cons (pg_name (i := 5) sc_Outside__why_not_bear.nd rfl (Or.inl rfl)) (pgs_cons (pg_name (i := 6) sc_Outside__why_not_bear.nd rfl (Or.inl rfl)) pgs_nil)))
      (pss_cons (ps_asg (pe_dget hu (pv 4) (pv 5) (fun _ _ => rfl)) (pg_tup (by rfl) (pgs_cons (pg_name (i := 8) sc_Outside__why_not_bear.nd rfl (Or.inl rfl)) (pgs_cons (pg_name (i := 9) sc_Outside__why_not_bear.nd rfl (Or.inl rfl)) pgs_nil))))
      (pss_one (ps_if (PW.pt (pw_and (pt_cmpR op_ne (pv 8) pe_str (nomark _)) (pw_and1 (pt_not (pt_val (pe_meth (pv 0) T.cl m__lives G__lives (hr.mono (by decide)) b__lives .nil pass0 (pa_cons (pv 6) (pa_cons (pv 8) pa_nil))))))))
        (pss_one (ps_ret pe_str))
        pss_nil))))
    (pss_cons (ps_for PassesOwn.never rfl (pi_list (pv 7)) (pg_tup (by rfl) (pgs_cons (pg_name (i := 5) sc_Outside__why_not_bear.nd rfl (Or.inl rfl)) (pgs_cons (pg_name (i := 6) sc_Outside__why_not_bear.nd rfl (Or.inl rfl)) pgs_nil)))
      (pss_cons (ps_asg (pe_dget hu (pv 4) (pv 5) (fun _ _ => rfl)) (pg_tup (by rfl) (pgs_cons (pg_name (i := 9) sc_Outside__why_not_bear.nd rfl (Or.inl rfl)) (pgs_cons (pg_name (i := 10) sc_Outside__why_not_bear.nd rfl (Or.inl rfl)) pgs_nil))))
      (pss_one (ps_if (PW.pt (pw_and (pt_cmpR op_in_seq pe_str (pv 10) (by rfl)) (pw_and1 (pt_val (pe_meth (pv 0) T.cl m__is_borne G__is_borne (hr.mono (by decide)) b__is_borne .nil pass0 (pa_cons (pv 1) (pa_cons (pv 2) (pa_cons (pv 5) (pa_cons (pv 6) pa_nil)))))))))
        (pss_one (ps_ret pe_str))
        pss_nil))))
    (pss_one (ps_ret pe_str))))))), ?_⟩
    have lp : ps.length = vals.length := pp.length
    have refl : Same H H := fun _ _ e => e
    obtain ⟨d, fvs, _, gk1, hd, hF⟩ := hO.kn.get hf
    unfold bearW at k
    rw [first_eq fun fv m => ref_of hK.k hf (hH fv m)] at k
    refine ⟨_, rfl, B.a, C, B.dx, _, _, rfl, hO.at_, T.cl, T.n_kinds, lk_kinds, _, rfl, B.kd, _, rfl, gk1, ?_⟩
    -- forms
    refine ⟨_, rfl, va, rfl, ⟨_, hsq⟩, for_tup (K := K) (a := va) (xs := ps.map V.ref) (fun i σ H' => ∃ (e5 e6 : Option V), σ = [some (.ref B.a), some (.int own), some (.str kind), some (.ref va), some (.ref d), e5, e6, none, none, none, none, none] ∧ H' = H ∧ (vals.take i).all (fun fv => formB (tmOf fs fv.1) fv.2) = true)
      ⟨none, none, rfl, rfl, rfl⟩ (fun i σ H' _ ⟨_, _, _, e, _⟩ => by rw [e]; exact hsq) ?_ ?_⟩
    · rintro i x σ H1 hx ⟨e5, e6, rfl, rfl, hall⟩
      obtain ⟨p, hp, rfl⟩ : ∃ p, ps[i]? = some p ∧ V.ref p = x := by
        rw [List.getElem?_map] at hx
        cases e : ps[i]? with
        | none => rw [e] at hx; cases hx
        | some n => rw [e] at hx; exact ⟨n, rfl, Option.some.inj hx⟩
      obtain ⟨fv, hfv, sq⟩ := par_at pp hp
      have hmv : fv ∈ vals := List.mem_of_getElem? hfv
      obtain ⟨a, m, g2, sa, sm⟩ := fld_get hd hF (hH.tm hmv)
      refine ⟨p, _, rfl, sq, rfl, _, _, rfl, _, _, rfl, rfl, ?_⟩
      refine ⟨_, rfl, _, rfl, _, rfl, d, _, rfl, g2, fv.2, a, m, tmOf fs fv.1, rfl, sa, sm, _, rfl, ?_⟩
      cases hb : formB (tmOf fs fv.1) fv.2 with
      | false =>
        have hg : goodB fs vals = false := by
          unfold goodB
          rw [List.all_eq_false]
          exact ⟨fv, hmv, by rw [hb]; simp⟩
        rw [hg] at k
        exact iteT (k H1 refl)
      | true =>
        refine iteF ⟨_, _, rfl, rfl, ?_⟩
        rw [List.take_add_one, hfv, List.all_append, hall]
        simpa using hb
    · rintro σ H1 ⟨e5, e6, rfl, rfl, hall⟩
      rw [List.length_map, lp, List.take_length] at hall
      have hg : goodB fs vals = true := hall
      rw [hg] at k
      have k : ∀ H', Same H1 H' → Q (.str (if vals.any (needF O.things fs) = true then ("need" : Str) else if vals.any (takeF O.things fs kind own) = true then "taken" else "")) H' := k
      -- filled
      refine ⟨_, rfl, va, rfl, ⟨_, hsq⟩, fun D hD => lc_tup (K := K) (a := va) (xs := ps.map V.ref) (fun i H' => Same H1 H' ∧ ∃ as : List Addr, H' D = some (.lst (as.map V.ref)) ∧ Paired (fun p (fv : Str × Option Int) => SqT K H' p [.str fv.1, oV fv.2]) as (fillL (vals.take i)))
        ⟨same_upd hD, [], upd_same, .nil⟩ (fun i H' _ h => same_seqT h.1 hsq) ?_ ?_⟩
      · rintro i x H2 hx ⟨s2, as, hl, hP⟩
        obtain ⟨p, hp, rfl⟩ : ∃ p, ps[i]? = some p ∧ V.ref p = x := by
          rw [List.getElem?_map] at hx
          cases e : ps[i]? with
          | none => rw [e] at hx; cases hx
          | some n => rw [e] at hx; exact ⟨n, rfl, Option.some.inj hx⟩
        obtain ⟨fv, hfv, sq⟩ := par_at pp hp
        have hi := (List.getElem?_eq_some_iff.mp hp).1
        have et : fillL (vals.take (i + 1)) = fillL (vals.take i) ++ fillL [fv] := by
          unfold fillL
          rw [List.take_add_one, hfv, List.filter_append]
          rfl
        have la : as.length ≤ i := by
          have h1 := hP.length
          have h2 := List.length_filter_le (fun fv : Str × Option Int => fv.2.isSome) (vals.take i)
          have h3 : (fillL (vals.take i)).length ≤ (vals.take i).length := h2
          rw [List.length_take] at h3
          omega
        refine ⟨rfl, _, rfl, p, _, _, _, rfl, rfl, same_seqT s2 sq, atI_nat (j := 1) rfl, rfl, _, rfl, ?_⟩
        cases hv : fv.2 with
        | none =>
          refine iteF ⟨s2, as, hl, ?_⟩
          rw [et]
          have : fillL [fv] = [] := by unfold fillL; simp [hv]
          rw [this, List.append_nil]
          exact hP
        | some n =>
          have kp : Kp H2 (upd H2 D (.lst (as.map V.ref ++ [.ref p]))) := .put hl (fun z => z)
          refine iteT ⟨_, rfl, _, hl, ?_, fun b o z => ?_, as ++ [p], ?_, ?_⟩
          · rw [List.length_map]
            exact Nat.lt_of_lt_of_le (show as.length < 60 by omega) (by decide)
          · rw [upd_ne (ne_of_none z hD)]
            exact s2 _ _ z
          · rw [upd_same, List.map_append]; rfl
          · rw [et]
            have : fillL [fv] = [fv] := by unfold fillL; simp [hv]
            rw [this]
            exact par_snoc (par_imp (fun _ _ q => sq_kp q kp) hP) (sq_kp (same_seqT s2 sq) kp)
      · rintro H2 ⟨s2, as, hl, hP⟩
        rw [List.length_map, lp, List.take_length] at hP
        have hO2 := hO.same s2
        have hd2 := s2 _ _ hd
        have hF2 := fld_kp hF (.of_same s2)
        have la : as.length = (fillL vals).length := hP.length
        have memF : ∀ fv ∈ fillL vals, fv ∈ vals ∧ ∃ n, fv.2 = some n := fun fv m => by
          obtain ⟨m1, m2⟩ := List.mem_filter.mp m
          exact ⟨m1, Option.isSome_iff_exists.mp m2⟩
        -- needs
        refine ⟨_, rfl, D, rfl, ⟨_, SqL.of hl⟩, for_list (K := K) (a := D) (xs := as.map V.ref) (fun i σ H' => ∃ (e5 e6 e8 e9 : Option V), σ = [some (.ref B.a), some (.int own), some (.str kind), some (.ref va), some (.ref d), e5, e6, some (.ref D), e8, e9, none, none] ∧ H' = H2 ∧ ((fillL vals).take i).any (needF O.things fs) = false)
          ⟨e5, e6, none, none, rfl, rfl, rfl⟩ (fun i σ H' _ ⟨_, _, _, _, _, e, _⟩ => by rw [e]; exact SqL.of hl) ?_ ?_⟩
        · rintro i x σ H3 hx ⟨e5, e6, e8, e9, rfl, rfl, hno⟩
          obtain ⟨p, hp, rfl⟩ : ∃ p, as[i]? = some p ∧ V.ref p = x := by
            rw [List.getElem?_map] at hx
            cases e : as[i]? with
            | none => rw [e] at hx; cases hx
            | some n => rw [e] at hx; exact ⟨n, rfl, Option.some.inj hx⟩
          obtain ⟨fv, hfv, sq⟩ := par_at hP hp
          have hmf := List.mem_of_getElem? hfv
          obtain ⟨hmv, n, hn⟩ := memF fv hmf
          obtain ⟨a, m, g2, sa, sm⟩ := fld_get hd2 hF2 (hH.tm hmv)
          refine ⟨p, _, rfl, sq, rfl, _, _, rfl, _, _, rfl, rfl, ?_⟩
          refine ⟨_, rfl, _, rfl, d, _, rfl, g2, a, _, rfl, sa, rfl, _, _, rfl, _, _, rfl, rfl, ?_⟩
          refine ⟨_, rfl, rfl, _, rfl, ?_⟩
          show (if (!decide (V.str (tmOf fs fv.1).1 = V.str "")) = true then _ else _ : Prop)
          rw [deq]
          have next : needF O.things fs fv = false → ((fillL vals).take (i + 1)).any (needF O.things fs) = false := fun q => by
            rw [List.take_add_one, hfv, List.any_append, hno]
            simpa using q
          by_cases h0 : (tmOf fs fv.1).1 = ("" : Str)
          · rw [decide_eq_true h0]
            exact iteF (iteF ⟨_, _, _, _, rfl, rfl, next (by unfold needF; rw [hn, decide_eq_true h0]; rfl)⟩)
          · rw [decide_eq_false h0]
            refine iteT ⟨_, rfl, B.a, B.dx, _, rfl, hO2.at_, lk_no (by decide +kernel), _, rfl, _, rfl, B, O, kn, n, (tmOf fs fv.1).1, by rw [hn]; rfl, hO2.r, _, rfl, ?_⟩
            cases hlv : livesB O.things n (tmOf fs fv.1).1 with
            | true => exact iteF ⟨_, _, _, _, rfl, rfl, next (by unfold needF; rw [hn]; show (!decide _ && !livesB _ _ _) = false; rw [hlv, Bool.not_true, Bool.and_false])⟩
            | false =>
              have hany : vals.any (needF O.things fs) = true := List.any_eq_true.mpr ⟨fv, hmv, by unfold needF; rw [hn]; show (!decide _ && !livesB _ _ _) = true; rw [hlv, decide_eq_false h0]; rfl⟩
              rw [hany] at k
              exact iteT (k H3 s2)
        · rintro σ H3 ⟨e5, e6, e8, e9, rfl, rfl, hno⟩
          rw [List.length_map, la, List.take_length, fill_any (fun fv e => by unfold needF; rw [e])] at hno
          rw [hno] at k
          have k : ∀ H', Same H1 H' → Q (.str (if vals.any (takeF O.things fs kind own) = true then ("taken" : Str) else "")) H' := k
          refine ⟨_, rfl, D, rfl, ⟨_, SqL.of hl⟩, for_list (K := K) (a := D) (xs := as.map V.ref) (fun i σ H' => ∃ (e5 e6 e8 e9 e10 : Option V), σ = [some (.ref B.a), some (.int own), some (.str kind), some (.ref va), some (.ref d), e5, e6, some (.ref D), e8, e9, e10, none] ∧ Same H3 H' ∧ ((fillL vals).take i).any (takeF O.things fs kind own) = false)
            ⟨e5, e6, e8, e9, none, rfl, fun _ _ z => z, rfl⟩ (fun i σ H' _ ⟨_, _, _, _, _, _, e, _⟩ => SqL.of (e _ _ hl)) ?_ ?_⟩
          · rintro i x σ H4 hx ⟨e5, e6, e8, e9, e10, rfl, s4, hnt⟩
            obtain ⟨p, hp, rfl⟩ : ∃ p, as[i]? = some p ∧ V.ref p = x := by
              rw [List.getElem?_map] at hx
              cases e : as[i]? with
              | none => rw [e] at hx; cases hx
              | some n => rw [e] at hx; exact ⟨n, rfl, Option.some.inj hx⟩
            obtain ⟨fv, hfv, sq⟩ := par_at hP hp
            have hmf := List.mem_of_getElem? hfv
            obtain ⟨hmv, n, hn⟩ := memF fv hmf
            have hO4 := hO2.same s4
            obtain ⟨a, m, g2, sa, sm⟩ := fld_get (s4 _ _ hd2) (fld_kp hF2 (.of_same s4)) (hH.tm hmv)
            have htx : PyData.strOk fv.1 = true := hK.k.txt _ _ hf _ (ffind_in (hH.tm hmv))
            refine ⟨p, _, rfl, same_seqT s4 sq, rfl, _, _, rfl, _, _, rfl, rfl, ?_⟩
            refine ⟨_, rfl, _, rfl, d, _, rfl, g2, a, _, rfl, sa, rfl, _, _, rfl, _, _, rfl, rfl, ?_⟩
            refine ⟨_, rfl, m, _, rfl, Or.inr sm, rfl, flat_strs _, _, rfl, ?_⟩
            show (if inV _ _ = true then _ else _ : Prop)
            rw [mem_names]
            have next : ∀ H5, Same H4 H5 → takeF O.things fs kind own fv = false → Same H3 H5 ∧ ((fillL vals).take (i + 1)).any (takeF O.things fs kind own) = false := fun H5 s5 q => by
              refine ⟨s4.trans s5, ?_⟩
              rw [List.take_add_one, hfv, List.any_append, hnt]
              simpa using q
            have r4 : Same H4 H4 := fun _ _ z => z
            by_cases h0 : ("single" : Str) ∈ (tmOf fs fv.1).2
            · rw [decide_eq_true h0]
              refine iteT ⟨_, rfl, B.a, B.dx, _, rfl, hO4.at_, lk_no (by decide +kernel), _, rfl, _, rfl, _, rfl, _, rfl, B, O, kn, own, kind, fv.1, n, by rw [hn]; rfl, hO4, hK, htx, fun H5 s5 => ⟨_, rfl, ?_⟩⟩
              cases hb : O.things.any (takenBy kind fv.1 n own) with
              | false =>
                obtain ⟨z1, z2⟩ := next H5 s5 (by unfold takeF; rw [hn]; show (_ && O.things.any _) = false; rw [hb, Bool.and_false])
                exact iteF ⟨_, _, _, _, _, rfl, z1, z2⟩
              | true =>
                have hany : vals.any (takeF O.things fs kind own) = true := List.any_eq_true.mpr ⟨fv, hmv, by unfold takeF; rw [hn]; show (decide _ && O.things.any _) = true; rw [hb, decide_eq_true h0]; rfl⟩
                rw [hany] at k
                exact iteT (k H5 (s2.trans (s4.trans s5)))
            · rw [decide_eq_false h0]
              obtain ⟨z1, z2⟩ := next H4 r4 (by unfold takeF; rw [hn, decide_eq_false h0]; rfl)
              exact iteF (iteF ⟨_, _, _, _, _, rfl, z1, z2⟩)
          · rintro σ H4 ⟨e5, e6, e8, e9, e10, rfl, s4, hnt⟩
            rw [List.length_map, la, List.take_length, fill_any (fun fv e => by unfold takeF; rw [e])] at hnt
            rw [hnt] at k
            exact k H4 (s2.trans s4)
end
end K07
namespace K07
open PySem PySem.Spec PyProof.Rows L2 LB OW
section
variable {P : Program} {w : World} {K : PySem.W.Frag} {mg : Str → Option Value} {base : Heap} {C pC pD pN : Addr} {eC eD : Array DictEntry} {nC nD : Nat}
theorem kfind_mem {kn : Kn} {k : Str} {fs : List FT} (h : kfind kn k = some fs) : k ∈ kn.map (·.1) := by
  unfold kfind at h
  cases e : kn.find? (fun e => decide (e.1 = k)) with
  | none => rw [e] at h; cases h
  | some x =>
    have h1 := List.mem_of_find?_eq_some e
    have h2 : x.1 = k := by have := List.find?_some e; simpa using this
    rw [← h2]
    exact List.mem_map_of_mem h1
theorem kn_keys {H : Hp} {kd : Addr} {ds : List Addr} {kn : Kn} (h : KndAt K H kd ds kn) : ∃ kvs, H kd = some (.dK kvs) ∧ kvs.map (fun kv => kV kv.1) = (kn.map (·.1)).map V.str := by
  obtain ⟨kvs, a, rfl⟩ := h.top
  refine ⟨_, a, ?_⟩
  have hl := h.len
  clear a h
  induction kn generalizing ds with
  | nil => rfl
  | cons e kn ih =>
    cases ds with
    | nil => simp at hl
    | cons d ds =>
      rw [List.zip_cons_cons, List.map_cons, List.map_cons, List.map_cons, List.map_cons, ih (by simpa using hl)]
      rfl
theorem ok_Outside__why_not_make {f : Addr} {fd : FuncData} (F : Fun K "_why_not_make" "Outside._why_not_make" s_Outside__why_not_make f fd) (T : OTxt P w K mg C pC pD pN eC eD nC nD)
    {f1 : Addr} {fd1 : FuncData} (m__why_not_bear : Meth K C "_why_not_bear" f1) (G__why_not_bear : FnOk P w K mg base CX0 2 f1 fd1 ["self", "id_of_thing", "kind", "values"] (spBear K C)) (b__why_not_bear : Binds K fd1 ["self", "id_of_thing", "kind", "values"] []) :
    FnOk P w K mg base CX0 3 f fd ["self", "kind", "values"] (spWhyMake K C) := by
  refine F.ok sc_Outside__why_not_make (fun vs H Q E h => ?_) (fun cdv A outer s H vs Q E hr h => ?_)
  · obtain ⟨B, O, kn, kind, va, vals, fs, rfl, _⟩ := h
    rfl
  · obtain ⟨B, O, kn, kind, va, vals, fs, rfl, hO, hK, hf, hV, hlen, hH, k⟩ := h
    have hu := hu_of hr
    refine ⟨_, (pss_cons (ps_if (pt_cmpR op_notIn_seq (pv 1) (pe_callTy (call_list_dK rfl) (by rfl) T.b_list (by decide +kernel) (pa_cons (pe_fld (pv 0) rfl) pa_nil)) (by rfl))
      (pss_one (ps_ret pe_str))
      pss_nil)
    (pss_cons (ps_if (pt_cmpR (op_neD hr.units) (pe_lc (g := (gTup K 2 (gCons (gName 3) (gCons (gName 4) gNil)))) (own := [("field", 3), ("_", 4)]) rfl sc_Outside__why_not_make.nd (pi_tup (pv 2)) (blkOk_by (own := [("field", 3), ("_", 4)]) (N := N_Outside__why_not_make) (sc := defScope s_Outside__why_not_make) (by decide +kernel)) (fun _ _ _ _ _ => (pg_tup (by rfl) (pgs_cons (pg_name (i := 3) sc_Outside__why_not_make.nd rfl (Or.inl rfl)) (pgs_cons (pg_name (i := 4) sc_Outside__why_not_make.nd rfl (Or.inl rfl)) pgs_nil)))) (fun _ _ _ _ _ => pts_nil) (fun _ _ _ _ _ => (pv 3))) (pe_callB (call_sortedD rfl) (by rfl) T.b_sorted (by decide +kernel) (pa_cons (pe_dget hu (pe_fld (pv 0) rfl) (pv 1) (fun _ _ => rfl)) pa_nil)) (nomark _))
      (pss_one (ps_ret pe_str))
      pss_nil)
    (pss_one (ps_ret (pe_meth (pv 0) T.cl m__why_not_bear G__why_not_bear (hr.mono (by decide)) b__why_not_bear .nil pass0 (pa_cons pe_int (pa_cons (pv 1) (pa_cons (pv 2) pa_nil)))))))), ?_⟩
    have hN := hK.k
    have ek : makeW kn (pw O) none none kind vals = if vals.map (·.1) = fs.map (·.1) then bearW O.things fs kind vals 0 else "form" := by
      unfold makeW
      rw [fsOf_some hf]
      rfl
    rw [ek] at k
    obtain ⟨ps, hsq, pp⟩ := hV
    have lp : ps.length = vals.length := pp.length
    obtain ⟨kvs, hkd, hkk⟩ := kn_keys hO.kn
    refine ⟨_, rfl, _, rfl, B.a, C, B.dx, _, _, rfl, hO.at_, T.cl, T.n_kinds, lk_kinds, B.kd, kvs, rfl, hkd, fun l nl => ?_⟩
    have sl := same_upd (o := HO.lst (kvs.map fun kv => kV kv.1)) nl
    have hl := upd_same (H := H) (a := l) (o := HO.lst (kvs.map fun kv => kV kv.1))
    rw [hkk] at sl hl ⊢
    generalize upd H l (.lst ((kn.map (·.1)).map V.str)) = H1 at sl hl
    refine ⟨l, _, rfl, Or.inl (SqL.of hl), rfl, flat_strs _, _, rfl, ?_⟩
    show (if (!inV _ _) = true then _ else _ : Prop)
    rw [mem_names, decide_eq_true (kfind_mem hf)]
    refine iteF ?_
    have hO1 := hO.same sl
    have hsq1 := same_seqT sl hsq
    obtain ⟨d, fvs, _, gk1, hd, hF⟩ := hO1.kn.get hf
    refine ⟨_, rfl, va, rfl, ⟨_, hsq1⟩, fun D hD => lc_tup (K := K) (a := va) (xs := ps.map V.ref) (fun i H' => H' = upd H1 D (.lst (((vals.take i).map (·.1)).map V.str))) rfl (fun i H' _ h => by rw [h]; exact same_seqT (same_upd hD) hsq1) ?_ ?_⟩
    · rintro i x H2 hx rfl
      obtain ⟨p, hp, rfl⟩ : ∃ p, ps[i]? = some p ∧ V.ref p = x := by
        rw [List.getElem?_map] at hx
        cases e : ps[i]? with
        | none => rw [e] at hx; cases hx
        | some n => rw [e] at hx; exact ⟨n, rfl, Option.some.inj hx⟩
      obtain ⟨fv, hfv, sq⟩ := par_at pp hp
      have hi := (List.getElem?_eq_some_iff.mp hp).1
      refine ⟨p, _, rfl, same_seqT (sl.trans (same_upd hD)) sq, rfl, _, _, rfl, _, _, rfl, rfl, rfl, _, rfl, _, upd_same, ?_, ?_⟩
      · rw [List.length_map, List.length_map, List.length_take]
        exact Nat.lt_of_le_of_lt (show min i _ ≤ 60 by omega) (by decide)
      · rw [upd_upd, List.take_add_one, hfv]
        simp
    · rintro H2 rfl
      rw [List.length_map, lp, List.take_length]
      have sD := same_upd (o := HO.lst ((vals.map (·.1)).map V.str)) hD
      have hO2 := hO1.same sD
      obtain ⟨d', fvs', _, gk1', hd', hF'⟩ := hO2.kn.get hf
      refine ⟨_, rfl, B.a, C, B.dx, _, _, rfl, hO2.at_, T.cl, T.n_kinds, lk_kinds, _, rfl, B.kd, _, rfl, gk1', d', fvs', fs.map (·.1), rfl, .inl hd', fld_keys hF', by rw [List.length_map]; have := hN.few _ _ hf; omega, fun ys p hperm hsrt np => ?_⟩
      have eys := hN.srt _ _ hf ys hperm hsrt
      subst eys
      have sp := same_upd (o := HO.lst ((fs.map (·.1)).map V.str)) np
      refine ⟨.list ((vals.map (·.1)).map .str), .list ((fs.map (·.1)).map .str), .lst (SqL.of (sp _ _ upd_same)) (dps_strs _), .lst (SqL.of upd_same) (dps_strs _), ?_, ?_, _, rfl, ?_⟩
      · refine shaped_strs fun x hx => ?_
        obtain ⟨fv, hm, rfl⟩ := List.mem_map.mp hx
        exact hN.txt _ _ hf _ (ffind_in (hH.tm hm))
      · exact shaped_strs fun x hx => hN.txt _ _ hf _ hx
      · rw [eqv_strs]
        have s3 := sl.trans (sD.trans sp)
        have hO3 := hO2.same sp
        generalize upd (upd H1 D (.lst ((vals.map (·.1)).map V.str))) p (.lst ((fs.map (·.1)).map V.str)) = H3 at s3 hO3
        by_cases hn : vals.map (·.1) = fs.map (·.1)
        · rw [decide_eq_true hn]
          simp only [hn, if_true] at k
          refine iteF ⟨_, rfl, B.a, B.dx, _, rfl, hO3.at_, lk_no (by decide +kernel), _, rfl, _, rfl, B, O, kn, 0, kind, va, vals, fs, rfl, hO3, hK, hf, ⟨ps, same_seqT s3 hsq, par_imp (fun _ _ q => same_seqT s3 q) pp⟩, hlen, hH, fun H' s' => k H' (s3.trans s')⟩
        · rw [decide_eq_false hn]
          simp only [hn, if_false] at k
          exact iteT (k H3 s3)
theorem ok_Outside__why_not_change {f : Addr} {fd : FuncData} (F : Fun K "_why_not_change" "Outside._why_not_change" s_Outside__why_not_change f fd) (T : OTxt P w K mg C pC pD pN eC eD nC nD)
    {f1 f2 : Addr} {fd1 fd2 : FuncData} (m__why_not_bear : Meth K C "_why_not_bear" f1) (G__why_not_bear : FnOk P w K mg base CX0 2 f1 fd1 ["self", "id_of_thing", "kind", "values"] (spBear K C)) (b__why_not_bear : Binds K fd1 ["self", "id_of_thing", "kind", "values"] [])
    (m__why_not_reach : Meth K C "_why_not_reach" f2) (G__why_not_reach : FnOk P w K mg base CX0 1 f2 fd2 ["self", "id_of_thing", "version"] (spReach K C)) (b__why_not_reach : Binds K fd2 ["self", "id_of_thing", "version"] []) :
    FnOk P w K mg base CX0 3 f fd ["self", "id_of_thing", "version", "field", "value"] (spWhyChange K C) := by
  refine F.ok sc_Outside__why_not_change (fun vs H Q E h => ?_) (fun cdv A outer s H vs Q E hr h => ?_)
  · obtain ⟨B, O, kn, i, ver, field, v, rfl, _⟩ := h
    rfl
  · obtain ⟨B, O, kn, one, ver, field, v, rfl, hO, hK, k⟩ := h
    have hu := hu_of hr
    refine ⟨_, (pss_cons (ps_set (i := 5) sc_Outside__why_not_change.nd rfl (Or.inl rfl) (pe_meth (pv 0) T.cl m__why_not_reach G__why_not_reach (hr.mono (by decide)) b__why_not_reach .nil pass0 (pa_cons (pv 1) (pa_cons (pv 2) pa_nil))))
    (pss_cons (ps_if (pt_cmpR op_ne (pv 5) pe_str (nomark _))
      (pss_one (ps_ret (pv 5)))
      pss_nil)
    (pss_cons (ps_set (i := 6) sc_Outside__why_not_change.nd rfl (Or.inl rfl) (pe_ix ix_tup (pe_dget hu (pe_fld (pv 0) rfl) (pv 1) (fun _ _ => rfl)) pe_int (fun _ _ => rfl)))
    (pss_cons (ps_set (i := 7) sc_Outside__why_not_change.nd rfl (Or.inl rfl) (pe_dget hu (pe_fld (pv 0) rfl) (pv 6) (fun _ _ => rfl)))
    (pss_cons (ps_if (PW.pt (pw_or (pt_cmp (pc_dnotin hu (pv 3) (pv 7))) (pw_or1 (pt_cmpR op_in_seq pe_str (pe_ix ix_tup (pe_dget hu (pv 7) (pv 3) (fun _ _ => rfl)) pe_int (fun _ _ => rfl)) (by rfl)))))
      (pss_one (ps_ret pe_str))
      pss_nil)
    (pss_one (ps_ret (pe_meth (pv 0) T.cl m__why_not_bear G__why_not_bear (hr.mono (by decide)) b__why_not_bear .nil pass0 (pa_cons (pv 1) (pa_cons (pv 6) (pa_cons (pe_tup (pa_cons (pe_tup (pa_cons (pv 3) (pa_cons (pv 4) pa_nil))) pa_nil)) pa_nil))))))))))), ?_⟩
    have refl : Same H H := fun _ _ e => e
    have hR := hO.r
    unfold changeW at k
    refine ⟨_, rfl, B.a, B.dx, _, rfl, hO.at_, lk_no (by decide +kernel), _, rfl, _, rfl, B, O, kn, one, ver, rfl, hR, ?_⟩
    refine ⟨_, rfl, rfl, _, rfl, ?_⟩
    show (if (!decide (V.str (otherW (pw O) none one ver) = V.str "")) = true then _ else _ : Prop)
    rw [deq]
    by_cases h0 : otherW (pw O) none one ver = ("" : Str)
    · rw [if_pos h0] at k
      rw [decide_eq_true h0]
      refine iteF ?_
      obtain ⟨t, ht⟩ : ∃ t, tfind O.things one = some t := by
        have h0 : ((match tfind O.things one with | none => ("gone" : Str) | some t => if staleB t ver = true then ("stale" : Str) else ("" : Str)) : Str) = ("" : Str) := h0
        cases e : tfind O.things one with
        | some t => exact ⟨t, rfl⟩
        | none => rw [e] at h0; exact absurd (show ("gone" : Str) = "" from h0) (by decide +kernel)
      have ht' : tfind (pw O).things one = some t := ht
      rw [ht'] at k
      have k : ∀ H', Same H H' → Q (.str (if changeForm (fsOf kn t.kind) field v = true then firstW O.things (fsOf kn t.kind) t.kind [(field, v)] one else "form")) H' := k
      obtain ⟨hm, _⟩ := tfind_some ht
      obtain ⟨fs, hf, hnm⟩ := hK.w.good t hm
      rw [fsOf_some hf] at k
      obtain ⟨ta, g3, va, tka, st, _⟩ := hR.thing ht
      obtain ⟨d, fvs, _, gk1, hd, hF⟩ := hO.kn.get hf
      refine ⟨_, rfl, B.a, C, B.dx, _, _, rfl, hO.at_, T.cl, T.n_things, lk_things, _, rfl, B.dT, _, rfl, g3, ta, _, _, _, rfl, rfl, st, atI_nat (j := 1) rfl, ?_⟩
      refine ⟨_, rfl, B.a, C, B.dx, _, _, rfl, hO.at_, T.cl, T.n_kinds, lk_kinds, _, rfl, B.kd, _, rfl, gk1, ?_⟩
      unfold changeForm at k
      cases hg : ffind fs field with
      | none =>
        rw [hg] at k
        exact ⟨_, rfl, _, rfl, d, _, rfl, fld_getN hd hF hg, _, rfl, iteT (iteT (k H refl))⟩
      | some tm =>
        rw [hg] at k
        have k : ∀ H', Same H H' → Q (.str (if (!decide (("fixed" : Str) ∈ tm.2) && formB tm v) = true then firstW O.things fs t.kind [(field, v)] one else "form")) H' := k
        obtain ⟨a, m, g2, sa, sm⟩ := fld_get hd hF hg
        refine ⟨_, rfl, _, rfl, d, _, rfl, g2, _, rfl, iteF ?_⟩
        refine ⟨_, rfl, _, rfl, d, _, rfl, g2, a, _, _, _, rfl, rfl, sa, atI_nat (j := 1) rfl, m, _, rfl, Or.inr sm, rfl, flat_strs _, _, rfl, ?_⟩
        show (if inV _ _ = true then _ else _ : Prop)
        rw [mem_names]
        have etm : tmOf fs field = tm := by unfold tmOf; rw [hg]; rfl
        by_cases hx : ("fixed" : Str) ∈ tm.2
        · rw [decide_eq_true hx] at k ⊢
          exact iteT (k H refl)
        · rw [decide_eq_false hx] at k ⊢
          refine iteF ⟨_, rfl, B.a, B.dx, _, rfl, hO.at_, lk_no (by decide +kernel), _, rfl, _, rfl, _, rfl, _, rfl, by show 2 ≤ sizeLine; decide, fun p np => ⟨by show 1 ≤ sizeLine; decide, fun q nq => ?_⟩⟩
          have s1 : Same H (upd (upd H p (.tup [.str field, oV v])) q (.tup [.ref p])) := (same_upd np).trans (same_upd nq)
          refine ⟨B, O, kn, one, t.kind, q, [(field, v)], fs, rfl, hO.same s1, hK, hf, ⟨[p], .of upd_same, .cons (.of (same_upd nq _ _ upd_same)) .nil⟩, by show 1 < 60; decide, fun fv hm => ?_, fun H' s2 => ?_⟩
          · rw [List.mem_singleton.mp hm]
            exact ⟨tm, hg⟩
          · have := k H' (s1.trans s2)
            have e : bearW O.things fs t.kind [(field, v)] one = if (true && formB tm v) = true then firstW O.things fs t.kind [(field, v)] one else "form" := by
              unfold bearW goodB
              rw [List.all_cons, List.all_nil, Bool.and_true, Bool.true_and]
              show (if formB (tmOf fs field) v = true then _ else _) = _
              rw [etm]
            rw [e]
            exact this
    · rw [if_neg h0] at k
      rw [decide_eq_false h0]
      exact iteT ⟨_, rfl, k H refl⟩
end
end K07
namespace K07
open PySem PySem.Spec PyProof.Rows L2 LB OW
section
variable {P : Program} {w : World} {K : PySem.W.Frag} {mg : Str → Option Value} {base : Heap}
theorem str_eq {a b : Str} : (decide (V.str a = V.str b)) = decide (a = b) := by
  by_cases h : a = b
  · rw [decide_eq_true h, decide_eq_true (show V.str a = V.str b by rw [h])]
  · rw [decide_eq_false h, decide_eq_false (fun q => h (V.str.inj q))]
theorem wOk_none {kn : Kn} {W : Wd} (h : WOk kn W) : tfind W.things W.nxt = none := by
  cases e : tfind W.things W.nxt with
  | none => rfl
  | some t =>
    obtain ⟨m, q⟩ := tfind_some e
    have := (h.low t m).2
    omega
theorem mom_put {D : Ends} {σ : L2.St} {H : Hp} {A : LA} {W : Wd} (hW : Lw K H A W) (h1 : σ[1]? = some (some (.ref A.w))) (q : D.nx σ (upd H A.w (.dK (wdK A { W with mom := W.mom + 1 })))) :
    sDPut (tVar 1) (tC (V.str "moment")) (tOp (rI0 fun i j => V.int (i + j)) (tDGet (tVar 1) (tC (V.str "moment"))) (tC (V.int 1))) D σ H :=
  ⟨_, h1, A.w, _, rfl, hW.r.g_moment, _, _, rfl, rfl, _, h1, A.w, _, rfl, wput hW.w put_mom, q⟩
theorem ans_done {H : Hp} {p : Addr} (np : H p = none) : AnsAt K (upd H p (.tup [.str "done"])) (.ref p) "" := ⟨p, rfl, .of upd_same⟩
theorem ans_ref {H : Hp} {p : Addr} {why : Str} (h : ¬ why = ("" : Str)) (np : H p = none) : AnsAt K (upd H p (.tup [.str "refused", .str why])) (.ref p) why := by
  refine ⟨p, rfl, .of ?_⟩
  unfold ansV
  rw [if_neg h]
  exact upd_same
theorem ans_in {D : Ends} {σ : L2.St} {H : Hp} {i : Nat} {why : Str} (h6 : σ[i]? = some (some (.str why))) (q : ∀ v H', Same H H' → AnsAt K H' v (ansW why) → D.rt v H') :
    tRet (tIf (tTest (tOp (rIn K false) (tVar i) (tLst (tCons (tC (V.str "")) (tCons (tC (V.str "known")) tNil))))) (tTup (tCons (tC (V.str "done")) tNil)) (tTup (tCons (tC (V.str "refused")) (tCons (tVar i) tNil)))) D σ H := by
  refine ⟨_, h6, by show 2 ≤ sizeLine; decide, fun l nl => ⟨l, _, rfl, Or.inl (SqL.of upd_same), rfl, rfl, _, rfl, ?_⟩⟩
  show (if inV (V.str why) (List.map V.str ["", "known"]) = true then _ else _ : Prop)
  rw [mem_names]
  unfold ansW at q
  by_cases h1 : why ∈ (["", "known"] : List Str)
  · rw [decide_eq_true h1]
    refine iteT ⟨by show 1 ≤ sizeLine; decide, fun p np => q _ _ ((same_upd nl).trans (same_upd np)) ?_⟩
    have e : (if why = ("known" : Str) then ("" : Str) else why) = "" := by
      rcases List.mem_cons.mp h1 with h1 | h1
      · rw [h1]; decide +kernel
      · rw [if_pos (List.mem_singleton.mp h1)]
    rw [e]
    exact ans_done np
  · rw [decide_eq_false h1]
    have h2 : ¬ why = ("" : Str) ∧ ¬ why = ("known" : Str) := ⟨fun z => h1 (by rw [z]; exact List.mem_cons_self), fun z => h1 (by rw [z]; exact List.mem_cons_of_mem _ List.mem_cons_self)⟩
    rw [if_neg h2.2] at q
    exact iteF ⟨_, h6, by show 2 ≤ sizeLine; decide, fun p np => q _ _ ((same_upd nl).trans (same_upd np)) (ans_ref h2.1 np)⟩
theorem ans_eq {D : Ends} {σ : L2.St} {H : Hp} {i : Nat} {why : Str} (h6 : σ[i]? = some (some (.str why))) (q : ∀ v H', Same H H' → AnsAt K H' v why → D.rt v H') :
    tRet (tIf (tTest (tOp rEq (tVar i) (tC (V.str "")))) (tTup (tCons (tC (V.str "done")) tNil)) (tTup (tCons (tC (V.str "refused")) (tCons (tVar i) tNil)))) D σ H := by
  refine ⟨_, h6, rfl, _, rfl, ?_⟩
  show (if decide (V.str why = V.str "") = true then _ else _ : Prop)
  rw [str_eq]
  by_cases h1 : why = ("" : Str)
  · rw [decide_eq_true h1]
    refine iteT ⟨by show 1 ≤ sizeLine; decide, fun p np => q _ _ (same_upd np) ?_⟩
    rw [h1]
    exact ans_done np
  · rw [decide_eq_false h1]
    exact iteF ⟨_, h6, by show 2 ≤ sizeLine; decide, fun p np => q _ _ (same_upd np) (ans_ref h1 np)⟩
theorem known_none {kn : Kn} {W : Wd} {mk : OW.Mk} {t : Tk} {kind : Str} {vals : Vals_} (h : makeW kn W mk (some t) kind vals = ("" : Str)) : t ∉ W.toks.map (·.1) := fun m => by
  unfold makeW at h
  have e : knownB W.toks (some t) = true := decide_eq_true m
  rw [e] at h
  cases e2 : oldB W.fences mk with
  | true => rw [e2] at h; exact absurd (show ("old" : Str) = "" from h) (by decide +kernel)
  | false => rw [e2] at h; exact absurd (show ("known" : Str) = "" from h) (by decide +kernel)
theorem other_there {W : Wd} {mk : OW.Mk} {one : Int} {ver : Option Int} (h : otherW W mk one ver = ("" : Str)) : ∃ t, tfind W.things one = some t := by
  unfold otherW at h
  cases e2 : oldB W.fences mk with
  | true => rw [e2] at h; exact absurd (show ("old" : Str) = "" from h) (by decide +kernel)
  | false =>
    rw [e2] at h
    cases e : tfind W.things one with
    | some t => exact ⟨t, rfl⟩
    | none => rw [e] at h; exact absurd (show ("gone" : Str) = "" from h) (by decide +kernel)
theorem change_there {kn : Kn} {W : Wd} {mk : OW.Mk} {one : Int} {ver : Option Int} {field : Str} {v : Option Int} (h : changeW kn W mk one ver field v = ("" : Str)) : ∃ t, tfind W.things one = some t := by
  unfold changeW at h
  by_cases e : otherW W mk one ver = ("" : Str)
  · exact other_there e
  · rw [if_neg e] at h
    exact absurd h e
theorem ok__law_do_make {f : Addr} {fd : FuncData} (F : Fun K "_law_do_make" "_law_do_make" s__law_do_make f fd) (T : OBlt mg) (c__law_make_why : C8.Cal P w K mg base 3 "_law_make_why" (spMakeW K) []) : FnOk P w K mg base CX0 4 f fd ["kinds", "w", "mark", "token", "kind", "values"] (spDoMake K) := by
  refine F.ok sc__law_do_make (fun vs H Q E h => ?_) (fun cdv A outer s H vs Q E hr h => ?_)
  · obtain ⟨A, W, kd, ds, kn, mk, tok, mv, tv, kind, va, vals, fs, rfl, _⟩ := h
    rfl
  · obtain ⟨A, W, kd, ds, kn, mk, tok, mv, tv, kind, va, vals, fs, rfl, hL, hN, hO, hM, hT, hf, hV, hlen, hH, k⟩ := h
    have hu := hu_of hr
    refine ⟨_, (pss_cons (ps_set (i := 6) sc__law_do_make.nd rfl (Or.inl rfl) (C8.pe_c c__law_make_why hr (by first | decide | omega) rfl (pa_cons (pv 0) (pa_cons (pv 1) (pa_cons (pv 2) (pa_cons (pv 3) (pa_cons (pv 4) (pa_cons (pv 5) pa_nil))))))))
    (pss_cons (ps_if (pt_cmpR op_eq (pv 6) pe_str (nomark _))
      (pss_cons (ps_set (i := 7) sc__law_do_make.nd rfl (Or.inl rfl) (pe_dget hu (pv 1) pe_str (fun _ _ => rfl)))
      (pss_cons (ps_dput hu (pv 1) pe_str (pe_op op_add (pv 7) pe_int) rfl)
      (pss_cons (ps_dput hu (pe_dget hu (pv 1) pe_str (fun _ _ => rfl)) (pv 7) (pe_tup (pa_cons (pv 7) (pa_cons (pv 4) (pa_cons (pv 5) (pa_cons pe_int (pa_cons (pe_op op_add pe_int (pe_op op_mul pe_int (pv 7))) (pa_cons (pe_ifExp (pt_cmpR op_isN (pv 3) pe_non (nomark _)) (pe_tup pa_nil) (pv 3)) pa_nil))))))) rfl)
      (pss_cons (ps_if (pt_cmpR op_notN (pv 3) pe_non (nomark _))
        (pss_one (ps_dput hu (pe_dget hu (pv 1) pe_str (fun _ _ => rfl)) (pv 3) (pv 7) rfl))
        pss_nil)
      (pss_one (ps_dput hu (pv 1) pe_str (pe_op op_add (pe_dget hu (pv 1) pe_str (fun _ _ => rfl)) pe_int) rfl))))))
      pss_nil)
    (pss_one (ps_ret (pe_ifExp (pt_cmpR op_in_seq (pv 6) (pe_lst (pa_cons pe_str (pa_cons pe_str pa_nil))) (by rfl)) (pe_tup (pa_cons pe_str pa_nil)) (pe_tup (pa_cons pe_str (pa_cons (pv 6) pa_nil)))))))), ?_⟩
    refine ⟨_, rfl, _, rfl, _, rfl, _, rfl, _, rfl, _, rfl, A, W, kd, ds, kn, mk, tok, mv, tv, kind, va, vals, fs, rfl, hL, hN, hO, hM, hT, hf, hV, hlen, hH, fun H1 s1 => ?_⟩
    have hL1 := hL.same s1
    have hT1 := hT.kp (.of_same s1)
    refine ⟨_, rfl, rfl, _, rfl, ?_⟩
    show (if decide (V.str (makeW kn W mk tok kind vals) = V.str "") = true then _ else _ : Prop)
    rw [str_eq]
    by_cases h0 : makeW kn W mk tok kind vals = ("" : Str)
    · rw [decide_eq_true h0]
      have eW : doMake kn W mk tok kind vals = ⟨W.things ++ [newTh W tok kind vals], madeT W tok, W.fences, W.mom + 1, W.nxt + 1⟩ := by
        unfold doMake
        rw [if_pos h0]
      rw [eW] at k
      refine iteT ⟨_, rfl, A.w, _, rfl, hL1.lw.r.g_next, ?_⟩
      have eN := put_next (A := A) (W := W) (n := W.nxt + 1)
      have hW2 := hL1.lw.setW (W' := { W with nxt := W.nxt + 1 }) hL1.nd rfl rfl rfl
      refine ⟨_, rfl, _, _, rfl, rfl, _, rfl, A.w, _, rfl, wput hL1.lw.w eN, ?_⟩
      have fin : ∀ (ta : Addr) (H2 : Hp), Ch A.S H1 H2 → Lw K H2 A { W with nxt := W.nxt + 1 } → TokAt K H2 ta tok → ∀ q, H2 q = none →
          ∃ kvs, H2 A.wT = some (.dK kvs) ∧ kvs.length < sizeLine ∧ Ch A.S H1 (upd (upd H2 q (.tup [.int W.nxt, .str kind, .ref va, .int 1, .int (1000 + 7 * W.nxt), .ref ta])) A.wT (.dK (putK kvs (Sum.inl W.nxt) (.ref q)))) ∧
            Lw K (upd (upd H2 q (.tup [.int W.nxt, .str kind, .ref va, .int 1, .int (1000 + 7 * W.nxt), .ref ta])) A.wT (.dK (putK kvs (Sum.inl W.nxt) (.ref q)))) A { W with things := W.things ++ [newTh W tok kind vals], nxt := W.nxt + 1 } := by
        intro ta H2 c2 l2 htk q nq
        obtain ⟨kvs, g1, g2⟩ := l2.things
        have lenK : kvs.length = W.things.length := g2.length
        have sq := same_upd (o := HO.tup [.int W.nxt, .str kind, .ref va, .int 1, .int (1000 + 7 * W.nxt), .ref ta]) nq
        have l3 := l2.same sq
        have g3 := sq _ _ g1
        have kp3 : Kp H2 (upd (upd H2 q (.tup [.int W.nxt, .str kind, .ref va, .int 1, .int (1000 + 7 * W.nxt), .ref ta])) A.wT (.dK (putK kvs (Sum.inl W.nxt) (.ref q)))) := (Kp.of_same sq).trans (.put g3 (fun z => z))
        have qT : q ≠ A.wT := fun z => by rw [z, g1] at nq; cases nq
        refine ⟨kvs, g1, by rw [lenK]; exact Nat.lt_of_lt_of_le hO.lenT (by decide), c2.trans ((Ch.of_same sq).trans (.put g3 (fun z => z) (by simp))), l3.setT hL1.nd ?_⟩
        refine ths_new (t := newTh W tok kind vals) (ths_kp g2 kp3) (wOk_none hO) ⟨va, ta, .of (by rw [upd_ne qT]; exact upd_same), vals_kp hV ((Kp.of_same s1).trans (c2.kp.trans kp3)), tok_kp htk kp3⟩
      have c1 : Ch A.S H1 (upd H1 A.w (.dK (wdK A { W with nxt := W.nxt + 1 }))) := .put hL1.lw.w (fun z => z) (by simp)
      refine ⟨_, rfl, _, rfl, _, rfl, _, rfl, _, _, rfl, rfl, .inl ⟨by decide, by decide⟩, _, _, rfl, rfl, ?_⟩
      cases tok with
      | none =>
        have hT : tv = .non := hT
        subst hT
        refine ⟨_, rfl, rfl, _, rfl, iteT ⟨Nat.zero_le _, fun ta nta => ⟨by show 6 ≤ sizeLine; decide, fun q nq => ?_⟩⟩⟩
        have st := same_upd (o := HO.tup []) nta
        obtain ⟨kvs, g1, g2, c3, l3⟩ := fin ta _ (c1.trans (.of_same st)) (hW2.same st) (.of upd_same) q nq
        have eW2 : ({ W with things := W.things ++ [newTh W none kind vals], nxt := W.nxt + 1, mom := W.mom + 1 } : Wd) = ⟨W.things ++ [newTh W none kind vals], madeT W none, W.fences, W.mom + 1, W.nxt + 1⟩ := rfl
        have l2' := (hW2.same st).same (same_upd (o := HO.tup [.int W.nxt, .str kind, .ref va, .int 1, .int (1000 + 7 * W.nxt), .ref ta]) nq)
        refine ⟨_, rfl, A.w, _, rfl, l2'.r.g_things, _, rfl, A.wT, _, rfl, DPut.k (k := Sum.inl W.nxt) (same_upd nq _ _ g1) g2, ?_⟩
        refine ⟨_, rfl, rfl, _, rfl, iteF (mom_put l3 rfl (ans_in rfl fun v H' s' ha => k v H' ?_ ?_ ha))⟩
        · exact (Ch.of_same s1).trans (c3.trans ((Ch.put l3.w (fun z => z) (by simp)).trans (.of_same s')))
        · exact (l3.setW hL1.nd (W' := { W with things := W.things ++ [newTh W none kind vals], nxt := W.nxt + 1, mom := W.mom + 1 }) rfl rfl rfl).same s'
      | some t =>
        obtain ⟨tb, rfl, htb⟩ := hT1
        refine ⟨_, rfl, rfl, _, rfl, iteF ⟨_, rfl, ⟨by show 6 ≤ sizeLine; decide, fun q nq => ?_⟩⟩⟩
        obtain ⟨kvs, g1, g2, c3, l3⟩ := fin tb _ c1 hW2 (c1.kp _ _ trivial htb) q nq
        have l2' := hW2.same (same_upd (o := HO.tup [.int W.nxt, .str kind, .ref va, .int 1, .int (1000 + 7 * W.nxt), .ref tb]) nq)
        refine ⟨_, rfl, A.w, _, rfl, l2'.r.g_things, _, rfl, A.wT, _, rfl, DPut.k (k := Sum.inl W.nxt) (same_upd nq _ _ g1) g2, ?_⟩
        have nk := known_none h0
        have l4 := l3.setK hL1.nd (ts := W.toks ++ [(t, W.nxt)])
        have dp := DPut.t (v := .int W.nxt) (k := kPair t) l3.toks (c3.kp _ _ trivial htb) (by unfold tokK; rw [List.length_map]; exact Nat.lt_of_lt_of_le hO.lenK (by decide))
        rw [put_tok nk] at dp
        refine ⟨_, rfl, rfl, _, rfl, iteT ⟨_, rfl, _, rfl, A.w, _, rfl, l3.r.g_tokens, _, rfl, A.wK, _, rfl, dp, mom_put l4 rfl (ans_in rfl fun v H' s' ha => k v H' ?_ ?_ ha)⟩⟩
        · exact (Ch.of_same s1).trans (c3.trans ((Ch.put l3.toks (fun z => z) (by simp)).trans ((Ch.put l4.w (fun z => z) (by simp)).trans (.of_same s'))))
        · exact (l4.setW hL1.nd (W' := { W with things := W.things ++ [newTh W (some t) kind vals], toks := W.toks ++ [(t, W.nxt)], nxt := W.nxt + 1, mom := W.mom + 1 }) rfl rfl rfl).same s'
    · rw [decide_eq_false h0]
      have eW : doMake kn W mk tok kind vals = W := by
        unfold doMake
        rw [if_neg h0]
      rw [eW] at k
      exact iteF (ans_in rfl fun v H' s' ha => k v H' (.of_same (s1.trans s')) (hL1.lw.same s') ha)
theorem of_upd {H : Hp} {p : Addr} {xs : List V} (_ : Same H (upd H p (.tup xs))) : SqT K (upd H p (.tup xs)) p xs := .of upd_same
theorem setV_len {field : Str} {v : Option Int} {vals : Vals_} : (setV field v vals).length = vals.length := by unfold setV; rw [List.length_map]
theorem ok__law_do_change {f : Addr} {fd : FuncData} (F : Fun K "_law_do_change" "_law_do_change" s__law_do_change f fd) (T : OBlt mg) (c__law_change_why : C8.Cal P w K mg base 3 "_law_change_why" (spChangeW K) []) : FnOk P w K mg base CX0 4 f fd ["kinds", "w", "mark", "one", "version", "field", "value"] (spDoChange K) := by
  refine F.ok sc__law_do_change (fun vs H Q E h => ?_) (fun cdv A outer s H vs Q E hr h => ?_)
  · obtain ⟨A, W, kd, ds, kn, mk, mv, one, ver, field, v, rfl, _⟩ := h
    rfl
  · obtain ⟨A, W, kd, ds, kn, mk, mv, one, ver, field, v, rfl, hL, hN, hO, hM, k⟩ := h
    have hu := hu_of hr
    refine ⟨_, (pss_cons (ps_set (i := 7) sc__law_do_change.nd rfl (Or.inl rfl) (C8.pe_c c__law_change_why hr (by first | decide | omega) rfl (pa_cons (pv 0) (pa_cons (pv 1) (pa_cons (pv 2) (pa_cons (pv 3) (pa_cons (pv 4) (pa_cons (pv 5) (pa_cons (pv 6) pa_nil)))))))))
    (pss_cons (ps_if (pt_cmpR op_eq (pv 7) pe_str (nomark _))
      (pss_cons (ps_set (i := 8) sc__law_do_change.nd rfl (Or.inl rfl) (pe_dget hu (pe_dget hu (pv 1) pe_str (fun _ _ => rfl)) (pv 3) (fun _ _ => rfl)))
      (pss_cons (ps_set (i := 9) sc__law_do_change.nd rfl (Or.inl rfl) (pe_callTy call_tupleF (by rfl) T.b_tuple (by decide +kernel) (pa_cons (pe_lc (g := (gTup K 2 (gCons (gName 10) (gCons (gName 11) gNil)))) (own := [("name", 10), ("old", 11)]) rfl sc__law_do_change.nd (pi_tup (pe_ix ix_tup (pv 8) pe_int (fun _ _ => rfl))) (blkOk_by (own := [("name", 10), ("old", 11)]) (N := N__law_do_change) (sc := defScope s__law_do_change) (by decide +kernel)) (fun _ _ _ _ _ => (pg_tup (by rfl) (pgs_cons (pg_name (i := 10) sc__law_do_change.nd rfl (Or.inl rfl)) (pgs_cons (pg_name (i := 11) sc__law_do_change.nd rfl (Or.inl rfl)) pgs_nil)))) (fun _ _ _ _ _ => pts_nil) (fun _ _ _ _ _ => (pe_tup (pa_cons (pv 10) (pa_cons (pe_ifExp (pt_cmpR op_eq (pv 10) (pv 5) (nomark _)) (pv 6) (pv 11)) pa_nil))))) pa_nil)))
      (pss_cons (ps_dput hu (pe_dget hu (pv 1) pe_str (fun _ _ => rfl)) (pv 3) (pe_op op_catT (pe_op op_catT (pe_slice sl_tup (pv 8) po_none (po_some pe_int)) (pe_tup (pa_cons (pv 9) (pa_cons (pe_op op_add (pe_ix ix_tup (pv 8) pe_int (fun _ _ => rfl)) pe_int) pa_nil)))) (pe_slice sl_tup (pv 8) (po_some pe_int) po_none)) rfl)
      (pss_one (ps_dput hu (pv 1) pe_str (pe_op op_add (pe_dget hu (pv 1) pe_str (fun _ _ => rfl)) pe_int) rfl)))))
      pss_nil)
    (pss_one (ps_ret (pe_ifExp (pt_cmpR op_eq (pv 7) pe_str (nomark _)) (pe_tup (pa_cons pe_str pa_nil)) (pe_tup (pa_cons pe_str (pa_cons (pv 7) pa_nil)))))))), ?_⟩
    refine ⟨_, rfl, _, rfl, _, rfl, _, rfl, _, rfl, _, rfl, _, rfl, A, W, kd, ds, kn, mk, mv, one, ver, field, v, rfl, hL, hO, hM, fun H1 s1 => ?_⟩
    have hL1 := hL.same s1
    refine ⟨_, rfl, rfl, _, rfl, ?_⟩
    show (if decide (V.str (changeW kn W mk one ver field v) = V.str "") = true then _ else _ : Prop)
    rw [str_eq]
    by_cases h0 : changeW kn W mk one ver field v = ("" : Str)
    · rw [decide_eq_true h0]
      have eW : doChange kn W mk one ver field v = { W with things := setT one field v W.things, mom := W.mom + 1 } := by
        unfold doChange
        rw [if_pos h0]
      rw [eW] at k
      have hW := hL1.lw.r
      obtain ⟨t, ht⟩ : ∃ t, tfind W.things one = some t := change_there h0
      obtain ⟨hm, hid⟩ := tfind_some ht
      obtain ⟨fs, hfs, hnm⟩ := hO.good t hm
      have hfew := hN.few _ _ hfs
      have hlv : t.vals.length = fs.length := by
        have := congrArg List.length hnm
        rwa [List.length_map, List.length_map] at this
      obtain ⟨ta, g3, va, tka, st, ⟨ps, pl, pp⟩, htk⟩ := hW.thing ht
      have lp : ps.length = t.vals.length := pp.length
      refine iteT ⟨_, rfl, A.w, _, rfl, hW.g_things, _, rfl, A.wT, _, rfl, g3, ?_⟩
      -- the new values
      refine ⟨_, rfl, ta, _, _, _, rfl, rfl, st, atI_nat (j := 2) rfl, va, rfl, ⟨_, sqT_pl pl⟩, fun D hD => lc_tup (K := K) (a := va) (xs := ps.map V.ref) (fun i H' => ∃ qs : List Addr, Same H1 H' ∧ H' D = some (.lst (qs.map V.ref)) ∧ Paired (fun p (fv : Str × Option Int) => SqT K H' p [.str fv.1, oV fv.2]) qs (setV field v (t.vals.take i)))
        ⟨[], same_upd hD, upd_same, .nil⟩ (fun i H' _ ⟨_, h, _, _⟩ => same_seqT h (sqT_pl pl)) ?_ ?_⟩
      · rintro i x H2 hx ⟨qs, s2, hd, hq⟩
        obtain ⟨p, hp, rfl⟩ : ∃ p, ps[i]? = some p ∧ V.ref p = x := by
          rw [List.getElem?_map] at hx
          cases e : ps[i]? with
          | none => rw [e] at hx; cases hx
          | some n => rw [e] at hx; exact ⟨n, rfl, Option.some.inj hx⟩
        obtain ⟨fv, hfv, sq⟩ := par_at pp hp
        have hi := (List.getElem?_eq_some_iff.mp hp).1
        have lq : qs.length = i := by
          have := hq.length
          rw [setV_len, List.length_take] at this
          omega
        have fin : ∀ (b : Addr) (u : Option Int), H2 b = none → u = (if fv.1 = field then v else fv.2) → ∃ acc, (upd H2 b (.tup [.str fv.1, oV u])) D = some (.lst acc) ∧ acc.length < sizeLine ∧ ∃ qs : List Addr, Same H1 (upd (upd H2 b (.tup [.str fv.1, oV u])) D (.lst (acc ++ [.ref b]))) ∧ (upd (upd H2 b (.tup [.str fv.1, oV u])) D (.lst (acc ++ [.ref b]))) D = some (.lst (qs.map V.ref)) ∧ Paired (fun p (gv : Str × Option Int) => SqT K (upd (upd H2 b (.tup [.str fv.1, oV u])) D (.lst (acc ++ [.ref b]))) p [.str gv.1, oV gv.2]) qs (setV field v (t.vals.take (i + 1))) := by
          intro b u nb eu
          have sb := same_upd (o := HO.tup [.str fv.1, oV u]) nb
          have kp : Kp H2 (upd (upd H2 b (.tup [.str fv.1, oV u])) D (.lst (qs.map V.ref ++ [.ref b]))) := (Kp.of_same sb).trans (.put (sb _ _ hd) (fun z => z))
          have nbD : b ≠ D := fun z => by rw [z, hd] at nb; cases nb
          refine ⟨_, sb _ _ hd, ?_, qs ++ [b], ?_, ?_, ?_⟩
          · rw [List.length_map, lq]
            exact Nat.lt_of_lt_of_le (show i < 60 by omega) (by decide)
          · intro c o e
            rw [upd_ne (ne_of_none e hD)]
            exact sb _ _ (s2 _ _ e)
          · rw [upd_same, List.map_append]; rfl
          · have e2 : setV field v (t.vals.take (i + 1)) = setV field v (t.vals.take i) ++ [(fv.1, u)] := by
              rw [List.take_add_one, hfv]
              unfold setV
              rw [List.map_append, eu]
              rfl
            rw [e2]
            exact par_snoc (par_imp (fun _ _ q => sq_kp q kp) hq) (.of (by rw [upd_ne nbD]; exact upd_same))
        refine ⟨p, _, rfl, same_seqT s2 sq, rfl, _, _, rfl, _, _, rfl, rfl, rfl, ?_⟩
        refine ⟨_, rfl, _, rfl, _, rfl, rfl, _, rfl, ?_⟩
        show (if decide (V.str fv.1 = V.str field) = true then _ else _ : Prop)
        rw [str_eq]
        by_cases hfn : fv.1 = field
        · rw [decide_eq_true hfn]
          refine iteT ⟨_, rfl, by show 2 ≤ sizeLine; decide, fun b nb => fin b v nb (by rw [if_pos hfn])⟩
        · rw [decide_eq_false hfn]
          refine iteF ⟨_, rfl, by show 2 ≤ sizeLine; decide, fun b nb => fin b fv.2 nb (by rw [if_neg hfn])⟩
      · rintro H2 ⟨qs, s2, hd, hq⟩
        rw [List.length_map, lp, List.take_length] at hq
        refine ⟨D, _, rfl, SqL.of hd, fun va2 o2 nva ho2 => ?_⟩
        have s3 : Same H2 (upd H2 va2 (.frz o2 (.tup (qs.map V.ref)))) := same_upd nva
        have hV3 : ValsAt K (upd H2 va2 (.frz o2 (.tup (qs.map V.ref)))) va2 (setV field v t.vals) := ⟨qs, ⟨o2, upd_same, ho2⟩, par_imp (fun _ _ q => same_seqT s3 q) hq⟩
        have s13 := s2.trans s3
        generalize upd H2 va2 (.frz o2 (.tup (qs.map V.ref))) = H3 at s3 hV3 s13
        have l3 := hL1.lw.same s13
        have st3 := same_seqT s13 st
        refine ⟨_, rfl, _, rfl, ta, _, rfl, st3, by show ¬ (0 = 0 ∧ 2 = 6); decide, fun p1 n1 => ?_⟩
        have e1 : cutV [V.int t.id, V.str t.kind, V.ref va, V.int t.ver, V.int t.told, V.ref tka] none (some 2) = [.int t.id, .str t.kind] := rfl
        rw [e1]
        have s4 := same_upd (o := HO.tup [.int t.id, .str t.kind]) n1
        refine ⟨_, rfl, _, rfl, ta, _, _, _, rfl, rfl, same_seqT s4 st3, atI_nat (j := 3) rfl, _, _, rfl, rfl, by show 2 ≤ sizeLine; decide, fun p2 n2 => ?_⟩
        have s5 := same_upd (o := HO.tup [.ref va2, .int (t.ver + 1)]) n2
        refine ⟨p1, p2, _, _, rfl, rfl, .of (s5 _ _ upd_same), .of upd_same, by simp, by show 4 ≤ sizeLine; decide, fun z => absurd z (List.cons_ne_nil _ _), fun _ p3 n3 => ?_⟩
        have s6 := same_upd (o := HO.tup ([V.int t.id, .str t.kind] ++ [.ref va2, .int (t.ver + 1)])) n3
        have s36 := s4.trans (s5.trans s6)
        refine ⟨_, rfl, _, rfl, ta, _, rfl, same_seqT s36 st3, by show ¬ (4 = 0 ∧ 6 = 6); decide, fun p4 n4 => ?_⟩
        have e2 : cutV [V.int t.id, V.str t.kind, V.ref va, V.int t.ver, V.int t.told, V.ref tka] (some 4) none = [.int t.told, .ref tka] := rfl
        rw [e2]
        have s7 := same_upd (o := HO.tup [.int t.told, .ref tka]) n4
        refine ⟨p3, p4, _, _, rfl, rfl, .of (s7 _ _ upd_same), .of upd_same, by simp, by show 6 ≤ sizeLine; decide, fun z => absurd z (List.cons_ne_nil _ _), fun _ p5 n5 => ?_⟩
        have s8 := same_upd (o := HO.tup ([V.int t.id, .str t.kind] ++ [.ref va2, .int (t.ver + 1)] ++ [.int t.told, .ref tka])) n5
        have s38 := s36.trans (s7.trans s8)
        have tail : ∀ H8, Same H3 H8 → SqT K H8 p5 [.int t.id, .str t.kind, .ref va2, .int (t.ver + 1), .int t.told, .ref tka] → ∃ kvs, H8 A.wT = some (.dK kvs) ∧ kvs.length < sizeLine ∧ Lw K (upd H8 A.wT (.dK (putK kvs (Sum.inl one) (.ref p5)))) A { W with things := setT one field v W.things } := by
          intro H8 s38 hth
          have l8 := l3.same s38
          have s18 := s13.trans s38
          obtain ⟨kvs, g1, g2⟩ := l8.things
          have lenK : kvs.length = W.things.length := g2.length
          have kp9 : Kp H8 (upd H8 A.wT (.dK (putK kvs (Sum.inl one) (.ref p5)))) := .put g1 (fun z => z)
          refine ⟨kvs, g1, by rw [lenK]; exact Nat.lt_of_lt_of_le hO.lenT (by decide), l8.setT hL1.nd ?_⟩
          rw [set_eq hO.nd ht]
          exact ths_set (t' := updTh field v t) (ths_kp g2 kp9) ht hid ⟨va2, tka, sq_kp hth kp9, vals_kp hV3 ((Kp.of_same s38).trans kp9), tok_kp htk ((Kp.of_same s18).trans kp9)⟩
        have s18 := s13.trans s38
        have l8 := l3.same s38
        obtain ⟨kvs, g1, gl, l9⟩ := tail _ s38 (of_upd s8)
        refine ⟨_, rfl, A.w, _, rfl, l8.r.g_things, _, rfl, A.wT, _, rfl, DPut.k (k := Sum.inl one) g1 gl, ?_⟩
        refine mom_put l9 rfl (ans_eq rfl fun u H' s' ha => k u H' ?_ ?_ ha)
        · exact (Ch.of_same (s1.trans s18)).trans ((Ch.put g1 (fun z => z) (by simp)).trans ((Ch.put l9.w (fun z => z) (by simp)).trans (.of_same s')))
        · exact (l9.setW hL1.nd (W' := { W with things := setT one field v W.things, mom := W.mom + 1 }) rfl rfl rfl).same s'
    · rw [decide_eq_false h0]
      have eW : doChange kn W mk one ver field v = W := by
        unfold doChange
        rw [if_neg h0]
      rw [eW] at k
      exact iteF (ans_eq rfl fun v H' s' ha => k v H' (.of_same (s1.trans s')) (hL1.lw.same s') ha)

theorem take_there {kn : Kn} {W : Wd} {mk : OW.Mk} {one : Int} {ver : Option Int} (h : takeW kn W mk one ver = ("" : Str)) : ∃ t, tfind W.things one = some t := by
  unfold takeW at h
  by_cases e : otherW W mk one ver = ("" : Str)
  · exact other_there e
  · rw [if_neg e] at h
    exact absurd h e
theorem ok__law_do_take {f : Addr} {fd : FuncData} (F : Fun K "_law_do_take" "_law_do_take" s__law_do_take f fd) (T : OBlt mg) (c__law_other_why : C8.Cal P w K mg base 1 "_law_other_why" (spOtherW K) []) (c__law_needed : C8.Cal P w K mg base 1 "_law_needed" (spNeeded K) []) : FnOk P w K mg base CX0 2 f fd ["kinds", "w", "mark", "one", "version"] (spDoTake K) := by
  refine F.ok sc__law_do_take (fun vs H Q E h => ?_) (fun cdv A outer s H vs Q E hr h => ?_)
  · obtain ⟨A, W, kd, ds, kn, mk, mv, one, ver, rfl, _⟩ := h
    rfl
  · obtain ⟨A, W, kd, ds, kn, mk, mv, one, ver, rfl, hL, hO, hM, k⟩ := h
    have hu := hu_of hr
    refine ⟨_, (pss_cons (ps_set (i := 5) sc__law_do_take.nd rfl (Or.inl rfl) (C8.pe_c c__law_other_why hr (by first | decide | omega) rfl (pa_cons (pv 0) (pa_cons (pv 1) (pa_cons (pv 2) (pa_cons (pv 3) (pa_cons (pv 4) pa_nil)))))))
    (pss_cons (ps_if (PW.pt (pw_and (pt_cmpR op_eq (pv 5) pe_str (nomark _)) (pw_and1 (pt_val (C8.pe_c c__law_needed hr (by first | decide | omega) rfl (pa_cons (pv 0) (pa_cons (pv 1) (pa_cons (pv 3) pa_nil))))))))
      (pss_one (ps_set (i := 5) sc__law_do_take.nd rfl (Or.inl rfl) pe_str))
      pss_nil)
    (pss_cons (ps_if (pt_cmpR op_eq (pv 5) pe_str (nomark _))
      (pss_cons (ps_expr (pe_dpop1 (pe_dget hu (pv 1) pe_str (fun _ _ => rfl)) (pv 3) ⟨by rfl, by rfl, by rfl, by rfl⟩))
      (pss_one (ps_dput hu (pv 1) pe_str (pe_op op_add (pe_dget hu (pv 1) pe_str (fun _ _ => rfl)) pe_int) rfl)))
      pss_nil)
    (pss_one (ps_ret (pe_ifExp (pt_cmpR op_eq (pv 5) pe_str (nomark _)) (pe_tup (pa_cons pe_str pa_nil)) (pe_tup (pa_cons pe_str (pa_cons (pv 5) pa_nil))))))))), ?_⟩
    refine ⟨_, rfl, _, rfl, _, rfl, _, rfl, _, rfl, A, W, kd, ds, kn, mk, mv, one, ver, rfl, hL, hM, ?_⟩
    refine ⟨_, rfl, rfl, _, rfl, ?_⟩
    show (if decide (V.str (otherW W mk one ver) = V.str "") = true then _ else _ : Prop)
    rw [str_eq]
    have bad : ¬ takeW kn W mk one ver = ("" : Str) → ∀ H1, Same H H1 → ∀ v H', Same H1 H' → AnsAt K H' v (takeW kn W mk one ver) → Q v H' := fun h0 H1 s1 v H' s' ha => by
      have eW : doTake kn W mk one ver = W := by
        unfold doTake
        rw [if_neg h0]
      rw [eW] at k
      exact k v H' (.of_same (s1.trans s')) (hL.lw.same (s1.trans s')) ha
    by_cases h1 : otherW W mk one ver = ("" : Str)
    · rw [decide_eq_true h1]
      refine iteT ⟨_, rfl, _, rfl, _, rfl, A, W, kd, ds, kn, one, rfl, hL, hO, fun H1 s1 => ⟨_, rfl, ?_⟩⟩
      have hL1 := hL.same s1
      have eT : takeW kn W mk one ver = if neededB kn W.things one = true then ("needed" : Str) else "" := by
        unfold takeW
        rw [if_pos h1]
      cases hn : neededB kn W.things one with
      | true =>
        rw [hn] at eT
        have eT : takeW kn W mk one ver = ("needed" : Str) := eT
        have h0 : ¬ takeW kn W mk one ver = ("" : Str) := by rw [eT]; decide +kernel
        refine iteT ?_
        rw [eT] at bad
        refine ⟨_, rfl, rfl, _, rfl, ?_⟩
        show (if decide (V.str "needed" = V.str "") = true then _ else _ : Prop)
        rw [str_eq, decide_eq_false (show ¬ ("needed" : Str) = "" by decide +kernel)]
        exact iteF (ans_eq rfl (bad (by decide +kernel) H1 s1))
      | false =>
        rw [hn] at eT
        have h0 : takeW kn W mk one ver = ("" : Str) := eT
        have eW : doTake kn W mk one ver = { W with things := dropT one W.things, mom := W.mom + 1 } := by
          unfold doTake
          rw [if_pos h0]
        rw [eW, h0] at k
        obtain ⟨t, ht⟩ := take_there h0
        obtain ⟨kvs, g1, g2⟩ := hL1.lw.things
        obtain ⟨a, g3, _⟩ := ths_some g2 ht
        have l2 : Lw K (upd H1 A.wT (.dK (dropK kvs (Sum.inl one)))) A { W with things := dropT one W.things } := hL1.lw.setT hL1.nd (ths_drop (ths_kp g2 (.put g1 (fun z => z))))
        refine iteF ⟨_, rfl, rfl, _, rfl, ?_⟩
        show (if decide (V.str (otherW W mk one ver) = V.str "") = true then _ else _ : Prop)
        rw [str_eq, decide_eq_true h1]
        refine iteT ⟨_, rfl, A.w, _, rfl, hL1.lw.r.g_things, A.wT, rfl, .inl ⟨_, .inl g1⟩, _, rfl, kvs, Sum.inl one, _, g1, rfl, g3, ?_⟩
        rw [h1]
        refine mom_put l2 rfl (ans_eq rfl fun u H' s' ha => k u H' ?_ ?_ ha)
        · exact (Ch.of_same s1).trans ((Ch.put g1 (fun z => z) (by simp)).trans ((Ch.put l2.w (fun z => z) (by simp)).trans (.of_same s')))
        · exact (l2.setW hL1.nd (W' := { W with things := dropT one W.things, mom := W.mom + 1 }) rfl rfl rfl).same s'
    · rw [decide_eq_false h1]
      have eT : takeW kn W mk one ver = otherW W mk one ver := by
        unfold takeW
        rw [if_neg h1]
      have h0 : ¬ takeW kn W mk one ver = ("" : Str) := by rw [eT]; exact h1
      refine iteF (iteF ⟨_, rfl, rfl, _, rfl, ?_⟩)
      show (if decide (V.str (otherW W mk one ver) = V.str "") = true then _ else _ : Prop)
      rw [str_eq, decide_eq_false h1]
      rw [eT] at bad
      exact iteF (ans_eq rfl (bad h1 H (fun _ _ e => e)))
theorem ok__law_do {f : Addr} {fd : FuncData} (F : Fun K "_law_do" "_law_do" s__law_do f fd) (T : OBlt mg) (c__law_do_make : C8.Cal P w K mg base 4 "_law_do_make" (spDoMake K) []) (c__law_do_change : C8.Cal P w K mg base 4 "_law_do_change" (spDoChange K) []) (c__law_do_take : C8.Cal P w K mg base 2 "_law_do_take" (spDoTake K) []) : FnOk P w K mg base CX0 5 f fd ["kinds", "w", "call"] (spLDo K) := by
  refine F.ok sc__law_do (fun vs H Q E h => ?_) (fun cdv A outer s H vs Q E hr h => ?_)
  · obtain ⟨A, W, kd, ds, kn, a, c, rfl, _⟩ := h
    rfl
  · obtain ⟨A, W, kd, ds, kn, a, c, rfl, hL, hN, hO, hC, k⟩ := h
    have hu := hu_of hr
    refine ⟨_, (pss_cons (ps_set (i := 3) sc__law_do.nd rfl (Or.inl rfl) (pe_ix ix_tup (pv 2) pe_int (fun _ _ => rfl)))
    (pss_cons (ps_if (pt_cmpR op_eq (pe_ix ix_tup (pv 2) pe_int (fun _ _ => rfl)) pe_str (nomark _))
      (pss_cons (ps_if (pt_cmpR op_lt (pe_dget2 hu (pe_dget hu (pv 1) pe_str (fun _ _ => rfl)) (pe_ix ix_tup (pv 3) pe_int (fun _ _ => rfl)) pe_int ⟨by rfl, by rfl, by rfl, by rfl⟩) (pe_ix ix_tup (pv 3) pe_int (fun _ _ => rfl)) (nomark _))
        (pss_cons (ps_dput hu (pe_dget hu (pv 1) pe_str (fun _ _ => rfl)) (pe_ix ix_tup (pv 3) pe_int (fun _ _ => rfl)) (pe_ix ix_tup (pv 3) pe_int (fun _ _ => rfl)) rfl)
        (pss_one (ps_dput hu (pv 1) pe_str (pe_op op_add (pe_dget hu (pv 1) pe_str (fun _ _ => rfl)) pe_int) rfl)))
        pss_nil)
      (pss_one (ps_ret (pe_tup (pa_cons pe_str pa_nil)))))
      pss_nil)
    (pss_cons (ps_if (pt_cmpR op_eq (pe_ix ix_tup (pv 2) pe_int (fun _ _ => rfl)) pe_str (nomark _))
      (pss_one (ps_ret (C8.pe_c c__law_do_make hr (by first | decide | omega) rfl (pa_cons (pv 0) (pa_cons (pv 1) (pa_cons (pv 3) (pa_cons (pe_ix ix_tup (pv 2) pe_int (fun _ _ => rfl)) (pa_cons (pe_ix ix_tup (pv 2) pe_int (fun _ _ => rfl)) (pa_cons (pe_ix ix_tup (pv 2) pe_int (fun _ _ => rfl)) pa_nil)))))))))
      pss_nil)
    (pss_cons (ps_if (pt_cmpR op_eq (pe_ix ix_tup (pv 2) pe_int (fun _ _ => rfl)) pe_str (nomark _))
      (pss_one (ps_ret (C8.pe_c c__law_do_change hr (by first | decide | omega) rfl (pa_cons (pv 0) (pa_cons (pv 1) (pa_cons (pv 3) (pa_cons (pe_ix ix_tup (pv 2) pe_int (fun _ _ => rfl)) (pa_cons (pe_ix ix_tup (pv 2) pe_int (fun _ _ => rfl)) (pa_cons (pe_ix ix_tup (pv 2) pe_int (fun _ _ => rfl)) (pa_cons (pe_ix ix_tup (pv 2) pe_int (fun _ _ => rfl)) pa_nil))))))))))
      pss_nil)
    (pss_one (ps_ret (C8.pe_c c__law_do_take hr (by first | decide | omega) rfl (pa_cons (pv 0) (pa_cons (pv 1) (pa_cons (pv 3) (pa_cons (pe_ix ix_tup (pv 2) pe_int (fun _ _ => rfl)) (pa_cons (pe_ix ix_tup (pv 2) pe_int (fun _ _ => rfl)) pa_nil)))))))))))), ?_⟩
    have hW := hL.lw.r
    cases c with
    | fence m =>
      obtain ⟨ma, sa, sm⟩ := hC
      refine ⟨_, rfl, a, _, _, _, rfl, rfl, sa, atI_nat (j := 1) rfl, _, rfl, a, _, _, _, rfl, rfl, sa, atI_nat (j := 0) rfl, rfl, _, rfl, ?_⟩
      rw [decide_eq_true (show V.str "fence" = V.str "fence" from rfl)]
      refine iteT ⟨_, rfl, A.w, _, rfl, hW.g_fences, A.wF, rfl, .inl ⟨_, hW.fences⟩, _, rfl, ma, _, _, _, rfl, rfl, sm, atI_nat (j := 0) rfl, _, .inl ⟨_, Sum.inl m.1, hW.fences, rfl, rfl⟩, ?_⟩
      rw [fval]
      refine ⟨_, rfl, ma, _, _, _, rfl, rfl, sm, atI_nat (j := 1) rfl, _, _, rfl, rfl, _, rfl, ?_⟩
      show (if decide (fget W.fences m.1 < m.2) = true then _ else _ : Prop)
      by_cases hf : fget W.fences m.1 < m.2
      · rw [decide_eq_true hf]
        have eW : doW kn W (.fence m) = { W with fences := fput W.fences m.1 m.2, mom := W.mom + 1 } := by
          show doFence W m = _
          unfold doFence
          rw [if_pos hf]
        rw [eW] at k
        have l2 := hL.lw.setF hL.nd (fs := fput W.fences m.1 m.2)
        have dp := DPut.k (k := (Sum.inl m.1 : Key)) (v := .int m.2) hL.lw.fences (by unfold itK; rw [List.length_map]; exact Nat.lt_of_lt_of_le hO.lenF (by decide))
        rw [put_fence] at dp
        refine iteT ⟨_, rfl, ma, _, _, _, rfl, rfl, sm, atI_nat (j := 1) rfl, _, rfl, A.w, _, rfl, hW.g_fences, _, rfl, ma, _, _, _, rfl, rfl, sm, atI_nat (j := 0) rfl, A.wF, _, rfl, dp, ?_⟩
        refine mom_put l2 rfl ⟨by show 1 ≤ sizeLine; decide, fun p np => k _ _ ?_ ?_ (ans_done np)⟩
        · exact (Ch.put hL.lw.fences (fun z => z) (by simp)).trans ((Ch.put l2.w (fun z => z) (by simp)).trans (.of_same (same_upd np)))
        · exact (l2.setW hL.nd (W' := { W with fences := fput W.fences m.1 m.2, mom := W.mom + 1 }) rfl rfl rfl).same (same_upd np)
      · rw [decide_eq_false hf]
        have eW : doW kn W (.fence m) = W := by
          show doFence W m = _
          unfold doFence
          rw [if_neg hf]
        rw [eW] at k
        exact iteF ⟨by show 1 ≤ sizeLine; decide, fun p np => k _ _ (.of_same (same_upd np)) (hL.lw.same (same_upd np)) (ans_done np)⟩
    | make m t kind vals =>
      obtain ⟨ma, ta, va, fs, sa, sm, ht, hV, hf, hlen, hH⟩ := hC
      refine ⟨_, rfl, a, _, _, _, rfl, rfl, sa, atI_nat (j := 1) rfl, _, rfl, a, _, _, _, rfl, rfl, sa, atI_nat (j := 0) rfl, rfl, _, rfl, ?_⟩
      rw [str_eq, decide_eq_false (show ¬ ("make" : Str) = "fence" by decide +kernel)]
      refine iteF ⟨_, rfl, a, _, _, _, rfl, rfl, sa, atI_nat (j := 0) rfl, rfl, _, rfl, ?_⟩
      rw [str_eq, decide_eq_true (show ("make" : Str) = "make" from rfl)]
      refine iteT ⟨_, rfl, _, rfl, _, rfl, _, rfl, a, _, _, _, rfl, rfl, sa, atI_nat (j := 2) rfl, _, rfl, a, _, _, _, rfl, rfl, sa, atI_nat (j := 3) rfl, _, rfl, a, _, _, _, rfl, rfl, sa, atI_nat (j := 4) rfl, ?_⟩
      exact ⟨A, W, kd, ds, kn, some m, some t, .ref ma, .ref ta, kind, va, vals, fs, rfl, hL, hN, hO, ⟨ma, rfl, sm⟩, ⟨ta, rfl, ht⟩, hf, hV, hlen, hH, k⟩
    | change m one ver field v =>
      obtain ⟨ma, sa, sm⟩ := hC
      refine ⟨_, rfl, a, _, _, _, rfl, rfl, sa, atI_nat (j := 1) rfl, _, rfl, a, _, _, _, rfl, rfl, sa, atI_nat (j := 0) rfl, rfl, _, rfl, ?_⟩
      rw [str_eq, decide_eq_false (show ¬ ("change" : Str) = "fence" by decide +kernel)]
      refine iteF ⟨_, rfl, a, _, _, _, rfl, rfl, sa, atI_nat (j := 0) rfl, rfl, _, rfl, ?_⟩
      rw [str_eq, decide_eq_false (show ¬ ("change" : Str) = "make" by decide +kernel)]
      refine iteF ⟨_, rfl, a, _, _, _, rfl, rfl, sa, atI_nat (j := 0) rfl, rfl, _, rfl, ?_⟩
      rw [str_eq, decide_eq_true (show ("change" : Str) = "change" from rfl)]
      refine iteT ⟨_, rfl, _, rfl, _, rfl, _, rfl, a, _, _, _, rfl, rfl, sa, atI_nat (j := 2) rfl, _, rfl, a, _, _, _, rfl, rfl, sa, atI_nat (j := 3) rfl, _, rfl, a, _, _, _, rfl, rfl, sa, atI_nat (j := 4) rfl, _, rfl, a, _, _, _, rfl, rfl, sa, atI_nat (j := 5) rfl, ?_⟩
      exact ⟨A, W, kd, ds, kn, some m, .ref ma, one, some ver, field, v, rfl, hL, hN, hO, ⟨ma, rfl, sm⟩, k⟩
    | take m one ver =>
      obtain ⟨ma, sa, sm⟩ := hC
      refine ⟨_, rfl, a, _, _, _, rfl, rfl, sa, atI_nat (j := 1) rfl, _, rfl, a, _, _, _, rfl, rfl, sa, atI_nat (j := 0) rfl, rfl, _, rfl, ?_⟩
      rw [str_eq, decide_eq_false (show ¬ ("take" : Str) = "fence" by decide +kernel)]
      refine iteF ⟨_, rfl, a, _, _, _, rfl, rfl, sa, atI_nat (j := 0) rfl, rfl, _, rfl, ?_⟩
      rw [str_eq, decide_eq_false (show ¬ ("take" : Str) = "make" by decide +kernel)]
      refine iteF ⟨_, rfl, a, _, _, _, rfl, rfl, sa, atI_nat (j := 0) rfl, rfl, _, rfl, ?_⟩
      rw [str_eq, decide_eq_false (show ¬ ("take" : Str) = "change" by decide +kernel)]
      refine iteF ⟨_, rfl, _, rfl, _, rfl, _, rfl, a, _, _, _, rfl, rfl, sa, atI_nat (j := 2) rfl, _, rfl, a, _, _, _, rfl, rfl, sa, atI_nat (j := 3) rfl, ?_⟩
      exact ⟨A, W, kd, ds, kn, some m, .ref ma, one, some ver, rfl, hL, hO, ⟨ma, rfl, sm⟩, k⟩

end
end K07
namespace K07
open PySem PySem.Spec PyProof.Rows L2 LB OW
section
variable {P : Program} {w : World} {K : PySem.W.Frag} {mg : Str → Option Value} {base : Heap} {C pC pD pN : Addr} {eC eD : Array DictEntry} {nC nD : Nat}
section
variable {D : Ends} {σ : L2.St} {H : Hp} {B : OA} {O : Od} {kn : Kn}
theorem omom (T : OTxt P w K mg C pC pD pN eC eD nC nD) (hO : Ob K H C B O kn) (h0 : σ[0]? = some (some (.ref B.a))) (q : D.nx σ (upd H B.a (.ins C B.dx (obF B { O with mom := O.mom + 1 })))) : sFldAug K (tVar 0) (tC (V.int 1)) rAdd "_moment" D σ H :=
  ⟨_, h0, B.a, C, B.dx, _, _, rfl, hO.at_, T.cl, T.n_moment, lk_moment, _, _, rfl, rfl, B.dx, obF B O, hO.at_, by show 7 < 1000; decide, by rw [putF_mom]; exact q⟩
theorem ogrt (T : OTxt P w K mg C pC pD pN eC eD nC nD) (hO : Ob K H C B O kn) (h0 : σ[0]? = some (some (.ref B.a))) (q : D.nx σ (upd H B.a (.ins C B.dx (obF B { O with grt := O.grt + 1 })))) : sFldAug K (tVar 0) (tC (V.int 1)) rAdd "_greatest_id" D σ H :=
  ⟨_, h0, B.a, C, B.dx, _, _, rfl, hO.at_, T.cl, T.n_grt, lk_grt, _, _, rfl, rfl, B.dx, obF B O, hO.at_, by show 7 < 1000; decide, by rw [putF_grt]; exact q⟩
theorem ocalls (T : OTxt P w K mg C pC pD pN eC eD nC nD) (hO : Ob K H C B O kn) (h0 : σ[0]? = some (some (.ref B.a))) (q : D.nx σ (upd H B.a (.ins C B.dx (obF B { O with calls := O.calls + 1 })))) : sFldAug K (tVar 0) (tC (V.int 1)) rAdd "_calls" D σ H :=
  ⟨_, h0, B.a, C, B.dx, _, _, rfl, hO.at_, T.cl, T.n_calls, lk_calls, _, _, rfl, rfl, B.dx, obF B O, hO.at_, by show 7 < 1000; decide, by rw [putF_calls]; exact q⟩
theorem ans_DONE (T : OTxt P w K mg C pC pD pN eC eD nC nD) : AnsAt K H (.ref pN) "" := by
  refine ⟨pN, rfl, ?_⟩
  unfold ansV
  rw [if_pos rfl]
  exact T.o_DONE H
theorem Ob.cho (hO : Ob K H C B O kn) {O' : Od} : Ch B.S H (upd H B.a (.ins C B.dx (obF B O'))) := .put hO.at_ (fun z => z) (by simp)
end
theorem ok_Outside__make {f : Addr} {fd : FuncData} (F : Fun K "_make" "Outside._make" s_Outside__make f fd) (T : OTxt P w K mg C pC pD pN eC eD nC nD)
    {f1 : Addr} {fd1 : FuncData} (m__why_not_make : Meth K C "_why_not_make" f1) (G__why_not_make : FnOk P w K mg base CX0 3 f1 fd1 ["self", "kind", "values"] (spWhyMake K C)) (b__why_not_make : Binds K fd1 ["self", "kind", "values"] []) :
    FnOk P w K mg base CX0 4 f fd ["self", "token", "kind", "values"] (spOMake K C) := by
  refine F.ok sc_Outside__make (fun vs H Q E h => ?_) (fun cdv A outer s H vs Q E hr h => ?_)
  · obtain ⟨B, O, kn, ta, tok, kind, va, vals, fs, rfl, _⟩ := h
    rfl
  · obtain ⟨B, O, kn, ta, tok, kind, va, vals, fs, rfl, hO, hK, htk, hf, hV, hlen, hH, k⟩ := h
    have hu := hu_of hr
    refine ⟨_, (pss_cons (ps_set (i := 4) sc_Outside__make.nd rfl (Or.inl rfl) (pe_meth (pv 0) T.cl m__why_not_make G__why_not_make (hr.mono (by decide)) b__why_not_make .nil pass0 (pa_cons (pv 2) (pa_cons (pv 3) pa_nil))))
    (pss_cons (ps_if (pt_cmpR op_ne (pv 4) pe_str (nomark _))
      (pss_one (ps_ret (pe_tup (pa_cons pe_str (pa_cons (pv 4) pa_nil)))))
      pss_nil)
    (pss_cons (ps_fldaug (pv 0) pe_int in_add)
    (pss_cons (ps_set (i := 5) sc_Outside__make.nd rfl (Or.inl rfl) (pe_fld (pv 0) rfl))
    (pss_cons (ps_dput hu (pe_fld (pv 0) rfl) (pv 5) (pe_tup (pa_cons (pv 5) (pa_cons (pv 2) (pa_cons (pv 3) (pa_cons pe_int (pa_cons (pe_op op_add pe_int (pe_op op_mul pe_int (pv 5))) (pa_cons (pv 1) pa_nil))))))) rfl)
    (pss_cons (ps_fldaug (pv 0) pe_int in_add)
    (pss_one (ps_ret (C8.pe_gc rfl T.g_DONE))))))))), ?_⟩
    refine ⟨_, rfl, B.a, B.dx, _, rfl, hO.at_, lk_no (by decide +kernel), _, rfl, _, rfl, B, O, kn, kind, va, vals, fs, rfl, hO, hK, hf, hV.s, hlen, hH, fun H1 s1 => ?_⟩
    have hO1 := hO.same s1
    refine ⟨_, rfl, rfl, _, rfl, ?_⟩
    show (if (!decide (V.str (makeW kn (pw O) none none kind vals) = V.str "")) = true then _ else _ : Prop)
    rw [deq]
    by_cases h0 : makeW kn (pw O) none none kind vals = ("" : Str)
    · rw [decide_eq_true h0]
      have eO : oMake kn O tok kind vals = { O with things := O.things ++ [newTh (pw O) tok kind vals], mom := O.mom + 1, grt := O.grt + 1 } := by
        unfold oMake
        rw [if_pos h0]
      rw [eO] at k
      rw [h0] at k
      have hO2 := hO1.setO (O' := { O with grt := O.grt + 1 }) rfl rfl rfl
      have c2 : Ch B.S H _ := (Ch.of_same s1).trans (Ob.cho hO1 (O' := { O with grt := O.grt + 1 }))
      refine iteF (ogrt T hO1 rfl ?_)
      generalize upd H1 B.a (.ins C B.dx (obF B { O with grt := O.grt + 1 })) = H2 at hO2 c2
      refine ⟨_, rfl, B.a, C, B.dx, _, _, rfl, hO2.at_, T.cl, T.n_grt, lk_grt, ?_⟩
      refine ⟨_, rfl, _, rfl, _, rfl, _, rfl, _, _, rfl, rfl, .inl ⟨by decide, by decide⟩, _, _, rfl, rfl, _, rfl, by show 6 ≤ sizeLine; decide, fun q nq => ?_⟩
      have sq := same_upd (o := HO.tup [V.int (O.grt + 1), .str kind, .ref va, .int 1, .int (1000 + 7 * (O.grt + 1)), .ref ta]) nq
      have hq := upd_same (H := H2) (a := q) (o := HO.tup [V.int (O.grt + 1), .str kind, .ref va, .int 1, .int (1000 + 7 * (O.grt + 1)), .ref ta])
      have hO3 := hO2.same sq
      have c3 := c2.trans (.of_same sq)
      show tFld _ _ _ _ (upd H2 q (.tup [V.int (O.grt + 1), .str kind, .ref va, .int 1, .int (1000 + 7 * (O.grt + 1)), .ref ta])) _
      generalize upd H2 q (.tup [V.int (O.grt + 1), .str kind, .ref va, .int 1, .int (1000 + 7 * (O.grt + 1)), .ref ta]) = H3 at sq hq hO3 c3
      obtain ⟨kvs, g1, g2⟩ := hO3.things
      have lenK : kvs.length = O.things.length := g2.length
      have hlt : O.things.length < 60 := hK.w.lenT
      have hno : tfind O.things (O.grt + 1) = none := wOk_none hK.w
      have kp : Kp H3 (upd H3 B.dT (.dK (putK kvs (Sum.inl (O.grt + 1)) (.ref q)))) := .put g1 (fun z => z)
      have c4 : Ch B.S H (upd H3 B.dT (.dK (putK kvs (Sum.inl (O.grt + 1)) (.ref q)))) := c3.trans (.put g1 (fun z => z) (by simp))
      have hO4 := hO3.setT (ths_new (t := newTh (pw O) tok kind vals) (ths_kp g2 kp) hno ⟨va, ta, .of (kp _ _ trivial hq), vals_kp hV c4.kp, tok_kp htk c4.kp⟩)
      refine ⟨_, rfl, B.a, C, B.dx, _, _, rfl, hO3.at_, T.cl, T.n_things, lk_things, _, rfl, B.dT, _, rfl, DPut.k (k := Sum.inl (O.grt + 1)) g1 (by rw [lenK]; exact Nat.lt_trans hlt (by decide)), ?_⟩
      refine omom T hO4 rfl ?_
      exact k _ _ (c4.trans (Ob.cho hO4)) (hO4.setO (O' := { O with things := O.things ++ [newTh (pw O) tok kind vals], mom := O.mom + 1, grt := O.grt + 1 }) rfl rfl rfl) (ans_DONE T)
    · rw [decide_eq_false h0]
      have eO : oMake kn O tok kind vals = O := by
        unfold oMake
        rw [if_neg h0]
      rw [eO] at k
      exact iteT ⟨_, rfl, by show 2 ≤ sizeLine; decide, fun p np => k _ _ (.of_same (s1.trans (same_upd np))) (hO1.same (same_upd np)) (ans_ref h0 np)⟩
theorem ok_Outside__change {f : Addr} {fd : FuncData} (F : Fun K "_change" "Outside._change" s_Outside__change f fd) (T : OTxt P w K mg C pC pD pN eC eD nC nD)
    {f1 : Addr} {fd1 : FuncData} (m__why_not_change : Meth K C "_why_not_change" f1) (G__why_not_change : FnOk P w K mg base CX0 3 f1 fd1 ["self", "id_of_thing", "version", "field", "value"] (spWhyChange K C)) (b__why_not_change : Binds K fd1 ["self", "id_of_thing", "version", "field", "value"] []) :
    FnOk P w K mg base CX0 4 f fd ["self", "id_of_thing", "version", "field", "value"] (spOChange K C) := by
  refine F.ok sc_Outside__change (fun vs H Q E h => ?_) (fun cdv A outer s H vs Q E hr h => ?_)
  · obtain ⟨B, O, kn, i, ver, field, v, rfl, _⟩ := h
    rfl
  · obtain ⟨B, O, kn, one, ver, field, v, rfl, hO, hK, k⟩ := h
    have hu := hu_of hr
    refine ⟨_, (pss_cons (ps_set (i := 5) sc_Outside__change.nd rfl (Or.inl rfl) (pe_meth (pv 0) T.cl m__why_not_change G__why_not_change (hr.mono (by decide)) b__why_not_change .nil pass0 (pa_cons (pv 1) (pa_cons (pv 2) (pa_cons (pv 3) (pa_cons (pv 4) pa_nil))))))
    (pss_cons (ps_if (pt_cmpR op_ne (pv 5) pe_str (nomark _))
      (pss_one (ps_ret (pe_tup (pa_cons pe_str (pa_cons (pv 5) pa_nil)))))
      pss_nil)
    (pss_cons (ps_asg (pe_dget hu (pe_fld (pv 0) rfl) (pv 1) (fun _ _ => rfl)) (pg_tup (by rfl) (pgs_cons (pg_name (i := 6) sc_Outside__change.nd rfl (Or.inl rfl)) (pgs_cons (pg_name (i := 7) sc_Outside__change.nd rfl (Or.inl rfl)) (pgs_cons (pg_name (i := 8) sc_Outside__change.nd rfl (Or.inl rfl)) (pgs_cons (pg_name (i := 9) sc_Outside__change.nd rfl (Or.inl rfl)) (pgs_cons (pg_name (i := 10) sc_Outside__change.nd rfl (Or.inl rfl)) (pgs_cons (pg_name (i := 11) sc_Outside__change.nd rfl (Or.inl rfl)) pgs_nil))))))))
    (pss_cons (ps_set (i := 8) sc_Outside__change.nd rfl (Or.inl rfl) (pe_callTy call_tupleF (by rfl) T.b_tuple (by decide +kernel) (pa_cons (pe_lc (g := (gTup K 2 (gCons (gName 12) (gCons (gName 13) gNil)))) (own := [("name", 12), ("other", 13)]) rfl sc_Outside__change.nd (pi_tup (pv 8)) (blkOk_by (own := [("name", 12), ("other", 13)]) (N := N_Outside__change) (sc := defScope s_Outside__change) (by decide +kernel)) (fun _ _ _ _ _ => (pg_tup (by rfl) (pgs_cons (pg_name (i := 12) sc_Outside__change.nd rfl (Or.inl rfl)) (pgs_cons (pg_name (i := 13) sc_Outside__change.nd rfl (Or.inl rfl)) pgs_nil)))) (fun _ _ _ _ _ => pts_nil) (fun _ _ _ _ _ => (pe_tup (pa_cons (pv 12) (pa_cons (pe_ifExp (pt_cmpR op_eq (pv 12) (pv 3) (nomark _)) (pv 4) (pv 13)) pa_nil))))) pa_nil)))
    (pss_cons (ps_dput hu (pe_fld (pv 0) rfl) (pv 1) (pe_tup (pa_cons (pv 1) (pa_cons (pv 7) (pa_cons (pv 8) (pa_cons (pe_op op_add (pv 9) pe_int) (pa_cons (pv 10) (pa_cons (pv 11) pa_nil))))))) rfl)
    (pss_cons (ps_fldaug (pv 0) pe_int in_add)
    (pss_one (ps_ret (C8.pe_gc rfl T.g_DONE))))))))), ?_⟩
    refine ⟨_, rfl, B.a, B.dx, _, rfl, hO.at_, lk_no (by decide +kernel), _, rfl, _, rfl, _, rfl, _, rfl, B, O, kn, one, ver, field, v, rfl, hO, hK, fun H1 s1 => ?_⟩
    have hO1 := hO.same s1
    refine ⟨_, rfl, rfl, _, rfl, ?_⟩
    show (if (!decide (V.str (changeW kn (pw O) none one ver field v) = V.str "")) = true then _ else _ : Prop)
    rw [deq]
    by_cases h0 : changeW kn (pw O) none one ver field v = ("" : Str)
    · rw [decide_eq_true h0]
      have eO : oChange kn O one ver field v = { O with things := setT one field v O.things, mom := O.mom + 1 } := by
        unfold oChange
        rw [if_pos h0]
      rw [eO, h0] at k
      obtain ⟨t, ht⟩ : ∃ t, tfind O.things one = some t := change_there h0
      obtain ⟨hm, hid⟩ := tfind_some ht
      obtain ⟨fs, hfs, hnm⟩ := hK.w.good t hm
      have hfew := hK.k.few _ _ hfs
      have hlv : t.vals.length = fs.length := by
        have := congrArg List.length hnm
        rwa [List.length_map, List.length_map] at this
      obtain ⟨ta, g3, va, tka, st, ⟨ps, pl, pp⟩, htk⟩ := hO1.r.thing ht
      have lp : ps.length = t.vals.length := pp.length
      refine iteF ⟨_, rfl, B.a, C, B.dx, _, _, rfl, hO1.at_, T.cl, T.n_things, lk_things, _, rfl, B.dT, _, rfl, g3, ta, _, rfl, st, rfl, _, _, rfl, _, _, rfl, _, _, rfl, _, _, rfl, _, _, rfl, _, _, rfl, rfl, ?_⟩
      -- the new values
      refine ⟨_, rfl, va, rfl, ⟨_, sqT_pl pl⟩, fun D hD => lc_tup (K := K) (a := va) (xs := ps.map V.ref) (fun i H' => ∃ qs : List Addr, Same H1 H' ∧ H' D = some (.lst (qs.map V.ref)) ∧ Paired (fun p (fv : Str × Option Int) => SqT K H' p [.str fv.1, oV fv.2]) qs (setV field v (t.vals.take i)))
        ⟨[], same_upd hD, upd_same, .nil⟩ (fun i H' _ ⟨_, h, _, _⟩ => same_seqT h (sqT_pl pl)) ?_ ?_⟩
      · rintro i x H2 hx ⟨qs, s2, hd, hq⟩
        obtain ⟨p, hp, rfl⟩ : ∃ p, ps[i]? = some p ∧ V.ref p = x := by
          rw [List.getElem?_map] at hx
          cases e : ps[i]? with
          | none => rw [e] at hx; cases hx
          | some n => rw [e] at hx; exact ⟨n, rfl, Option.some.inj hx⟩
        obtain ⟨fv, hfv, sq⟩ := par_at pp hp
        have hi := (List.getElem?_eq_some_iff.mp hp).1
        have lq : qs.length = i := by
          have := hq.length
          rw [setV_len, List.length_take] at this
          omega
        have fin : ∀ (b : Addr) (u : Option Int), H2 b = none → u = (if fv.1 = field then v else fv.2) → ∃ acc, (upd H2 b (.tup [.str fv.1, oV u])) D = some (.lst acc) ∧ acc.length < sizeLine ∧ ∃ qs : List Addr, Same H1 (upd (upd H2 b (.tup [.str fv.1, oV u])) D (.lst (acc ++ [.ref b]))) ∧ (upd (upd H2 b (.tup [.str fv.1, oV u])) D (.lst (acc ++ [.ref b]))) D = some (.lst (qs.map V.ref)) ∧ Paired (fun p (gv : Str × Option Int) => SqT K (upd (upd H2 b (.tup [.str fv.1, oV u])) D (.lst (acc ++ [.ref b]))) p [.str gv.1, oV gv.2]) qs (setV field v (t.vals.take (i + 1))) := by
          intro b u nb eu
          have sb := same_upd (o := HO.tup [.str fv.1, oV u]) nb
          have kp : Kp H2 (upd (upd H2 b (.tup [.str fv.1, oV u])) D (.lst (qs.map V.ref ++ [.ref b]))) := (Kp.of_same sb).trans (.put (sb _ _ hd) (fun z => z))
          have nbD : b ≠ D := fun z => by rw [z, hd] at nb; cases nb
          refine ⟨_, sb _ _ hd, ?_, qs ++ [b], ?_, ?_, ?_⟩
          · rw [List.length_map, lq]
            exact Nat.lt_of_lt_of_le (show i < 60 by omega) (by decide)
          · intro c o e
            rw [upd_ne (ne_of_none e hD)]
            exact sb _ _ (s2 _ _ e)
          · rw [upd_same, List.map_append]; rfl
          · have e2 : setV field v (t.vals.take (i + 1)) = setV field v (t.vals.take i) ++ [(fv.1, u)] := by
              rw [List.take_add_one, hfv]
              unfold setV
              rw [List.map_append, eu]
              rfl
            rw [e2]
            exact par_snoc (par_imp (fun _ _ q => sq_kp q kp) hq) (.of (by rw [upd_ne nbD]; exact upd_same))
        refine ⟨p, _, rfl, same_seqT s2 sq, rfl, _, _, rfl, _, _, rfl, rfl, rfl, ?_⟩
        refine ⟨_, rfl, _, rfl, _, rfl, rfl, _, rfl, ?_⟩
        show (if decide (V.str fv.1 = V.str field) = true then _ else _ : Prop)
        rw [deq]
        by_cases hfn : fv.1 = field
        · rw [decide_eq_true hfn]
          refine iteT ⟨_, rfl, by show 2 ≤ sizeLine; decide, fun b nb => fin b v nb (by rw [if_pos hfn])⟩
        · rw [decide_eq_false hfn]
          refine iteF ⟨_, rfl, by show 2 ≤ sizeLine; decide, fun b nb => fin b fv.2 nb (by rw [if_neg hfn])⟩
      · rintro H2 ⟨qs, s2, hd, hq⟩
        rw [List.length_map, lp, List.take_length] at hq
        refine ⟨D, _, rfl, SqL.of hd, fun va2 o2 nva ho2 => ?_⟩
        have s3 : Same H2 (upd H2 va2 (.frz o2 (.tup (qs.map V.ref)))) := same_upd nva
        have hV3 : ValsAt K (upd H2 va2 (.frz o2 (.tup (qs.map V.ref)))) va2 (setV field v t.vals) := ⟨qs, ⟨o2, upd_same, ho2⟩, par_imp (fun _ _ q => same_seqT s3 q) hq⟩
        have s13 := s2.trans s3
        generalize upd H2 va2 (.frz o2 (.tup (qs.map V.ref))) = H3 at s3 hV3 s13
        have hO3 := hO1.same s13
        refine ⟨_, rfl, _, rfl, _, rfl, _, rfl, _, _, rfl, rfl, _, rfl, _, rfl, by show 6 ≤ sizeLine; decide, fun p5 n5 => ?_⟩
        have s5 := same_upd (o := HO.tup [V.int one, .str t.kind, .ref va2, .int (t.ver + 1), .int t.told, .ref tka]) n5
        have hth := upd_same (H := H3) (a := p5) (o := HO.tup [V.int one, .str t.kind, .ref va2, .int (t.ver + 1), .int t.told, .ref tka])
        have hO5 := hO3.same s5
        have c5 : Ch B.S H _ := .of_same (s1.trans (s13.trans s5))
        have kp15 : Kp H1 _ := .of_same (s13.trans s5)
        have kp35 : Kp H3 _ := .of_same s5
        show tFld _ _ _ _ (upd H3 p5 (.tup [V.int one, .str t.kind, .ref va2, .int (t.ver + 1), .int t.told, .ref tka])) _
        generalize upd H3 p5 (.tup [V.int one, .str t.kind, .ref va2, .int (t.ver + 1), .int t.told, .ref tka]) = H5 at hth hO5 c5 kp15 kp35
        obtain ⟨kvs, g1, g2⟩ := hO5.things
        have lenK : kvs.length = O.things.length := g2.length
        have hlt : O.things.length < 60 := hK.w.lenT
        have kp : Kp H5 (upd H5 B.dT (.dK (putK kvs (Sum.inl one) (.ref p5)))) := .put g1 (fun z => z)
        have c6 : Ch B.S H (upd H5 B.dT (.dK (putK kvs (Sum.inl one) (.ref p5)))) := c5.trans (.put g1 (fun z => z) (by simp))
        have hO6 : Ob K (upd H5 B.dT (.dK (putK kvs (Sum.inl one) (.ref p5)))) C B { O with things := setT one field v O.things } kn := by
          refine hO5.setT ?_
          rw [set_eq (show (O.things.map (·.id)).Nodup from hK.w.nd) ht]
          refine ths_set (t' := updTh field v t) (ths_kp g2 kp) ht hid ⟨va2, tka, ?_, vals_kp hV3 (kp35.trans kp), tok_kp htk (kp15.trans kp)⟩
          have : (updTh field v t).id = one := hid
          rw [this]
          exact .of (kp _ _ trivial hth)
        refine ⟨_, rfl, B.a, C, B.dx, _, _, rfl, hO5.at_, T.cl, T.n_things, lk_things, _, rfl, B.dT, _, rfl, DPut.k (k := Sum.inl one) g1 (by rw [lenK]; exact Nat.lt_trans hlt (by decide)), ?_⟩
        refine omom T hO6 rfl ?_
        exact k _ _ (c6.trans (Ob.cho hO6)) (hO6.setO (O' := { O with things := setT one field v O.things, mom := O.mom + 1 }) rfl rfl rfl) (ans_DONE T)
    · rw [decide_eq_false h0]
      have eO : oChange kn O one ver field v = O := by
        unfold oChange
        rw [if_neg h0]
      rw [eO] at k
      exact iteT ⟨_, rfl, by show 2 ≤ sizeLine; decide, fun p np => k _ _ (.of_same (s1.trans (same_upd np))) (hO1.same (same_upd np)) (ans_ref h0 np)⟩
theorem ok_Outside__raise_fence {f : Addr} {fd : FuncData} (F : Fun K "_raise_fence" "Outside._raise_fence" s_Outside__raise_fence f fd) (T : OTxt P w K mg C pC pD pN eC eD nC nD) : FnOk P w K mg base CX0 1 f fd ["self", "owner", "run"] (spRaise K C) := by
  refine F.ok sc_Outside__raise_fence (fun vs H Q E h => ?_) (fun cdv A outer s H vs Q E hr h => ?_)
  · obtain ⟨B, O, kn, o, r, rfl, _⟩ := h
    rfl
  · obtain ⟨B, O, kn, o, r, rfl, hO, hK, k⟩ := h
    have hu := hu_of hr
    refine ⟨_, (pss_cons (ps_if (pt_cmpR op_lt (pe_dget2 hu (pe_fld (pv 0) rfl) (pv 1) pe_int ⟨by rfl, by rfl, by rfl, by rfl⟩) (pv 2) (nomark _))
      (pss_cons (ps_dput hu (pe_fld (pv 0) rfl) (pv 1) (pv 2) rfl)
      (pss_one (ps_fldaug (pv 0) pe_int in_add)))
      pss_nil)
    (pss_one (ps_ret (C8.pe_gc rfl T.g_DONE)))), ?_⟩
    refine ⟨_, rfl, B.a, C, B.dx, _, _, rfl, hO.at_, T.cl, T.n_fences, lk_fences, B.dF, rfl, .inl ⟨_, .inl hO.fences⟩, _, rfl, _, .inl ⟨_, Sum.inl o, .inl hO.fences, rfl, rfl⟩, ?_⟩
    rw [fval]
    refine ⟨_, rfl, _, _, rfl, rfl, _, rfl, ?_⟩
    show (if decide (fget O.fences o < r) = true then _ else _ : Prop)
    by_cases h0 : fget O.fences o < r
    · rw [decide_eq_true h0]
      have eO : oFence O (o, r) = { O with fences := fput O.fences o r, mom := O.mom + 1 } := by
        unfold oFence
        rw [if_pos h0]
      rw [eO] at k
      have hO2 := hO.setF (fs := fput O.fences o r)
      have hlt : O.fences.length < 60 := hK.w.lenF
      have dp := DPut.k (k := (Sum.inl o : Key)) (v := .int r) hO.fences (by unfold itK; rw [List.length_map]; exact Nat.lt_of_lt_of_le hlt (by decide))
      rw [put_fence] at dp
      refine iteT ⟨_, rfl, _, rfl, B.a, C, B.dx, _, _, rfl, hO.at_, T.cl, T.n_fences, lk_fences, _, rfl, B.dF, _, rfl, dp, ?_⟩
      refine omom T hO2 rfl ?_
      exact k _ _ ((Ch.put hO.fences (fun z => z) (by simp)).trans (Ob.cho hO2)) (hO2.setO (O' := { O with fences := fput O.fences o r, mom := O.mom + 1 }) rfl rfl rfl) (ans_DONE T)
    · rw [decide_eq_false h0]
      have eO : oFence O (o, r) = O := by
        unfold oFence
        rw [if_neg h0]
      rw [eO] at k
      exact iteF (k _ _ .refl hO (ans_DONE T))

end
end K07
namespace K07
open PySem PySem.Spec PyProof.Rows L2 LB OW
section
variable {P : Program} {w : World} {K : PySem.W.Frag} {mg : Str → Option Value} {base : Heap} {C pC pD pN : Addr} {eC eD : Array DictEntry} {nC nD : Nat}
theorem spv_in {ts : List Tk} {t : Tk} : (valV (spK ts) (kPair t)).isSome = decide (t ∈ ts) := by
  induction ts with
  | nil => rfl
  | cons e ts ih =>
    show (valV ((kPair e, V.bl true) :: spK ts) (kPair t)).isSome = _
    rw [valV_cons]
    by_cases h : e = t
    · rw [if_pos (by rw [h])]
      simp [h]
    · rw [if_neg (fun z => h (by
        have z : [Sum.inl e.1, (Sum.inl e.2 : Key)] = [Sum.inl t.1, Sum.inl t.2] := z
        injection z with z1 z2
        injection z2 with z2
        injection z1 with z1
        injection z2 with z2
        exact Prod.ext z1 z2)), ih]
      have : (t ∈ e :: ts) ↔ t ∈ ts := by
        rw [List.mem_cons]
        exact ⟨fun q => q.elim (fun z => absurd z.symm h) id, .inr⟩
      exact (decide_eq_decide.mpr this).symm
theorem put_sp {ts : List Tk} {t : Tk} : putK (spK ts) (kPair t) (.bl true) = spK (addS ts t) := by
  unfold addS
  have e := spv_in (ts := ts) (t := t)
  by_cases h : t ∈ ts
  · rw [if_pos h]
    rw [decide_eq_true h] at e
    obtain ⟨u, hu⟩ := Option.isSome_iff_exists.mp e
    rw [put_old hu]
    unfold spK
    rw [List.map_map]
    refine List.map_congr_left fun x _ => ?_
    show (if kPair x = kPair t then (kPair x, V.bl true) else (kPair x, V.bl true)) = _
    split <;> rfl
  · rw [if_neg h]
    rw [decide_eq_false h] at e
    have e2 : valV (spK ts) (kPair t) = none := by
      cases q : valV (spK ts) (kPair t) with
      | none => rfl
      | some v => rw [q] at e; cases e
    rw [put_new e2]
    unfold spK
    rw [List.map_append]
    rfl
theorem eqv_tok (a : Option Tk) (t : Tk) : PyData.eqv (tokD a) (tokD (some t)) = decide (a = some t) := by
  cases a with
  | none => rfl
  | some s =>
    obtain ⟨s1, s2⟩ := s
    obtain ⟨t1, t2⟩ := t
    simp [tokD, PyData.eqv, PyData.eqvAll]
    by_cases h1 : s1 = t1 <;> by_cases h2 : s2 = t2 <;> simp [h1, h2]
theorem eqv_tok0 (a : Option Tk) : PyData.eqv (tokD a) (.tuple []) = decide (a = none) := by
  cases a with
  | none => rfl
  | some s => rfl
theorem canTok (a : Option Tk) : (tokD a).canLay0 = true := by cases a <;> rfl
theorem depTok (a : Option Tk) : (tokD a).depth ≤ 2 := by cases a <;> simp [tokD, PyData.depth, PyData.depthAll]
theorem can_toks' : ∀ (l : List Th), PyData.canLayAll0 (l.map fun t => tokD t.tok) = true
  | [] => rfl
  | x :: l => by rw [List.map_cons, PyData.canLayAll0, canTok, can_toks' l]; rfl
theorem dep_toks' : ∀ (l : List Th), PyData.depthAll (l.map fun t => tokD t.tok) ≤ 2
  | [] => by simp [PyData.depthAll]
  | x :: l => by
    have h := dep_toks' l
    have h2 := depTok x.tok
    rw [List.map_cons, PyData.depthAll]
    omega
theorem shaped_toks (l : List Th) : SeqAt.shaped (.list (l.map fun t => tokD t.tok)) = true := by
  have h1 := can_toks' l
  have h2 := dep_toks' l
  unfold SeqAt.shaped
  have e1 : (PyData.list (l.map fun t => tokD t.tok)).canLay0 = true := h1
  have e2 : (PyData.list (l.map fun t => tokD t.tok)).depth ≤ 64 := by
    have : (PyData.list (l.map fun t => tokD t.tok)).depth = PyData.depthAll (l.map fun t => tokD t.tok) + 1 := by simp [PyData.depth]
    rw [this]; omega
  rw [e1, decide_eq_true e2]
  rfl
theorem shaped_tok (a : Option Tk) : SeqAt.shaped (tokD a) = true := by cases a <;> rfl
theorem ok_Outside__was_used {f : Addr} {fd : FuncData} (F : Fun K "_was_used" "Outside._was_used" s_Outside__was_used f fd) (T : OTxt P w K mg C pC pD pN eC eD nC nD) : FnOk P w K mg base CX0 1 f fd ["self", "token"] (spUsed K C) := by
  refine F.ok sc_Outside__was_used (fun vs H Q E h => ?_) (fun cdv A outer s H vs Q E hr h => ?_)
  · obtain ⟨B, O, kn, ta, t, rfl, _⟩ := h
    rfl
  · obtain ⟨B, O, kn, ta, t, rfl, hO, hK, hta, k⟩ := h
    have hu := hu_of hr
    refine ⟨_, (pss_one (ps_ret (pe_or (pe_cmp (pc_din hu (pv 1) (pe_fld (pv 0) rfl))) (pe_one (pe_cmpR (op_inD hr.u65) (pv 1) (pe_lock (pe_lc (own := [("thing", 2)]) rfl sc_Outside__was_used.nd (pi_values (pe_fld (pv 0) rfl)) (blkOk_by (own := [("thing", 2)]) (N := N_Outside__was_used) (sc := defScope s_Outside__was_used) (by decide +kernel)) (fun _ _ _ _ _ => (pg_name (i := 2) sc_Outside__was_used.nd rfl (Or.inl rfl))) (fun _ _ _ _ _ => pts_nil) (fun _ _ _ _ _ => (pe_ix (ix_tup : IxR _ (rIxT K)) (pv 2) pe_int (fun _ _ => rfl))))) (by rfl)))))), ?_⟩
    unfold usedB at k
    refine ⟨_, rfl, _, rfl, B.a, C, B.dx, _, _, rfl, hO.at_, T.cl, T.n_spent, lk_spent, B.dS, _, rfl, .inr ⟨_, kPair t, ta, .inl hO.spent, rfl, hta, rfl⟩, _, rfl, ?_⟩
    rw [spv_in]
    by_cases h0 : t ∈ O.spent
    · rw [decide_eq_true h0] at k ⊢
      exact iteT (k H fun _ _ e => e)
    · rw [decide_eq_false h0] at k ⊢
      refine iteF ⟨_, rfl, ?_⟩
      obtain ⟨kvs, g1, g2⟩ := hO.things
      have lenK : kvs.length = O.things.length := g2.length
      have hlt : O.things.length < 60 := hK.w.lenT
      refine ⟨B.dT, _, g1, trivial, fun od => ?_⟩
      have hL := hO.lock (od := od) g1
      have g2L := ths_kp g2 (kp_lock (od := od) g1)
      refine ⟨_, rfl, B.a, C, B.dx, _, _, rfl, hL.at_, T.cl, T.n_things, lk_things, B.dT, od, kvs, rfl, upd_same, fun D hD => lc_it walk_values (fun i H' => Same (upd H B.dT (.frz od (.dK kvs))) H' ∧ ∃ as : List Addr, H' D = some (.lst (as.map V.ref)) ∧ Paired (fun a (t : Th) => TokAt K H' a t.tok) as (O.things.take i)) ⟨same_upd hD, [], upd_same, .nil⟩ (fun i H' _ h => h.1 _ _ upd_same) ?_ ?_⟩
      · rintro i x H1 H2 hi ⟨s1, as, hd, hP⟩ ⟨rfl, key, hkv⟩
        obtain ⟨th, hth, ekey, tb, ev, hA⟩ := par_at g2L hkv
        have ev : x = .ref tb := ev
        subst ev
        obtain ⟨va, tka, st, hv, htk⟩ := th_kp hA (.of_same s1)
        have hi2 := (List.getElem?_eq_some_iff.mp hth).1
        have la : as.length = i := by
          have := hP.length
          rw [List.length_take] at this
          omega
        have kp : Kp H2 (upd H2 D (.lst (as.map V.ref ++ [.ref tka]))) := .put hd (fun z => z)
        refine ⟨rfl, _, rfl, tb, _, _, _, rfl, rfl, st, atI_nat (j := 5) rfl, _, hd, ?_, fun b o z => ?_, as ++ [tka], ?_, ?_⟩
        · rw [List.length_map, la]
          exact Nat.lt_of_lt_of_le (show i < 60 by omega) (by decide)
        · rw [upd_ne (ne_of_none z hD)]
          exact s1 _ _ z
        · rw [upd_same, List.map_append]; rfl
        · rw [List.take_add_one, hth]
          exact par_snoc (par_imp (fun _ _ q => tok_kp q kp) hP) (tok_kp htk kp)
      · rintro H1 ⟨s1, as, hd, hP⟩
        rw [lenK, List.take_length] at hP
        refine ⟨same_frz s1, ?_⟩
        have nD : D ≠ B.dT := fun z => by rw [z, upd_same] at hD; cases hD
        have s2 : Same H (upd H1 B.dT (.dK kvs)) := same_unlock g1 s1
        have hd2 : upd H1 B.dT (.dK kvs) D = some (.lst (as.map V.ref)) := by rw [upd_ne nD]; exact hd
        have hP2 : Paired (fun a (t : Th) => TokAt K (upd H1 B.dT (.dK kvs)) a t.tok) as O.things := par_imp (fun _ _ q => tok_kp q (.put (same_frz s1) (fun z => z))) hP
        refine ⟨tokD (some t), (O.things.map fun t : Th => tokD t.tok), .tup (.of (s2 _ _ hta)) (.cons (.int _) (.cons (.int _) .nil)), .lst (SqL.of hd2) (dpAll_par (f := fun t : Th => tokD t.tok) (fun a t q => tok_dp q) hP2), shaped_tok _, shaped_toks _, ?_⟩
        rw [List.any_map]
        have e : (O.things.any ((fun z => PyData.eqv z (tokD (some t))) ∘ fun t => tokD t.tok)) = O.things.any fun th => decide (th.tok = some t) := by
          congr 1
          funext x
          exact eqv_tok x.tok t
        rw [e]
        exact k _ s2
theorem ok_Outside__take {f : Addr} {fd : FuncData} (F : Fun K "_take" "Outside._take" s_Outside__take f fd) (T : OTxt P w K mg C pC pD pN eC eD nC nD)
    {f1 f2 : Addr} {fd1 fd2 : FuncData} (m__why_not_reach : Meth K C "_why_not_reach" f1) (G__why_not_reach : FnOk P w K mg base CX0 1 f1 fd1 ["self", "id_of_thing", "version"] (spReach K C)) (b__why_not_reach : Binds K fd1 ["self", "id_of_thing", "version"] [])
    (m__is_needed : Meth K C "_is_needed" f2) (G__is_needed : FnOk P w K mg base CX0 2 f2 fd2 ["self", "id_of_thing"] (spIsNeeded K C)) (b__is_needed : Binds K fd2 ["self", "id_of_thing"] []) :
    FnOk P w K mg base CX0 3 f fd ["self", "id_of_thing", "version"] (spOTake K C) := by
  refine F.ok sc_Outside__take (fun vs H Q E h => ?_) (fun cdv A outer s H vs Q E hr h => ?_)
  · obtain ⟨B, O, kn, i, ver, rfl, _⟩ := h
    rfl
  · obtain ⟨B, O, kn, one, ver, rfl, hO, hK, k⟩ := h
    have hu := hu_of hr
    refine ⟨_, (pss_cons (ps_set (i := 3) sc_Outside__take.nd rfl (Or.inl rfl) (pe_meth (pv 0) T.cl m__why_not_reach G__why_not_reach (hr.mono (by decide)) b__why_not_reach .nil pass0 (pa_cons (pv 1) (pa_cons (pv 2) pa_nil))))
    (pss_cons (ps_if (PW.pt (pw_and (pt_cmpR op_eq (pv 3) pe_str (nomark _)) (pw_and1 (pt_val (pe_meth (pv 0) T.cl m__is_needed G__is_needed (hr.mono (by decide)) b__is_needed .nil pass0 (pa_cons (pv 1) pa_nil))))))
      (pss_one (ps_set (i := 3) sc_Outside__take.nd rfl (Or.inl rfl) pe_str))
      pss_nil)
    (pss_cons (ps_if (pt_cmpR op_ne (pv 3) pe_str (nomark _))
      (pss_one (ps_ret (pe_tup (pa_cons pe_str (pa_cons (pv 3) pa_nil)))))
      pss_nil)
    (pss_cons (ps_set (i := 4) sc_Outside__take.nd rfl (Or.inl rfl) (pe_ix ix_tup (pe_dget hu (pe_fld (pv 0) rfl) (pv 1) (fun _ _ => rfl)) pe_int (fun _ _ => rfl)))
    (pss_cons (ps_if (pt_cmpR (op_neD hr.units) (pv 4) (pe_tup pa_nil) (nomark _))
      (pss_one (ps_dput hu (pe_fld (pv 0) rfl) (pv 4) pe_bl rfl))
      pss_nil)
    (pss_cons (ps_ddel (pe_fld (pv 0) rfl) (pv 1))
    (pss_cons (ps_fldaug (pv 0) pe_int in_add)
    (pss_one (ps_ret (C8.pe_gc rfl T.g_DONE)))))))))), ?_⟩
    refine ⟨_, rfl, B.a, B.dx, _, rfl, hO.at_, lk_no (by decide +kernel), _, rfl, _, rfl, B, O, kn, one, ver, rfl, hO.r, ?_⟩
    have bad : ¬ takeW kn (pw O) none one ver = ("" : Str) → ∀ H1, Same H H1 → ∀ v H', Same H1 H' → AnsAt K H' v (takeW kn (pw O) none one ver) → Q v H' := fun h0 H1 s1 v H' s' ha => by
      have eO : oTake kn O one ver = O := by
        unfold oTake
        rw [if_neg h0]
      rw [eO] at k
      exact k v H' (.of_same (s1.trans s')) (hO.same (s1.trans s')) ha
    refine ⟨_, rfl, rfl, _, rfl, ?_⟩
    show (if decide (V.str (otherW (pw O) none one ver) = V.str "") = true then _ else _ : Prop)
    rw [deq]
    by_cases h1 : otherW (pw O) none one ver = ("" : Str)
    · rw [decide_eq_true h1]
      refine iteT ⟨_, rfl, B.a, B.dx, _, rfl, hO.at_, lk_no (by decide +kernel), _, rfl, B, O, kn, one, rfl, hO, hK, fun H1 s1 => ⟨_, rfl, ?_⟩⟩
      have hO1 := hO.same s1
      have eT : takeW kn (pw O) none one ver = if neededB kn O.things one = true then ("needed" : Str) else "" := by
        unfold takeW
        rw [if_pos h1]
        rfl
      cases hn : neededB kn O.things one with
      | true =>
        rw [hn] at eT
        have eT : takeW kn (pw O) none one ver = ("needed" : Str) := eT
        rw [eT] at bad
        refine iteT ?_
        refine ⟨_, rfl, rfl, _, rfl, ?_⟩
        show (if (!decide (V.str "needed" = V.str "")) = true then _ else _ : Prop)
        rw [deq, decide_eq_false (show ¬ ("needed" : Str) = "" by decide +kernel)]
        have nn : ¬ ("needed" : Str) = "" := by decide +kernel
        exact iteT ⟨_, rfl, by show 2 ≤ sizeLine; decide, fun p np => bad nn H1 s1 _ _ (same_upd np) (ans_ref nn np)⟩
      | false =>
        rw [hn] at eT
        have h0 : takeW kn (pw O) none one ver = ("" : Str) := eT
        have eO : oTake kn O one ver = { O with things := dropT one O.things, spent := takeS O one, mom := O.mom + 1 } := by
          unfold oTake
          rw [if_pos h0]
        rw [eO, h0] at k
        obtain ⟨t, ht⟩ : ∃ t, tfind O.things one = some t := take_there h0
        refine iteF ⟨_, rfl, rfl, _, rfl, ?_⟩
        show (if (!decide (V.str (otherW (pw O) none one ver) = V.str "")) = true then _ else _ : Prop)
        rw [deq, decide_eq_true h1]
        obtain ⟨ta, g3, va, tka, st, hv, htk⟩ := hO1.r.thing ht
        refine iteF ⟨_, rfl, B.a, C, B.dx, _, _, rfl, hO1.at_, T.cl, T.n_things, lk_things, _, rfl, B.dT, _, rfl, g3, ta, _, _, _, rfl, rfl, st, atI_nat (j := 5) rfl, ?_⟩
        -- the end, behind the token
        have fin : ∀ H2, Ch B.S H H2 → Ob K H2 C B { O with spent := takeS O one } kn → ∃ kvs, H2 B.dT = some (.dK kvs) ∧ (valV kvs (Sum.inl one)).isSome = true ∧ Ch B.S H (upd H2 B.dT (.dK (dropK kvs (Sum.inl one)))) ∧ Ob K (upd H2 B.dT (.dK (dropK kvs (Sum.inl one)))) C B { O with things := dropT one O.things, spent := takeS O one } kn := by
          intro H2 c2 hO2
          obtain ⟨kvs, g1, g2⟩ := hO2.things
          obtain ⟨a, e, _⟩ := ths_some g2 (show tfind O.things one = some t from ht)
          exact ⟨kvs, g1, by rw [e]; rfl, c2.trans (.put g1 (fun z => z) (by simp)), hO2.setT (ths_drop (ths_kp g2 (.put g1 (fun z => z))))⟩
        refine ⟨_, rfl, Nat.zero_le _, fun p np => ?_⟩
        have sp := same_upd (o := HO.tup []) np
        refine ⟨tokD t.tok, .tuple [], dp_mono sp _ _ (tok_dp htk), .tup (.of upd_same) .nil, shaped_tok _, by rfl, _, rfl, ?_⟩
        rw [eqv_tok0]
        have hO2 := hO1.same sp
        have s2 := s1.trans sp
        have htk2 := tok_kp htk (.of_same sp)
        generalize upd H1 p (.tup []) = H2 at sp hO2 s2 htk2
        cases htt : t.tok with
        | none =>
          have eS : takeS O one = O.spent := by
            unfold takeS
            rw [ht]
            show (match t.tok with | none => _ | some t => _) = _
            rw [htt]
          have hO3 : Ob K H2 C B { O with spent := takeS O one } kn := by rw [eS]; exact hO2
          obtain ⟨kvs, g1, gs, c4, hO4⟩ := fin H2 (.of_same s2) hO3
          rw [decide_eq_true rfl]
          refine iteF ⟨_, rfl, B.a, C, B.dx, _, _, rfl, hO2.at_, T.cl, T.n_things, lk_things, _, rfl, B.dT, kvs, Sum.inl one, rfl, g1, rfl, gs, ?_⟩
          refine omom T hO4 rfl ?_
          exact k _ _ (c4.trans (Ob.cho hO4)) (hO4.setO (O' := { O with things := dropT one O.things, spent := takeS O one, mom := O.mom + 1 }) rfl rfl rfl) (ans_DONE T)
        | some tk =>
          have eS : takeS O one = addS O.spent tk := by
            unfold takeS
            rw [ht]
            show (match t.tok with | none => _ | some t => _) = _
            rw [htt]
          rw [htt] at htk2
          have hlS := hK.lenS
          have dp := DPut.t (v := .bl true) (k := kPair tk) hO2.spent htk2 (by unfold spK; rw [List.length_map]; exact Nat.lt_of_lt_of_le hlS (by decide))
          rw [put_sp] at dp
          have hO3 : Ob K (upd H2 B.dS (.dT (spK (addS O.spent tk)))) C B { O with spent := takeS O one } kn := by rw [eS]; exact hO2.setS
          obtain ⟨kvs, g1, gs, c4, hO4⟩ := fin _ ((Ch.of_same s2).trans (.put hO2.spent (fun z => z) (by simp))) hO3
          rw [decide_eq_false (fun z => by cases z)]
          refine iteT ⟨_, rfl, B.a, C, B.dx, _, _, rfl, hO2.at_, T.cl, T.n_spent, lk_spent, _, rfl, B.dS, _, rfl, dp, ?_⟩
          refine ⟨_, rfl, B.a, C, B.dx, _, _, rfl, hO3.at_, T.cl, T.n_things, lk_things, _, rfl, B.dT, kvs, Sum.inl one, rfl, g1, rfl, gs, ?_⟩
          refine omom T hO4 rfl ?_
          exact k _ _ (c4.trans (Ob.cho hO4)) (hO4.setO (O' := { O with things := dropT one O.things, spent := takeS O one, mom := O.mom + 1 }) rfl rfl rfl) (ans_DONE T)
    · rw [decide_eq_false h1]
      have eT : takeW kn (pw O) none one ver = otherW (pw O) none one ver := by
        unfold takeW
        rw [if_neg h1]
      rw [eT] at bad
      refine iteF (iteF ⟨_, rfl, rfl, _, rfl, ?_⟩)
      show (if (!decide (V.str (otherW (pw O) none one ver) = V.str "")) = true then _ else _ : Prop)
      rw [deq, decide_eq_false h1]
      exact iteT ⟨_, rfl, by show 2 ≤ sizeLine; decide, fun p np => bad h1 H (fun _ _ e => e) _ _ (same_upd np) (ans_ref h1 np)⟩
end
end K07
namespace K07
open PySem PySem.Spec PyProof.Rows L2 LB OW
section
variable {P : Program} {w : World} {K : PySem.W.Frag} {mg : Str → Option Value} {base : Heap} {C pC pD pN : Addr} {eC eD : Array DictEntry} {nC nD : Nat}
theorem ok_Outside__answer_to {f : Addr} {fd : FuncData} (F : Fun K "_answer_to" "Outside._answer_to" s_Outside__answer_to f fd) (T : OTxt P w K mg C pC pD pN eC eD nC nD)
    {f1 f2 f3 f4 f5 : Addr} {fd1 fd2 fd3 fd4 fd5 : FuncData} (m__raise_fence : Meth K C "_raise_fence" f1) (G__raise_fence : FnOk P w K mg base CX0 1 f1 fd1 ["self", "owner", "run"] (spRaise K C)) (b__raise_fence : Binds K fd1 ["self", "owner", "run"] [])
    (m__was_used : Meth K C "_was_used" f2) (G__was_used : FnOk P w K mg base CX0 1 f2 fd2 ["self", "token"] (spUsed K C)) (b__was_used : Binds K fd2 ["self", "token"] [])
    (m__make : Meth K C "_make" f3) (G__make : FnOk P w K mg base CX0 4 f3 fd3 ["self", "token", "kind", "values"] (spOMake K C)) (b__make : Binds K fd3 ["self", "token", "kind", "values"] [])
    (m__change : Meth K C "_change" f4) (G__change : FnOk P w K mg base CX0 4 f4 fd4 ["self", "id_of_thing", "version", "field", "value"] (spOChange K C)) (b__change : Binds K fd4 ["self", "id_of_thing", "version", "field", "value"] [])
    (m__take : Meth K C "_take" f5) (G__take : FnOk P w K mg base CX0 3 f5 fd5 ["self", "id_of_thing", "version"] (spOTake K C)) (b__take : Binds K fd5 ["self", "id_of_thing", "version"] []) :
    FnOk P w K mg base CX0 5 f fd ["self", "call"] (spAnswer K C) := by
  refine F.ok sc_Outside__answer_to (fun vs H Q E h => ?_) (fun cdv A outer s H vs Q E hr h => ?_)
  · obtain ⟨B, O, kn, a, c, rfl, _⟩ := h
    rfl
  · obtain ⟨B, O, kn, a, c, rfl, hO, hK, hC, k⟩ := h
    have hu := hu_of hr
    refine ⟨_, (pss_cons (ps_asg (pv 1) (pg_star (n := 3) (i := 2) (by rfl) (pgs_cons (pg_name (i := 2) sc_Outside__answer_to.nd rfl (Or.inl rfl)) (pgs_cons (pg_tup (by rfl) (pgs_cons (pg_name (i := 3) sc_Outside__answer_to.nd rfl (Or.inl rfl)) (pgs_cons (pg_name (i := 4) sc_Outside__answer_to.nd rfl (Or.inl rfl)) pgs_nil))) (pgs_cons (pg_name (i := 5) sc_Outside__answer_to.nd rfl (Or.inl rfl)) pgs_nil)))))
    (pss_cons (ps_if (pt_cmpR op_eq (pv 2) pe_str (nomark _))
      (pss_one (ps_ret (pe_meth (pv 0) T.cl m__raise_fence G__raise_fence (hr.mono (by decide)) b__raise_fence .nil pass0 (pa_cons (pv 3) (pa_cons (pv 4) pa_nil)))))
      pss_nil)
    (pss_cons (ps_if (pt_cmpR op_lt (pv 4) (pe_dget2 hu (pe_fld (pv 0) rfl) (pv 3) pe_int ⟨by rfl, by rfl, by rfl, by rfl⟩) (nomark _))
      (pss_one (ps_ret (pe_tup (pa_cons pe_str (pa_cons pe_str pa_nil)))))
      pss_nil)
    (pss_cons (ps_if (pt_cmpR op_eq (pv 2) pe_str (nomark _))
      (pss_cons (ps_asg (pv 5) (pg_lst (by rfl) (pgs_cons (pg_name (i := 6) sc_Outside__answer_to.nd rfl (Or.inl rfl)) (pgs_cons (pg_name (i := 7) sc_Outside__answer_to.nd rfl (Or.inl rfl)) (pgs_cons (pg_name (i := 8) sc_Outside__answer_to.nd rfl (Or.inl rfl)) pgs_nil)))))
      (pss_one (ps_ret (pe_ifExp (pt_val (pe_meth (pv 0) T.cl m__was_used G__was_used (hr.mono (by decide)) b__was_used .nil pass0 (pa_cons (pv 6) pa_nil))) (C8.pe_gc rfl T.g_DONE) (pe_meth (pv 0) T.cl m__make G__make (hr.mono (by decide)) b__make .nil pass0 (pa_cons (pv 6) (pa_cons (pv 7) (pa_cons (pv 8) pa_nil))))))))
      pss_nil)
    (pss_cons (ps_if (pt_cmpR op_eq (pv 2) pe_str (nomark _))
      (pss_cons (ps_asg (pv 5) (pg_lst (by rfl) (pgs_cons (pg_name (i := 9) sc_Outside__answer_to.nd rfl (Or.inl rfl)) (pgs_cons (pg_name (i := 10) sc_Outside__answer_to.nd rfl (Or.inl rfl)) (pgs_cons (pg_name (i := 11) sc_Outside__answer_to.nd rfl (Or.inl rfl)) (pgs_cons (pg_name (i := 12) sc_Outside__answer_to.nd rfl (Or.inl rfl)) pgs_nil))))))
      (pss_one (ps_ret (pe_meth (pv 0) T.cl m__change G__change (hr.mono (by decide)) b__change .nil pass0 (pa_cons (pv 9) (pa_cons (pv 10) (pa_cons (pv 11) (pa_cons (pv 12) pa_nil))))))))
      pss_nil)
    (pss_cons (ps_asg (pv 5) (pg_lst (by rfl) (pgs_cons (pg_name (i := 9) sc_Outside__answer_to.nd rfl (Or.inl rfl)) (pgs_cons (pg_name (i := 10) sc_Outside__answer_to.nd rfl (Or.inl rfl)) pgs_nil))))
    (pss_one (ps_ret (pe_meth (pv 0) T.cl m__take G__take (hr.mono (by decide)) b__take .nil pass0 (pa_cons (pv 9) (pa_cons (pv 10) pa_nil))))))))))), ?_⟩
    cases c with
    | fence m =>
      obtain ⟨ma, sa, sm⟩ := hC
      refine ⟨_, rfl, a, _, rfl, sa, by show 3 ≤ 2 + 1; decide, fun D hD => ?_⟩
      have sD := same_upd (o := HO.lst []) hD
      refine ⟨_, _, rfl, _, _, rfl, ma, _, rfl, same_seqT sD sm, rfl, _, _, rfl, _, _, rfl, rfl, _, _, rfl, rfl, ?_⟩
      refine ⟨_, rfl, rfl, _, rfl, ?_⟩
      rw [deq, decide_eq_true (show ("fence" : Str) = "fence" from rfl)]
      refine iteT ⟨_, rfl, B.a, B.dx, _, rfl, (hO.same sD).at_, lk_no (by decide +kernel), _, rfl, _, rfl, B, O, kn, m.1, m.2, rfl, hO.same sD, hK, fun v H' c' o' ha => k v H' ((Ch.of_same sD).trans c') o' ha⟩
    | make m t kind vals =>
      obtain ⟨ma, ta, va, fs, sa, sm, ht, hV, hf, hlen, hH⟩ := hC
      have k1 : oAns kn O (.make m t kind vals) = if m.2 < fget O.fences m.1 then O else if usedB O t = true then O else oMake kn O (some t) kind vals := rfl
      have k2 : oWhy kn O (.make m t kind vals) = if m.2 < fget O.fences m.1 then ("old" : Str) else if usedB O t = true then "" else makeW kn (pw O) none none kind vals := rfl
      refine ⟨_, rfl, a, _, rfl, sa, by show 3 ≤ 5 + 1; decide, fun D hD => ?_⟩
      have sD := same_upd (o := HO.lst [.ref ta, .str kind, .ref va]) hD
      have hl := upd_same (H := H) (a := D) (o := HO.lst [.ref ta, .str kind, .ref va])
      have hO1 := hO.same sD
      refine ⟨_, _, rfl, _, _, rfl, ma, _, rfl, same_seqT sD sm, rfl, _, _, rfl, _, _, rfl, rfl, _, _, rfl, rfl, ?_⟩
      refine ⟨_, rfl, rfl, _, rfl, ?_⟩
      rw [deq, decide_eq_false (show ¬ ("make" : Str) = "fence" by decide +kernel)]
      refine iteF ⟨_, rfl, ?_⟩
      refine ⟨_, rfl, B.a, C, B.dx, _, _, rfl, hO1.at_, T.cl, T.n_fences, lk_fences, B.dF, rfl, .inl ⟨_, .inl hO1.fences⟩, _, rfl, _, .inl ⟨_, Sum.inl m.1, .inl hO1.fences, rfl, rfl⟩, ?_⟩
      rw [fval]
      refine ⟨_, _, rfl, rfl, _, rfl, ?_⟩
      show (if decide (m.2 < fget O.fences m.1) = true then _ else _ : Prop)
      by_cases h0 : m.2 < fget O.fences m.1
      · rw [decide_eq_true h0]
        rw [if_pos h0] at k1 k2
        have nn : ¬ ("old" : Str) = "" := by decide +kernel
        refine iteT ⟨by show 2 ≤ sizeLine; decide, fun p np => ?_⟩
        have := ans_ref (K := K) nn np
        rw [k1, k2] at k
        exact k _ _ (.of_same (sD.trans (same_upd np))) (hO1.same (same_upd np)) this
      rw [decide_eq_false h0]
      rw [if_neg h0] at k1 k2
      rw [k1, k2] at k
      refine iteF ⟨_, rfl, rfl, _, rfl, ?_⟩
      rw [deq, decide_eq_true (show ("make" : Str) = "make" from rfl)]
      refine iteT ⟨_, rfl, D, _, rfl, SqL.of hl, rfl, _, _, rfl, _, _, rfl, _, _, rfl, rfl, ?_⟩
      refine ⟨_, rfl, B.a, B.dx, _, rfl, hO1.at_, lk_no (by decide +kernel), _, rfl, B, O, kn, ta, t, rfl, hO1, hK, sD _ _ ht, fun H2 s2 => ⟨_, rfl, ?_⟩⟩
      have hO2 := hO1.same s2
      cases hu2 : usedB O t with
      | true =>
        rw [hu2] at k
        exact iteT (k _ _ (.of_same (sD.trans s2)) hO2 (ans_DONE T))
      | false =>
        rw [hu2] at k
        refine iteF ⟨_, rfl, B.a, B.dx, _, rfl, hO2.at_, lk_no (by decide +kernel), _, rfl, _, rfl, _, rfl, B, O, kn, ta, some t, kind, va, vals, fs, rfl, hO2, hK, s2 _ _ (sD _ _ ht), hf, vals_kp hV (.of_same (sD.trans s2)), hlen, hH, fun v H' c' o' ha => k v H' ((Ch.of_same (sD.trans s2)).trans c') o' ha⟩
    | change m one ver field v =>
      obtain ⟨ma, sa, sm⟩ := hC
      have k1 : oAns kn O (.change m one ver field v) = if m.2 < fget O.fences m.1 then O else oChange kn O one (some ver) field v := rfl
      have k2 : oWhy kn O (.change m one ver field v) = if m.2 < fget O.fences m.1 then ("old" : Str) else changeW kn (pw O) none one (some ver) field v := rfl
      refine ⟨_, rfl, a, _, rfl, sa, by show 3 ≤ 6 + 1; decide, fun D hD => ?_⟩
      have sD := same_upd (o := HO.lst [.int one, .int ver, .str field, oV v]) hD
      have hl := upd_same (H := H) (a := D) (o := HO.lst [.int one, .int ver, .str field, oV v])
      have hO1 := hO.same sD
      refine ⟨_, _, rfl, _, _, rfl, ma, _, rfl, same_seqT sD sm, rfl, _, _, rfl, _, _, rfl, rfl, _, _, rfl, rfl, ?_⟩
      refine ⟨_, rfl, rfl, _, rfl, ?_⟩
      rw [deq, decide_eq_false (show ¬ ("change" : Str) = "fence" by decide +kernel)]
      refine iteF ⟨_, rfl, ?_⟩
      refine ⟨_, rfl, B.a, C, B.dx, _, _, rfl, hO1.at_, T.cl, T.n_fences, lk_fences, B.dF, rfl, .inl ⟨_, .inl hO1.fences⟩, _, rfl, _, .inl ⟨_, Sum.inl m.1, .inl hO1.fences, rfl, rfl⟩, ?_⟩
      rw [fval]
      refine ⟨_, _, rfl, rfl, _, rfl, ?_⟩
      show (if decide (m.2 < fget O.fences m.1) = true then _ else _ : Prop)
      by_cases h0 : m.2 < fget O.fences m.1
      · rw [decide_eq_true h0]
        rw [if_pos h0] at k1 k2
        have nn : ¬ ("old" : Str) = "" := by decide +kernel
        refine iteT ⟨by show 2 ≤ sizeLine; decide, fun p np => ?_⟩
        have := ans_ref (K := K) nn np
        rw [k1, k2] at k
        exact k _ _ (.of_same (sD.trans (same_upd np))) (hO1.same (same_upd np)) this
      rw [decide_eq_false h0]
      rw [if_neg h0] at k1 k2
      rw [k1, k2] at k
      refine iteF ⟨_, rfl, rfl, _, rfl, ?_⟩
      rw [deq, decide_eq_false (show ¬ ("change" : Str) = "make" by decide +kernel)]
      refine iteF ⟨_, rfl, rfl, _, rfl, ?_⟩
      rw [deq, decide_eq_true (show ("change" : Str) = "change" from rfl)]
      refine iteT ⟨_, rfl, D, _, rfl, SqL.of hl, rfl, _, _, rfl, _, _, rfl, _, _, rfl, _, _, rfl, rfl, ?_⟩
      exact ⟨_, rfl, B.a, B.dx, _, rfl, hO1.at_, lk_no (by decide +kernel), _, rfl, _, rfl, _, rfl, _, rfl, B, O, kn, one, some ver, field, v, rfl, hO1, hK, fun u H' c' o' ha => k u H' ((Ch.of_same sD).trans c') o' ha⟩
    | take m one ver =>
      obtain ⟨ma, sa, sm⟩ := hC
      have k1 : oAns kn O (.take m one ver) = if m.2 < fget O.fences m.1 then O else oTake kn O one (some ver) := rfl
      have k2 : oWhy kn O (.take m one ver) = if m.2 < fget O.fences m.1 then ("old" : Str) else takeW kn (pw O) none one (some ver) := rfl
      refine ⟨_, rfl, a, _, rfl, sa, by show 3 ≤ 4 + 1; decide, fun D hD => ?_⟩
      have sD := same_upd (o := HO.lst [.int one, .int ver]) hD
      have hl := upd_same (H := H) (a := D) (o := HO.lst [.int one, .int ver])
      have hO1 := hO.same sD
      refine ⟨_, _, rfl, _, _, rfl, ma, _, rfl, same_seqT sD sm, rfl, _, _, rfl, _, _, rfl, rfl, _, _, rfl, rfl, ?_⟩
      refine ⟨_, rfl, rfl, _, rfl, ?_⟩
      rw [deq, decide_eq_false (show ¬ ("take" : Str) = "fence" by decide +kernel)]
      refine iteF ⟨_, rfl, ?_⟩
      refine ⟨_, rfl, B.a, C, B.dx, _, _, rfl, hO1.at_, T.cl, T.n_fences, lk_fences, B.dF, rfl, .inl ⟨_, .inl hO1.fences⟩, _, rfl, _, .inl ⟨_, Sum.inl m.1, .inl hO1.fences, rfl, rfl⟩, ?_⟩
      rw [fval]
      refine ⟨_, _, rfl, rfl, _, rfl, ?_⟩
      show (if decide (m.2 < fget O.fences m.1) = true then _ else _ : Prop)
      by_cases h0 : m.2 < fget O.fences m.1
      · rw [decide_eq_true h0]
        rw [if_pos h0] at k1 k2
        have nn : ¬ ("old" : Str) = "" := by decide +kernel
        refine iteT ⟨by show 2 ≤ sizeLine; decide, fun p np => ?_⟩
        have := ans_ref (K := K) nn np
        rw [k1, k2] at k
        exact k _ _ (.of_same (sD.trans (same_upd np))) (hO1.same (same_upd np)) this
      rw [decide_eq_false h0]
      rw [if_neg h0] at k1 k2
      rw [k1, k2] at k
      refine iteF ⟨_, rfl, rfl, _, rfl, ?_⟩
      rw [deq, decide_eq_false (show ¬ ("take" : Str) = "make" by decide +kernel)]
      refine iteF ⟨_, rfl, rfl, _, rfl, ?_⟩
      rw [deq, decide_eq_false (show ¬ ("take" : Str) = "change" by decide +kernel)]
      refine iteF ⟨_, rfl, D, _, rfl, SqL.of hl, rfl, _, _, rfl, _, _, rfl, rfl, ?_⟩
      exact ⟨_, rfl, B.a, B.dx, _, rfl, hO1.at_, lk_no (by decide +kernel), _, rfl, _, rfl, B, O, kn, one, some ver, rfl, hO1, hK, fun u H' c' o' ha => k u H' ((Ch.of_same sD).trans c') o' ha⟩
end
end K07
namespace K07
open PySem PySem.Spec PyProof.Rows L2 LB OW
section
variable {P : Program} {w : World} {K : PySem.W.Frag} {mg : Str → Option Value} {base : Heap}
theorem dps_ints {H : Hp} : ∀ (l : List Int), DpAll K H (l.map V.int) (l.map PyData.int)
  | [] => .nil
  | x :: l => .cons (.int x) (dps_ints l)
theorem can_ints : ∀ (l : List Int), PyData.canLayAll0 (l.map PyData.int) = true
  | [] => rfl
  | x :: l => by
    have h1 := can_ints l
    simp [PyData.canLayAll0, PyData.canLay0, h1]
theorem dep_ints : ∀ (l : List Int), PyData.depthAll (l.map PyData.int) ≤ 1
  | [] => by simp [PyData.depthAll]
  | x :: l => by
    have h := dep_ints l
    simp [PyData.depthAll, PyData.depth]
    omega
theorem shaped_ints (l : List Int) : SeqAt.shaped (.list (l.map PyData.int)) = true := by
  have h1 := can_ints l
  have h2 := dep_ints l
  unfold SeqAt.shaped
  have e1 : (PyData.list (l.map PyData.int)).canLay0 = true := h1
  have e2 : (PyData.list (l.map PyData.int)).depth ≤ 64 := by
    have : (PyData.list (l.map PyData.int)).depth = PyData.depthAll (l.map PyData.int) + 1 := by simp [PyData.depth]
    rw [this]; omega
  rw [e1, decide_eq_true e2]
  rfl
theorem eqv_ints (l : List Int) : PyData.eqv (.list (l.map .int)) (.list []) = decide (l = []) := by cases l <;> rfl
theorem ok__law_any_value {f : Addr} {fd : FuncData} (F : Fun K "_law_any_value" "_law_any_value" s__law_any_value f fd) (T : OBlt mg) (c__law_take : C8.Cal P w K mg base 1 "_law_take" spTake []) : FnOk P w K mg base CX0 2 f fd ["tape", "w", "target"] (spAnyV K) := by
  refine F.ok sc__law_any_value (fun vs H Q E h => ?_) (fun cdv A outer s H vs Q E hr h => ?_)
  · obtain ⟨t, c, cs, A, W, kd, ds, kn, g, rfl, _⟩ := h
    rfl
  · obtain ⟨t, c, cs, A, W, kd, ds, kn, g, rfl, hS, hO, k⟩ := h
    have hu := hu_of hr
    refine ⟨_, (pss_cons (ps_if (pt_cmpR op_eq (C8.pe_c c__law_take hr (by first | decide | omega) rfl (pa_cons (pv 0) (pa_cons pe_int pa_nil))) pe_int (nomark _))
      (pss_one (ps_ret pe_non))
      pss_nil)
    (pss_cons (ps_if (PW.pt (pw_or (pt_cmpR op_eq (pv 2) pe_str (nomark _)) (pw_or1 (pt_cmpR (op_eq_dE hr.units) (pe_dget hu (pv 1) pe_str (fun _ _ => rfl)) pe_dnewK (nomark _)))))
      (pss_one (ps_ret (C8.pe_c c__law_take hr (by first | decide | omega) rfl (pa_cons (pv 0) (pa_cons pe_int pa_nil)))))
      pss_nil)
    (pss_cons (ps_set (i := 3) sc__law_any_value.nd rfl (Or.inl rfl) (pe_callB (call_sortedDI rfl) (by rfl) T.b_sorted (by decide +kernel) (pa_cons (pe_dget hu (pv 1) pe_str (fun _ _ => rfl)) pa_nil)))
    (pss_one (ps_ret (pe_ix ix_list (pv 3) (C8.pe_c c__law_take hr (by first | decide | omega) rfl (pa_cons (pv 0) (pa_cons (pe_callB call_len_seq (by rfl) T.b_len (by decide +kernel) (pa_cons (pv 3) pa_nil)) pa_nil))) (fun _ _ => rfl))))))), ?_⟩
    refine ⟨_, rfl, t, c, cs, 5, rfl, hS.tp, by decide, by decide, fun r kvs h0 h1 hk => ?_⟩
    have c1 := tape_ch hS.tp (kvs := kvs)
    have S1 := hS.take hk
    generalize upd H t (.dK kvs) = H1 at c1 S1
    have k := fun o => (k o).of c1
    refine ⟨rfl, _, rfl, ite2 (fun _ => k none _ .refl S1) (fun _ => ?_)⟩
    have draw : ∀ (H2 : Hp) (E : XK), Ch [t] H1 H2 → Sc K H2 t c cs A W kd ds kn → spTake [.ref t, .int 5] H2 Q E := fun H2 E c2 S2 => by
      refine ⟨t, c, cs, 5, rfl, S2.tp, by decide, by decide, fun r kvs h0 h1 hk => ?_⟩
      exact k (some r) _ (c2.trans (tape_ch S2.tp)) (S2.take hk)
    refine ⟨_, rfl, rfl, _, rfl, ?_⟩
    show (if decide (V.str g = V.str "") = true then _ else _ : Prop)
    rw [str_eq]
    by_cases hg : g = ("" : Str)
    · rw [decide_eq_true hg]
      exact iteT (iteT ⟨_, rfl, draw H1 C8.E0 .refl S1⟩)
    · rw [decide_eq_false hg]
      obtain ⟨kvs2, g1, g2⟩ := S1.lk.lw.things
      have lenK : kvs2.length = W.things.length := g2.length
      refine iteF ⟨_, rfl, A.w, _, rfl, S1.lk.lw.r.g_things, fun p np => ?_⟩
      have sp := same_upd (o := HO.dK []) np
      have S2 := S1.same sp
      refine ⟨A.wT, p, kvs2, rfl, rfl, sp _ _ g1, upd_same, _, rfl, ?_⟩
      generalize upd H1 p (.dK []) = H2 at sp S2
      by_cases hz : kvs2.length = 0
      · rw [decide_eq_true hz]
        exact iteT ⟨_, rfl, draw H2 C8.E0 (.of_same sp) S2⟩
      · rw [decide_eq_false hz]
        refine iteF ⟨_, rfl, A.w, _, rfl, S2.lk.lw.r.g_things, A.wT, kvs2, W.things.map (·.id), rfl, .inl (sp _ _ g1), ths_keys g2, by rw [List.length_map]; have := hO.lenT; omega, fun ys q perm srt nq => ?_⟩
        rw [sorted_ids hO.ids perm srt]
        have sq := same_upd (o := HO.lst ((W.things.map (·.id)).map V.int)) nq
        have S3 := S2.same sq
        have hq := upd_same (H := H2) (a := q) (o := HO.lst ((W.things.map (·.id)).map V.int))
        generalize upd H2 q (.lst ((W.things.map (·.id)).map V.int)) = H3 at sq S3 hq
        have lz : ((W.things.map (·.id)).map V.int).length = W.things.length := by rw [List.length_map, List.length_map]
        have hpos : 0 < W.things.length := by omega
        have hlt := hO.lenT
        refine ⟨_, rfl, _, rfl, _, rfl, q, _, rfl, .inl (SqL.of hq), t, c, cs, (((W.things.map (·.id)).map V.int).length : Int), rfl, S3.tp, by rw [lz]; omega, by rw [lz]; omega, fun r kvs h0 h1 hk => ?_⟩
        have S4 := S3.take hk
        have c4 := tape_ch S3.tp (kvs := kvs)
        rw [lz] at h1
        obtain ⟨th, hth⟩ : ∃ th, W.things[r.toNat]? = some th := ⟨_, List.getElem?_eq_getElem (by omega)⟩
        have hx : ((W.things.map (·.id)).map V.int)[r.toNat]? = some (.int th.id) := by rw [List.getElem?_map, List.getElem?_map, hth]; rfl
        have qt : q ≠ t := ne_of hq S3.tp.dc.choose_spec.1 (by intro z; cases z)
        refine ⟨q, _, _, _, rfl, rfl, .of (by rw [upd_ne qt]; exact hq), at_of (by omega) hx, ?_⟩
        exact k (some th.id) _ ((Ch.of_same (sp.trans sq)).trans c4) S4
theorem ok__law_any_id {f : Addr} {fd : FuncData} (F : Fun K "_law_any_id" "_law_any_id" s__law_any_id f fd) (T : OBlt mg) (c__law_take : C8.Cal P w K mg base 1 "_law_take" spTake []) : FnOk P w K mg base CX0 2 f fd ["tape", "w"] (spAnyId K) := by
  refine F.ok sc__law_any_id (fun vs H Q E h => ?_) (fun cdv A outer s H vs Q E hr h => ?_)
  · obtain ⟨t, c, cs, A, W, kd, ds, kn, rfl, _⟩ := h
    rfl
  · obtain ⟨t, c, cs, A, W, kd, ds, kn, rfl, S2, hO, k⟩ := h
    have hu := hu_of hr
    refine ⟨_, (pss_cons (ps_set (i := 2) sc__law_any_id.nd rfl (Or.inl rfl) (pe_callB (call_sortedDI rfl) (by rfl) T.b_sorted (by decide +kernel) (pa_cons (pe_dget hu (pv 1) pe_str (fun _ _ => rfl)) pa_nil)))
    (pss_cons (ps_if (PW.pt (pw_or (pt_cmpR (op_eqD hr.units) (pv 2) (pe_lst pa_nil) (nomark _)) (pw_or1 (pt_cmpR op_eq (C8.pe_c c__law_take hr (by first | decide | omega) rfl (pa_cons (pv 0) (pa_cons pe_int pa_nil))) pe_int (nomark _)))))
      (pss_one (ps_ret pe_int))
      pss_nil)
    (pss_one (ps_ret (pe_ix ix_list (pv 2) (C8.pe_c c__law_take hr (by first | decide | omega) rfl (pa_cons (pv 0) (pa_cons (pe_callB call_len_seq (by rfl) T.b_len (by decide +kernel) (pa_cons (pv 2) pa_nil)) pa_nil))) (fun _ _ => rfl)))))), ?_⟩
    obtain ⟨kvs2, g1, g2⟩ := S2.lk.lw.things
    refine ⟨_, rfl, A.w, _, rfl, S2.lk.lw.r.g_things, A.wT, kvs2, W.things.map (·.id), rfl, .inl g1, ths_keys g2, by rw [List.length_map]; have := hO.lenT; omega, fun ys q perm srt nq => ?_⟩
    rw [sorted_ids hO.ids perm srt]
    have sq := same_upd (o := HO.lst ((W.things.map (·.id)).map V.int)) nq
    have S3 := S2.same sq
    have hq := upd_same (H := H) (a := q) (o := HO.lst ((W.things.map (·.id)).map V.int))
    generalize upd H q (.lst ((W.things.map (·.id)).map V.int)) = H3 at sq S3 hq
    refine ⟨_, rfl, Nat.zero_le _, fun p np => ?_⟩
    have sp := same_upd (o := HO.lst []) np
    have S4 := S3.same sp
    have hq4 := sp _ _ hq
    refine ⟨.list ((W.things.map (·.id)).map .int), .list [], .lst (SqL.of hq4) (dps_ints _), .lst (SqL.of upd_same) .nil, shaped_ints _, by rfl, _, rfl, ?_⟩
    rw [eqv_ints]
    generalize upd H3 p (.lst []) = H4 at sp S4 hq4
    have c4 : Ch [t] H H4 := .of_same (sq.trans sp)
    have lz : ((W.things.map (·.id)).map V.int).length = W.things.length := by rw [List.length_map, List.length_map]
    have hlt := hO.lenT
    by_cases hz : W.things.map (·.id) = []
    · rw [decide_eq_true hz]
      exact iteT (iteT (k 77 _ c4 S4))
    · rw [decide_eq_false hz]
      have hpos : 0 < W.things.length := by
        cases hw : W.things with
        | nil => rw [hw] at hz; exact absurd rfl hz
        | cons _ _ => simp
      refine iteF ⟨_, rfl, t, c, cs, 9, rfl, S4.tp, by decide, by decide, fun r kvs h0 h1 hk => ?_⟩
      have S5 := S4.take hk
      have c5 := c4.trans (tape_ch S4.tp (kvs := kvs))
      have qt : q ≠ t := ne_of hq4 S4.tp.dc.choose_spec.1 (by intro z; cases z)
      have hq5 : upd H4 t (.dK kvs) q = some (.lst ((W.things.map (·.id)).map V.int)) := by rw [upd_ne qt]; exact hq4
      generalize upd H4 t (.dK kvs) = H5 at S5 c5 hq5
      refine ⟨rfl, _, rfl, ite2 (fun _ => k 77 _ c5 S5) (fun _ => ?_)⟩
      refine ⟨_, rfl, _, rfl, _, rfl, q, _, rfl, .inl (SqL.of hq5), t, c, cs, (((W.things.map (·.id)).map V.int).length : Int), rfl, S5.tp, by rw [lz]; omega, by rw [lz]; omega, fun r kvs h0 h1 hk => ?_⟩
      have S6 := S5.take hk
      have c6 := tape_ch S5.tp (kvs := kvs)
      rw [lz] at h1
      obtain ⟨th, hth⟩ : ∃ th, W.things[r.toNat]? = some th := ⟨_, List.getElem?_eq_getElem (by omega)⟩
      have hx : ((W.things.map (·.id)).map V.int)[r.toNat]? = some (.int th.id) := by rw [List.getElem?_map, List.getElem?_map, hth]; rfl
      exact ⟨q, _, _, _, rfl, rfl, .of (by rw [upd_ne qt]; exact hq5), at_of (by omega) hx, k th.id _ (c5.trans c6) S6⟩
theorem ok__law_any_values {f : Addr} {fd : FuncData} (F : Fun K "_law_any_values" "_law_any_values" s__law_any_values f fd) (T : OBlt mg) (c__law_any_value : C8.Cal P w K mg base 2 "_law_any_value" (spAnyV K) []) : FnOk P w K mg base CX0 3 f fd ["tape", "kinds", "w", "kind"] (spAnyVs K) := by
  refine F.ok sc__law_any_values (fun vs H Q E h => ?_) (fun cdv A outer s H vs Q E hr h => ?_)
  · obtain ⟨t, c, cs, A, W, kd, ds, kn, kind, fs, rfl, _⟩ := h
    rfl
  · obtain ⟨t, c, cs, A, W, kd, ds, kn, kind, fs, rfl, hS, hO, hN, hf, k⟩ := h
    have hu := hu_of hr
    refine ⟨_, (pss_one (ps_ret (pe_callTy call_tupleF (by rfl) T.b_tuple (by decide +kernel) (pa_cons (pe_lc (own := [("field", 4)]) rfl sc__law_any_values.nd (pi_list (pe_callB (call_sortedD rfl) (by rfl) T.b_sorted (by decide +kernel) (pa_cons (pe_dget hu (pv 1) (pv 3) (fun _ _ => rfl)) pa_nil))) (blkOk_by (own := [("field", 4)]) (N := N__law_any_values) (sc := defScope s__law_any_values) (by decide +kernel)) (fun _ _ _ _ _ => (pg_name (i := 4) sc__law_any_values.nd rfl (Or.inl rfl))) (fun _ _ _ _ _ => pts_nil) (fun _ _ _ _ _ => (pe_tup (pa_cons (pv 4) (pa_cons (C8.pe_c c__law_any_value hr (by first | decide | omega) rfl (pa_cons (pv 0) (pa_cons (pv 2) (pa_cons (pe_ix (ix_tup : IxR _ (rIxT K)) (pe_dget hu (pe_dget hu (pv 1) (pv 3) (fun _ _ => rfl)) (pv 4) (fun _ _ => rfl)) pe_int (fun _ _ => rfl)) pa_nil)))) pa_nil))))) pa_nil)))), ?_⟩
    obtain ⟨d, fvs, _, gk1, hd, hF⟩ := hS.lk.kn.get hf
    refine ⟨_, rfl, _, rfl, kd, _, rfl, gk1, d, fvs, fs.map (·.1), rfl, .inl hd, fld_keys hF, by rw [List.length_map]; have := hN.few _ _ hf; omega, fun ys q perm srt nq => ?_⟩
    have e := hN.srt _ _ hf ys perm srt
    subst e
    have sq := same_upd (o := HO.lst ((fs.map (·.1)).map V.str)) nq
    have hq := upd_same (H := H) (a := q) (o := HO.lst ((fs.map (·.1)).map V.str))
    have S1 := hS.same sq
    generalize upd H q (.lst ((fs.map (·.1)).map V.str)) = H1 at sq hq S1
    refine ⟨q, rfl, ⟨_, SqL.of hq⟩, fun D hD => ?_⟩
    have qt : q ≠ t := ne_of hq S1.tp.dc.choose_spec.1 (by intro z; cases z)
    obtain ⟨nDt, nDc⟩ := tape_fresh S1.tp hD
    have hfew := hN.few _ _ hf
    refine lc_list (K := K) (a := q) (xs := (fs.map (·.1)).map V.str) (fun i H' => ∃ (ps : List Addr) (vals : Vals_), Ch [t] H1 H' ∧ Tape t c cs H' ∧ H' D = some (.lst (ps.map V.ref)) ∧ Paired (fun p (fv : Str × Option Int) => SqT K H' p [.str fv.1, oV fv.2]) ps vals ∧ vals.map (·.1) = (fs.map (·.1)).take i)
      ⟨[], [], .of_same (same_upd hD), tape_put S1.tp nDt nDc, upd_same, .nil, rfl⟩ (fun i H' _ ⟨_, _, h, _⟩ => SqL.of (h.out q _ (by simpa using qt) hq)) ?_ ?_
    · rintro i x H2 hx ⟨ps, vals, c2, T2, hD2, hP, hN2⟩
      obtain ⟨fl, hfl, rfl⟩ : ∃ fl, (fs.map (·.1))[i]? = some fl ∧ V.str fl = x := by
        rw [List.getElem?_map] at hx
        cases e : (fs.map (·.1))[i]? with
        | none => rw [e] at hx; cases hx
        | some n => rw [e] at hx; exact ⟨n, rfl, Option.some.inj hx⟩
      have hi := (List.getElem?_eq_some_iff.mp hfl).1
      rw [List.length_map] at hi
      obtain ⟨tm, htm⟩ := ffind_mem (List.mem_of_getElem? hfl)
      have S2 := S1.ch c2 T2
      obtain ⟨d2, fvs2, _, gk2, hd2, hF2⟩ := S2.lk.kn.get hf
      obtain ⟨a, m, g2, sa, sm⟩ := fld_get hd2 hF2 htm
      have lp : ps.length = i := by
        have e1 := hP.length
        have e2 := congrArg List.length hN2
        rw [List.length_map, List.length_take, List.length_map] at e2
        omega
      refine ⟨rfl, _, rfl, _, rfl, _, rfl, _, rfl, _, rfl, kd, _, rfl, gk2, _, rfl, d2, _, rfl, g2, a, _, _, _, rfl, rfl, sa, atI_nat (j := 0) rfl, t, c, cs, A, W, kd, ds, kn, tm.1, rfl, S2, hO, fun o H3 c3 S3 => ⟨by show 2 ≤ sizeLine; decide, fun b nb => ?_⟩⟩
      have hD3 := c3.out D _ (by simpa using nDt) hD2
      have sb := same_upd (o := HO.tup [.str fl, oV o]) nb
      have c4 : Ch [t] H1 (upd H3 b (.tup [.str fl, oV o])) := c2.trans (c3.trans (.of_same sb))
      have nbD : b ≠ D := fun z => by rw [z, hD3] at nb; cases nb
      have kp : Kp H2 (upd (upd H3 b (.tup [.str fl, oV o])) D (.lst (ps.map V.ref ++ [.ref b]))) := (c3.trans (.of_same sb)).kp.trans (.put (sb _ _ hD3) (fun z => z))
      refine ⟨_, sb _ _ hD3, ?_, ps ++ [b], vals ++ [(fl, o)], c4.ext hD (sb _ _ hD3) (fun z => z), tape_put (tape_same S3.tp sb) nDt nDc, ?_, ?_, ?_⟩
      · rw [List.length_map, lp]
        exact Nat.lt_of_lt_of_le (show i < 60 by omega) (by decide)
      · rw [upd_same, List.map_append]; rfl
      · exact par_snoc (par_imp (fun _ _ q => sq_kp q kp) hP) (.of (by rw [upd_ne nbD]; exact upd_same))
      · rw [List.map_append, hN2, List.take_add_one, hfl]; rfl
    · rintro H2 ⟨ps, vals, c2, T2, hD2, hP, hN2⟩
      rw [List.length_map, List.take_length] at hN2
      refine ⟨D, _, rfl, SqL.of hD2, fun va o2 nva ho2 => ?_⟩
      have s3 := same_upd (o := HO.frz o2 (.tup (ps.map V.ref))) nva
      exact k va vals _ ((Ch.of_same sq).trans (c2.trans (.of_same s3))) ((S1.ch c2 T2).same s3) hN2 ⟨ps, ⟨o2, upd_same, ho2⟩, par_imp (fun _ _ q => same_seqT s3 q) hP⟩

/-- w['things'][one][3] if one in w['things'] else 1 -/
theorem ver_rd {H : Hp} {A : LA} {W : Wd} {σ : L2.St} {R : V → Hp → Prop} {one : Int} (hW : LwR K H A W) (h2 : σ[2]? = some (some (.ref A.w))) (h6 : σ[6]? = some (some (.int one))) (q : ∀ v : Int, R (.int v) H) :
    tIf (tB (tDIn (tVar 6) (tDGet (tVar 2) (tC (V.str "things"))))) (tOp (rIxT K) (tDGet (tDGet (tVar 2) (tC (V.str "things"))) (tVar 6)) (tC (V.int 3))) (tC (V.int 1)) σ H R := by
  cases ht : tfind W.things one with
  | none => exact ⟨_, h6, _, h2, A.w, _, rfl, hW.g_things, A.wT, _, rfl, hW.nothing ht, _, rfl, iteF (q 1)⟩
  | some th =>
    obtain ⟨ta, g3, va, tka, st, _⟩ := hW.thing ht
    exact ⟨_, h6, _, h2, A.w, _, rfl, hW.g_things, A.wT, _, rfl, g3, _, rfl, iteT ⟨_, h2, A.w, _, rfl, hW.g_things, _, h6, A.wT, _, rfl, g3, ta, _, _, _, rfl, rfl, st, atI_nat (j := 3) rfl, q th.ver⟩⟩
/-- (fields + ['zz'])[_law_take(tape, 4 * len(fields) + 1) // 4] -/
theorem field_rd {H : Hp} {t c : Addr} {cs : List Int} {A : LA} {W : Wd} {kd : Addr} {ds : List Addr} {kn : Kn} {σ : L2.St} {R : V → Hp → Prop} {q : Addr} {names : List Str} (S : Sc K H t c cs A W kd ds kn) (h0 : σ[0]? = some (some (.ref t))) (h9 : σ[9]? = some (some (.ref q)))
    (hq : H q = some (.lst (names.map V.str))) (hl : names.length < 60) (k : ∀ x ∈ names ++ ([("zz" : Str)] : List Str), ∀ H', Ch [t] H H' → Sc K H' t c cs A W kd ds kn → R (.str x) H') :
    tOp (rIxL K) (tOp rCat (tVar 9) (tLst (tCons (tC (V.str "zz")) tNil))) (tOp (rI CDiv fun i j => V.int (i / j)) (tCall spTake [] C8.E0 (tCons (tVar 0) (tCons (tOp (rI0 fun i j => V.int (i + j)) (tOp (rI CMul fun i j => V.int (i * j)) (tC (V.int 4))
      (tCB (fun xs H_1 Q => ∃ p ys, xs = [V.ref p] ∧ (SqL K H_1 p ys ∨ SqT K H_1 p ys) ∧ Q (V.int ↑ys.length) H_1) (tCons (tVar 9) tNil))) (tC (V.int 1))) tNil))) (tC (V.int 4))) σ H R := by
  refine ⟨_, h9, by show 1 ≤ sizeLine; decide, fun z nz => ?_⟩
  have sz := same_upd (o := HO.lst [V.str "zz"]) nz
  refine ⟨q, z, _, _, rfl, rfl, sz _ _ hq, upd_same, ?_, fun p np => ?_⟩
  · rw [List.length_map]
    exact Nat.le_trans (show names.length + 1 ≤ 100000 by omega) (by decide)
  · have sp := same_upd (o := HO.lst (names.map V.str ++ [V.str "zz"])) np
    have S2 := S.same (sz.trans sp)
    have hq2 := (sz.trans sp) _ _ hq
    have hp := upd_same (H := upd H z (.lst [V.str "zz"])) (a := p) (o := HO.lst (names.map V.str ++ [V.str "zz"]))
    have c2 : Ch [t] H _ := .of_same (sz.trans sp)
    generalize upd (upd H z (.lst [V.str "zz"])) p (.lst (names.map V.str ++ [V.str "zz"])) = H2 at S2 hq2 hp c2
    have ln : (names.map V.str).length = names.length := by rw [List.length_map]
    refine ⟨_, h0, _, h9, q, _, rfl, .inl (SqL.of hq2), _, _, rfl, rfl, .inl ⟨by decide, by decide⟩, _, _, rfl, rfl, t, c, cs, (4 * ((names.map V.str).length : Int) + 1), rfl, S2.tp, by omega, by rw [ln]; omega, fun r kvs h0 h1 hk => ?_⟩
    rw [ln] at h1
    have pt : p ≠ t := ne_of hp S2.tp.dc.choose_spec.1 (by intro z; cases z)
    obtain ⟨x, hx⟩ : ∃ x, (names ++ ([("zz" : Str)] : List Str))[(r / 4).toNat]? = some x := ⟨_, List.getElem?_eq_getElem (by rw [List.length_append]; show _ < names.length + 1; omega)⟩
    have hx2 : (names.map V.str ++ [V.str "zz"])[(r / 4).toNat]? = some (.str x) := by
      have e : names.map V.str ++ [V.str "zz"] = (names ++ ([("zz" : Str)] : List Str)).map V.str := by rw [List.map_append]; rfl
      rw [e, List.getElem?_map, hx]
      rfl
    exact ⟨_, _, rfl, rfl, ⟨by decide, by decide⟩, p, _, _, _, rfl, rfl, .of (by rw [upd_ne pt]; exact hp), at_of (by omega) hx2, k x (List.mem_of_getElem? hx) _ (c2.trans (tape_ch S2.tp)) (S2.take hk)⟩
theorem kind3 {r : Int} (h0 : 0 ≤ r) (h1 : r < 3) : ∃ k : Str, k ∈ (["net", "box", "disk"] : List Str) ∧ [V.str "net", V.str "box", V.str "disk"][r.toNat]? = some (.str k) := by
  have : r.toNat = 0 ∨ r.toNat = 1 ∨ r.toNat = 2 := by omega
  rcases this with e | e | e <;> rw [e]
  · exact ⟨"net", by simp, rfl⟩
  · exact ⟨"box", by simp, rfl⟩
  · exact ⟨"disk", by simp, rfl⟩
theorem ok__law_any_call {f : Addr} {fd : FuncData} (F : Fun K "_law_any_call" "_law_any_call" s__law_any_call f fd) (T : OBlt mg) (c__law_take : C8.Cal P w K mg base 1 "_law_take" spTake []) (c__law_any_value : C8.Cal P w K mg base 2 "_law_any_value" (spAnyV K) []) (c__law_any_values : C8.Cal P w K mg base 3 "_law_any_values" (spAnyVs K) []) (c__law_any_id : C8.Cal P w K mg base 2 "_law_any_id" (spAnyId K) []) : FnOk P w K mg base CX0 4 f fd ["tape", "kinds", "w"] (spAnyCall K) := by
  refine F.ok sc__law_any_call (fun vs H Q E h => ?_) (fun cdv A outer s H vs Q E hr h => ?_)
  · obtain ⟨t, c, cs, A, W, kd, ds, kn, rfl, _⟩ := h
    rfl
  · obtain ⟨t, c, cs, A, W, kd, ds, kn, rfl, S0, hO, hN, h3, k⟩ := h
    have hu := hu_of hr
    refine ⟨_, (pss_cons (ps_set (i := 3) sc__law_any_call.nd rfl (Or.inl rfl) (pe_tup (pa_cons (pe_op op_add pe_int (C8.pe_c c__law_take hr (by first | decide | omega) rfl (pa_cons (pv 0) (pa_cons pe_int pa_nil)))) (pa_cons (C8.pe_c c__law_take hr (by first | decide | omega) rfl (pa_cons (pv 0) (pa_cons pe_int pa_nil))) pa_nil))))
    (pss_cons (ps_set (i := 4) sc__law_any_call.nd rfl (Or.inl rfl) (C8.pe_c c__law_take hr (by first | decide | omega) rfl (pa_cons (pv 0) (pa_cons pe_int pa_nil))))
    (pss_cons (ps_set (i := 5) sc__law_any_call.nd rfl (Or.inl rfl) (pe_ix ix_list (pe_lst (pa_cons pe_str (pa_cons pe_str (pa_cons pe_str pa_nil)))) (C8.pe_c c__law_take hr (by first | decide | omega) rfl (pa_cons (pv 0) (pa_cons pe_int pa_nil))) (fun _ _ => rfl)))
    (pss_cons (ps_set (i := 6) sc__law_any_call.nd rfl (Or.inl rfl) (C8.pe_c c__law_any_id hr (by first | decide | omega) rfl (pa_cons (pv 0) (pa_cons (pv 2) pa_nil))))
    (pss_cons (ps_set (i := 7) sc__law_any_call.nd rfl (Or.inl rfl) (pe_ifExp (pt_cmp (pc_din hu (pv 6) (pe_dget hu (pv 2) pe_str (fun _ _ => rfl)))) (pe_ix ix_tup (pe_dget hu (pe_dget hu (pv 2) pe_str (fun _ _ => rfl)) (pv 6) (fun _ _ => rfl)) pe_int (fun _ _ => rfl)) pe_int))
    (C8.pss_cut (ps_if (pt_cmpR op_eq (C8.pe_c c__law_take hr (by first | decide | omega) rfl (pa_cons (pv 0) (pa_cons pe_int pa_nil))) pe_int (nomark _))
      (pss_one (ps_set (i := 7) sc__law_any_call.nd rfl (Or.inl rfl) (pe_op op_add (pv 7) pe_int)))
      pss_nil)
    (pss_cons (ps_if (pt_cmpR op_eq (pv 4) pe_int (nomark _))
      (pss_one (ps_ret (pe_tup (pa_cons pe_str (pa_cons (pv 3) pa_nil)))))
      pss_nil)
    (pss_cons (ps_if (pt_cmpR op_lt (pv 4) pe_int (nomark _))
      (pss_cons (ps_set (i := 8) sc__law_any_call.nd rfl (Or.inl rfl) (C8.pe_c c__law_any_values hr (by first | decide | omega) rfl (pa_cons (pv 0) (pa_cons (pv 1) (pa_cons (pv 2) (pa_cons (pv 5) pa_nil))))))
      (C8.pss_cut (ps_if (pt_cmpR op_eq (C8.pe_c c__law_take hr (by first | decide | omega) rfl (pa_cons (pv 0) (pa_cons pe_int pa_nil))) pe_int (nomark _))
        (pss_one (ps_set (i := 8) sc__law_any_call.nd rfl (Or.inl rfl) (pe_slice sl_tupF (pv 8) (po_some pe_int) po_none)))
        pss_nil)
      (pss_one (ps_ret (pe_tup (pa_cons pe_str (pa_cons (pv 3) (pa_cons (pe_tup (pa_cons (pe_ix ix_tup (pv 3) pe_int (fun _ _ => rfl)) (pa_cons (C8.pe_c c__law_take hr (by first | decide | omega) rfl (pa_cons (pv 0) (pa_cons pe_int pa_nil))) pa_nil))) (pa_cons (pv 5) (pa_cons (pv 8) pa_nil))))))))))
      pss_nil)
    (pss_cons (ps_if (pt_cmpR op_lt (pv 4) pe_int (nomark _))
      (pss_cons (ps_set (i := 9) sc__law_any_call.nd rfl (Or.inl rfl) (pe_ifExp (pt_cmp (pc_din hu (pv 6) (pe_dget hu (pv 2) pe_str (fun _ _ => rfl)))) (pe_callB (call_sortedD rfl) (by rfl) T.b_sorted (by decide +kernel) (pa_cons (pe_dget hu (pv 1) (pe_ix ix_tup (pe_dget hu (pe_dget hu (pv 2) pe_str (fun _ _ => rfl)) (pv 6) (fun _ _ => rfl)) pe_int (fun _ _ => rfl)) (fun _ _ => rfl)) pa_nil)) (pe_lst (pa_cons pe_str pa_nil))))
      (pss_cons (ps_set (i := 10) sc__law_any_call.nd rfl (Or.inl rfl) (pe_ix ix_list (pe_op op_cat (pv 9) (pe_lst (pa_cons pe_str pa_nil))) (pe_op op_fdiv (C8.pe_c c__law_take hr (by first | decide | omega) rfl (pa_cons (pv 0) (pa_cons (pe_op op_add (pe_op op_mul pe_int (pe_callB call_len_seq (by rfl) T.b_len (by decide +kernel) (pa_cons (pv 9) pa_nil))) pe_int) pa_nil))) pe_int) (fun _ _ => rfl)))
      (pss_cons (ps_set (i := 11) sc__law_any_call.nd rfl (Or.inl rfl) (pe_ifExp (PW.pt (pw_or (pt_cmp (pc_dnotin hu (pv 6) (pe_dget hu (pv 2) pe_str (fun _ _ => rfl)))) (pw_or1 (pt_cmpR op_eq (pv 10) pe_str (nomark _))))) pe_str (pe_ix ix_tup (pe_dget hu (pe_dget hu (pv 1) (pe_ix ix_tup (pe_dget hu (pe_dget hu (pv 2) pe_str (fun _ _ => rfl)) (pv 6) (fun _ _ => rfl)) pe_int (fun _ _ => rfl)) (fun _ _ => rfl)) (pv 10) (fun _ _ => rfl)) pe_int (fun _ _ => rfl))))
      (pss_one (ps_ret (pe_tup (pa_cons pe_str (pa_cons (pv 3) (pa_cons (pv 6) (pa_cons (pv 7) (pa_cons (pv 10) (pa_cons (C8.pe_c c__law_any_value hr (by first | decide | omega) rfl (pa_cons (pv 0) (pa_cons (pv 2) (pa_cons (pv 11) pa_nil)))) pa_nil))))))))))))
      pss_nil)
    (pss_one (ps_ret (pe_tup (pa_cons pe_str (pa_cons (pv 3) (pa_cons (pv 6) (pa_cons (pv 7) pa_nil)))))))))))))))), ?_⟩
    -- mark
    refine ⟨_, rfl, t, c, cs, 2, rfl, S0.tp, by decide, by decide, fun r1 kvs h10 h11 hk => ⟨_, _, rfl, rfl, ?_⟩⟩
    have S1 := S0.take hk
    have c1 := tape_ch S0.tp (kvs := kvs)
    generalize upd H t (.dK kvs) = H1 at S1 c1
    refine ⟨_, rfl, t, c, cs, 4, rfl, S1.tp, by decide, by decide, fun r2 kvs h20 h21 hk => ⟨by show 2 ≤ sizeLine; decide, fun ma nma => ?_⟩⟩
    have S2 := S1.take hk
    have c2 := c1.trans (tape_ch S1.tp (kvs := kvs))
    generalize upd H1 t (.dK kvs) = H2 at S2 c2 nma
    have S3 := S2.same (same_upd (o := HO.tup [.int (1 + r1), .int r2]) nma)
    have c3 := c2.trans (.of_same (same_upd (o := HO.tup [.int (1 + r1), .int r2]) nma))
    have sm : SqT K (upd H2 ma (.tup [.int (1 + r1), .int r2])) ma [.int (1 + r1), .int r2] := .of upd_same
    show (tSeq _ _) _ _ (upd H2 ma (.tup [.int (1 + r1), .int r2]))
    generalize upd H2 ma (.tup [.int (1 + r1), .int r2]) = H3 at S3 c3 sm
    -- choice, kind
    refine ⟨_, rfl, t, c, cs, 9, rfl, S3.tp, by decide, by decide, fun ch kvs h30 h31 hk => ?_⟩
    have S4 := S3.take hk
    have c4 := c3.trans (tape_ch S3.tp (kvs := kvs))
    have sm4 := sq_kp sm (tape_ch S3.tp (kvs := kvs)).kp
    generalize upd H3 t (.dK kvs) = H4 at S4 c4 sm4
    refine ⟨by show 3 ≤ sizeLine; decide, fun l nl => ?_⟩
    have sl := same_upd (o := HO.lst [V.str "net", V.str "box", V.str "disk"]) nl
    have hl := upd_same (H := H4) (a := l) (o := HO.lst [V.str "net", V.str "box", V.str "disk"])
    have S5 := S4.same sl
    have c5 := c4.trans (.of_same sl)
    have sm5 := same_seqT sl sm4
    generalize upd H4 l (.lst [V.str "net", V.str "box", V.str "disk"]) = H5 at S5 c5 sm5 hl
    refine ⟨_, rfl, t, c, cs, 3, rfl, S5.tp, by decide, by decide, fun r3 kvs h40 h41 hk => ?_⟩
    have S6 := S5.take hk
    have c6 := c5.trans (tape_ch S5.tp (kvs := kvs))
    have sm6 := sq_kp sm5 (tape_ch S5.tp (kvs := kvs)).kp
    have lt : l ≠ t := ne_of hl S5.tp.dc.choose_spec.1 (by intro z; cases z)
    have hl6 : upd H5 t (.dK kvs) l = some (.lst [V.str "net", V.str "box", V.str "disk"]) := by rw [upd_ne lt]; exact hl
    generalize upd H5 t (.dK kvs) = H6 at S6 c6 sm6 hl6
    obtain ⟨kind, hkm, hki⟩ := kind3 h40 h41
    obtain ⟨fs, hfs, hfne⟩ := h3 kind hkm
    refine ⟨l, _, _, _, rfl, rfl, .of hl6, at_of (by omega) hki, ?_⟩
    -- one, version
    refine ⟨_, rfl, _, rfl, t, c, cs, A, W, kd, ds, kn, rfl, S6, hO, fun one H7 c7 S7 => ?_⟩
    have sm7 := sq_kp sm6 c7.kp
    have c07 := c6.trans c7
    refine ver_rd S7.lk.lw.r rfl rfl fun ver0 => ?_
    refine ⟨fun σ' H' => ∃ ver : Int, σ' = [some (.ref t), some (.ref kd), some (.ref A.w), some (.ref ma), some (.int ch), some (.str kind), some (.int one), some (.int ver), none, none, none, none] ∧ Ch [t] H H' ∧ Sc K H' t c cs A W kd ds kn ∧ SqT K H' ma [.int (1 + r1), .int r2], ?_, ?_⟩
    · refine ⟨_, rfl, t, c, cs, 5, rfl, S7.tp, by decide, by decide, fun r kvs h0 h1 hk => ?_⟩
      have S8 := S7.take hk
      have c8 := c07.trans (tape_ch S7.tp (kvs := kvs))
      have sm8 := sq_kp sm7 (tape_ch S7.tp (kvs := kvs)).kp
      exact ⟨rfl, _, rfl, ite2 (fun _ => ⟨_, rfl, _, _, rfl, rfl, ver0 + 1, rfl, c8, S8, sm8⟩) (fun _ => ⟨ver0, rfl, c8, S8, sm8⟩)⟩
    · rintro σ' H8 ⟨ver, rfl, c8, S8, sm8⟩
      refine ⟨_, rfl, rfl, _, rfl, ite2 (fun _ => ?_) (fun _ => ?_)⟩
      · refine ⟨_, rfl, by show 2 ≤ sizeLine; decide, fun p np => k p (.fence (1 + r1, r2)) trivial _ (c8.trans (.of_same (same_upd np))) (S8.same (same_upd np)) ?_⟩
        exact ⟨ma, .of upd_same, same_seqT (same_upd np) sm8⟩
      · refine ⟨_, rfl, _, _, rfl, rfl, _, rfl, ite2 (fun _ => ?_) (fun _ => ?_)⟩
        · -- make
          refine ⟨_, rfl, _, rfl, _, rfl, _, rfl, t, c, cs, A, W, kd, ds, kn, kind, fs, rfl, S8, hO, hN, hfs, fun va0 vals0 H9 c9 S9 hn0 hV0 => ?_⟩
          have sm9 := sq_kp sm8 c9.kp
          have hfew := hN.few _ _ hfs
          have hl0 : vals0.length = fs.length := by
            have := congrArg List.length hn0
            rwa [List.length_map, List.length_map] at this
          have hH0 := hasF_of hn0
          refine ⟨fun σ' H' => ∃ (va : Addr) (vals : Vals_), σ' = [some (.ref t), some (.ref kd), some (.ref A.w), some (.ref ma), some (.int ch), some (.str kind), some (.int one), some (.int ver), some (.ref va), none, none, none] ∧ Ch [t] H H' ∧ Sc K H' t c cs A W kd ds kn ∧ SqT K H' ma [.int (1 + r1), .int r2] ∧ ValsAt K H' va vals ∧ vals.length < 60 ∧ HasF fs vals, ?_, ?_⟩
          · refine ⟨_, rfl, t, c, cs, 9, rfl, S9.tp, by decide, by decide, fun r kvs h0 h1 hk => ?_⟩
            have SA := S9.take hk
            have cA := (c8.trans c9).trans (tape_ch S9.tp (kvs := kvs))
            have smA := sq_kp sm9 (tape_ch S9.tp (kvs := kvs)).kp
            have hVA := vals_kp hV0 (tape_ch S9.tp (kvs := kvs)).kp
            generalize upd H9 t (.dK kvs) = HA at SA cA smA hVA
            refine ⟨rfl, _, rfl, ite2 (fun _ => ?_) (fun _ => ⟨va0, vals0, rfl, cA, SA, smA, hVA, by omega, hH0⟩)⟩
            obtain ⟨ps, pl, pp⟩ := hVA
            have lp : ps.length = vals0.length := pp.length
            have hfl : 0 < fs.length := List.length_pos_iff.mpr hfne
            refine ⟨_, rfl, _, rfl, va0, _, rfl, sqT_pl pl, ?_, fun p o np ho => ?_⟩
            · rw [List.length_map, lp, hl0]
              show ¬ (min 1 fs.length = 0 ∧ _)
              omega
            · have e : cutV (ps.map V.ref) (some 1) none = (ps.drop 1).map V.ref := by
                show List.take ((ps.map V.ref).length - min 1 (ps.map V.ref).length) (List.drop (min 1 (ps.map V.ref).length) (ps.map V.ref)) = _
                rw [List.length_map]
                have e1 : min 1 ps.length = 1 := by omega
                rw [e1, List.map_drop]
                exact List.take_of_length_le (by rw [List.length_drop, List.length_map]; exact Nat.le_refl _)
              rw [e]
              have sp := same_upd (o := HO.frz o (.tup ((ps.drop 1).map V.ref))) np
              refine ⟨p, vals0.drop 1, rfl, cA.trans (.of_same sp), SA.same sp, same_seqT sp smA, ⟨ps.drop 1, ⟨o, upd_same, ho⟩, par_imp (fun _ _ q => same_seqT sp q) (par_drop pp)⟩, by rw [List.length_drop]; omega, fun fv hm => hH0 fv (List.mem_of_mem_drop hm)⟩
          · rintro σ' HB ⟨va, vals, rfl, cB, SB, smB, hVB, hlen, hH⟩
            refine ⟨_, rfl, _, rfl, ma, _, _, _, rfl, rfl, smB, atI_nat (j := 0) rfl, _, rfl, t, c, cs, 6, rfl, SB.tp, by decide, by decide, fun r kvs h0 h1 hk => ⟨by show 2 ≤ sizeLine; decide, fun ta nta => ?_⟩⟩
            have SC := SB.take hk
            have cC := cB.trans (tape_ch SB.tp (kvs := kvs))
            have smC := sq_kp smB (tape_ch SB.tp (kvs := kvs)).kp
            have hVC := vals_kp hVB (tape_ch SB.tp (kvs := kvs)).kp
            generalize upd HB t (.dK kvs) = HC at SC cC smC hVC nta
            refine ⟨_, rfl, _, rfl, by show 5 ≤ sizeLine; decide, fun p np => ?_⟩
            have s1 := same_upd (o := HO.tup [.int (1 + r1), .int r]) nta
            have s2 := same_upd (o := HO.tup [.str "make", .ref ma, .ref ta, .str kind, .ref va]) np
            have s12 := s1.trans s2
            exact k p (.make (1 + r1, r2) (1 + r1, r) kind vals) (show 1 + r1 < 9 by omega) _ (cC.trans (.of_same s12)) (SC.same s12) ⟨ma, ta, va, fs, .of upd_same, same_seqT s12 smC, s2 _ _ upd_same, vals_kp hVC (.of_same s12), hfs, hlen, hH⟩
        · refine ⟨_, rfl, _, _, rfl, rfl, _, rfl, ite2 (fun _ => ?_) (fun _ => ?_)⟩
          · cases ht : tfind W.things one with
            | none =>
              refine ⟨_, rfl, _, rfl, A.w, _, rfl, S8.lk.lw.r.g_things, A.wT, _, rfl, S8.lk.lw.r.nothing ht, _, rfl, iteF ⟨by show 1 ≤ sizeLine; decide, fun q nq => ?_⟩⟩
              have sq := same_upd (o := HO.lst [V.str "tag"]) nq
              have S9 := S8.same sq
              have sm9 := same_seqT sq sm8
              refine field_rd (names := ["tag"]) S9 rfl rfl upd_same (by decide) fun x hx HA cA SA => ?_
              have cA' : Ch [t] H HA := c8.trans ((Ch.of_same sq).trans cA)
              have smA := sq_kp sm9 cA.kp
              refine ⟨_, rfl, _, rfl, A.w, _, rfl, SA.lk.lw.r.g_things, A.wT, _, rfl, SA.lk.lw.r.nothing ht, _, rfl, iteT (iteT ?_)⟩
              refine ⟨_, rfl, _, rfl, _, rfl, _, rfl, _, rfl, _, rfl, _, rfl, t, c, cs, A, W, kd, ds, kn, "", rfl, SA, hO, fun o HB cB SB => ⟨by show 6 ≤ sizeLine; decide, fun p np => ?_⟩⟩
              exact k p (.change (1 + r1, r2) one ver x o) trivial _ ((cA'.trans cB).trans (.of_same (same_upd np))) (SB.same (same_upd np)) ⟨ma, .of upd_same, same_seqT (same_upd np) (sq_kp smA cB.kp)⟩
            | some th =>
              obtain ⟨hmem, _⟩ := tfind_some ht
              obtain ⟨fs2, hfs2, hnm2⟩ := hO.good th hmem
              obtain ⟨ta, g3, va, tka, st, _⟩ := S8.lk.lw.r.thing ht
              obtain ⟨d, fvs, _, gk1, hd, hF⟩ := S8.lk.kn.get hfs2
              have hfew2 := hN.few _ _ hfs2
              refine ⟨_, rfl, _, rfl, A.w, _, rfl, S8.lk.lw.r.g_things, A.wT, _, rfl, g3, _, rfl, iteT ⟨_, rfl, _, rfl, A.w, _, rfl, S8.lk.lw.r.g_things, _, rfl, A.wT, _, rfl, g3, ta, _, _, _, rfl, rfl, st, atI_nat (j := 1) rfl, kd, _, rfl, gk1, d, fvs, fs2.map (·.1), rfl, .inl hd, fld_keys hF, by rw [List.length_map]; omega, fun ys q perm srt nq => ?_⟩⟩
              have e := hN.srt _ _ hfs2 ys perm srt
              subst e
              have sq := same_upd (o := HO.lst ((fs2.map (·.1)).map V.str)) nq
              have S9 := S8.same sq
              have sm9 := same_seqT sq sm8
              refine field_rd (names := fs2.map (·.1)) S9 rfl rfl upd_same (by rw [List.length_map]; omega) fun x hx HA cA SA => ?_
              have cA' : Ch [t] H HA := c8.trans ((Ch.of_same sq).trans cA)
              have smA := sq_kp sm9 cA.kp
              obtain ⟨ta, g3, va, tka, st, _⟩ := SA.lk.lw.r.thing ht
              obtain ⟨d, fvs, _, gk1, hd, hF⟩ := SA.lk.kn.get hfs2
              refine ⟨_, rfl, _, rfl, A.w, _, rfl, SA.lk.lw.r.g_things, A.wT, _, rfl, g3, _, rfl, iteF ⟨_, rfl, rfl, _, rfl, ?_⟩⟩
              show (if decide (V.str x = V.str "zz") = true then _ else _ : Prop)
              rw [str_eq]
              by_cases hz : x = ("zz" : Str)
              · rw [decide_eq_true hz]
                refine iteT ⟨_, rfl, _, rfl, _, rfl, _, rfl, _, rfl, _, rfl, _, rfl, t, c, cs, A, W, kd, ds, kn, "", rfl, SA, hO, fun o HB cB SB => ⟨by show 6 ≤ sizeLine; decide, fun p np => ?_⟩⟩
                exact k p (.change (1 + r1, r2) one ver x o) trivial _ ((cA'.trans cB).trans (.of_same (same_upd np))) (SB.same (same_upd np)) ⟨ma, .of upd_same, same_seqT (same_upd np) (sq_kp smA cB.kp)⟩
              · rw [decide_eq_false hz]
                have hx2 : x ∈ fs2.map (·.1) := (List.mem_append.mp hx).elim id fun q => absurd (List.mem_singleton.mp q) hz
                obtain ⟨tm, htm⟩ := ffind_mem hx2
                obtain ⟨a, m, g2, sa, _⟩ := fld_get hd hF htm
                refine iteF ⟨_, rfl, _, rfl, A.w, _, rfl, SA.lk.lw.r.g_things, _, rfl, A.wT, _, rfl, g3, ta, _, _, _, rfl, rfl, st, atI_nat (j := 1) rfl, kd, _, rfl, gk1, _, rfl, d, _, rfl, g2, a, _, _, _, rfl, rfl, sa, atI_nat (j := 0) rfl, ?_⟩
                refine ⟨_, rfl, _, rfl, _, rfl, _, rfl, _, rfl, _, rfl, _, rfl, t, c, cs, A, W, kd, ds, kn, tm.1, rfl, SA, hO, fun o HB cB SB => ⟨by show 6 ≤ sizeLine; decide, fun p np => ?_⟩⟩
                exact k p (.change (1 + r1, r2) one ver x o) trivial _ ((cA'.trans cB).trans (.of_same (same_upd np))) (SB.same (same_upd np)) ⟨ma, .of upd_same, same_seqT (same_upd np) (sq_kp smA cB.kp)⟩
          · refine ⟨_, rfl, _, rfl, _, rfl, by show 4 ≤ sizeLine; decide, fun p np => k p (.take (1 + r1, r2) one ver) trivial _ (c8.trans (.of_same (same_upd np))) (S8.same (same_upd np)) ?_⟩
            exact ⟨ma, .of upd_same, same_seqT (same_upd np) sm8⟩

end
end K07
namespace K07
open PySem PySem.Spec PyProof.Rows L2 LB OW
section
variable {P : Program} {w : World} {K : PySem.W.Frag} {mg : Str → Option Value} {base : Heap}
theorem tfind_at {ths : List Th} (h : (ths.map (·.id)).Nodup) {i : Nat} {x : Int} (e : (ths.map (·.id))[i]? = some x) : ∃ t, ths[i]? = some t ∧ t.id = x ∧ tfind ths x = some t := by
  rw [List.getElem?_map] at e
  cases q : ths[i]? with
  | none => rw [q] at e; cases e
  | some t =>
    rw [q] at e
    have e : t.id = x := Option.some.inj e
    subst e
    exact ⟨t, rfl, rfl, tfind_mem h q⟩
theorem fval_some {fs : List (Int × Int)} {o : Int} (h : o ∈ fs.map (·.1)) : valV (itK fs) (Sum.inl o) = some (.int (fget fs o)) := by
  have e := fval (fs := fs) (o := o)
  cases q : valV (itK fs) (Sum.inl o) with
  | some v => rw [q] at e; exact congrArg some e
  | none =>
    exfalso
    induction fs with
    | nil => cases h
    | cons x fs ih =>
      have q : valV ((Sum.inl x.1, V.int x.2) :: itK fs) (Sum.inl o) = none := q
      rw [valV_cons] at q
      by_cases z : x.1 = o
      · rw [if_pos (by rw [z])] at q; cases q
      · rw [if_neg (by intro w; injection w with w; exact z w)] at q
        rcases List.mem_cons.mp h with h | h
        · exact z h.symm
        · exact ih h (by rw [q]; have := fval (fs := fs) (o := o); rw [q] at this; exact this) q
theorem kPair_inj {a b : Tk} (h : kPair a = kPair b) : a = b := by
  have z : [Sum.inl a.1, (Sum.inl a.2 : Key)] = [Sum.inl b.1, Sum.inl b.2] := h
  injection z with z1 z2
  injection z2 with z2
  injection z1 with z1
  injection z2 with z2
  exact Prod.ext z1 z2
theorem tokv_at {ts : List (Tk × Int)} (h : (ts.map (·.1)).Nodup) {i : Nat} {e : Tk × Int} (he : ts[i]? = some e) : valV (tokK ts) (kPair e.1) = some (.int e.2) := by
  induction ts generalizing i with
  | nil => simp at he
  | cons x ts ih =>
    rw [List.map_cons, List.nodup_cons] at h
    show valV ((kPair x.1, V.int x.2) :: tokK ts) (kPair e.1) = _
    rw [valV_cons]
    cases i with
    | zero =>
      have he := Option.some.inj he
      subst he
      rw [if_pos rfl]
    | succ i =>
      have hm : e ∈ ts := List.mem_of_getElem? (i := i) he
      rw [if_neg (fun q => h.1 (by rw [kPair_inj q]; exact List.mem_map_of_mem hm))]
      exact ih h.2 he
theorem ok__law_look {f : Addr} {fd : FuncData} (F : Fun K "_law_look" "_law_look" s__law_look f fd) (T : OBlt mg) : FnOk P w K mg base CX0 1 f fd ["w"] (spLookL K) := by
  refine F.ok sc__law_look (fun vs H Q E h => ?_) (fun cdv A outer s H vs Q E hr h => ?_)
  · obtain ⟨A, W, kd, ds, kn, rfl, _⟩ := h
    rfl
  · obtain ⟨A, W, kd, ds, kn, rfl, hL, hO, k⟩ := h
    have hu := hu_of hr
    refine ⟨_, (pss_cons (ps_set (i := 1) sc__law_look.nd rfl (Or.inl rfl) (pe_callTy call_tuple_of (by rfl) T.b_tuple (by decide +kernel) (pa_cons (pe_lc (own := [("one", 4)]) rfl sc__law_look.nd (pi_list (pe_callB (call_sortedDI rfl) (by rfl) T.b_sorted (by decide +kernel) (pa_cons (pe_dget hu (pv 0) pe_str (fun _ _ => rfl)) pa_nil))) (blkOk_by (own := [("one", 4)]) (N := N__law_look) (sc := defScope s__law_look) (by decide +kernel)) (fun _ _ _ _ _ => (pg_name (i := 4) sc__law_look.nd rfl (Or.inl rfl))) (fun _ _ _ _ _ => pts_nil) (fun _ _ _ _ _ => (pe_dget hu (pe_dget hu (pv 0) pe_str (fun _ _ => rfl)) (pv 4) (fun _ _ => rfl)))) pa_nil)))
    (pss_cons (ps_set (i := 2) sc__law_look.nd rfl (Or.inl rfl) (pe_callTy call_tuple_of (by rfl) T.b_tuple (by decide +kernel) (pa_cons (pe_lc (own := [("owner", 5)]) rfl sc__law_look.nd (pi_list (pe_callB (call_sortedDI rfl) (by rfl) T.b_sorted (by decide +kernel) (pa_cons (pe_dget hu (pv 0) pe_str (fun _ _ => rfl)) pa_nil))) (blkOk_by (own := [("owner", 5)]) (N := N__law_look) (sc := defScope s__law_look) (by decide +kernel)) (fun _ _ _ _ _ => (pg_name (i := 5) sc__law_look.nd rfl (Or.inl rfl))) (fun _ _ _ _ _ => pts_nil) (fun _ _ _ _ _ => (pe_tup (pa_cons (pv 5) (pa_cons (pe_dget hu (pe_dget hu (pv 0) pe_str (fun _ _ => rfl)) (pv 5) (fun _ _ => rfl)) pa_nil))))) pa_nil)))
    (pss_cons (ps_set (i := 3) sc__law_look.nd rfl (Or.inl rfl) (pe_callTy call_tuple_of (by rfl) T.b_tuple (by decide +kernel) (pa_cons (pe_callB cr_sortedPO (by rfl) T.b_sorted (by decide +kernel) (pa_cons (pe_lock (pe_lc (own := [("token", 6)]) rfl sc__law_look.nd (pi_keys (pe_dget hu (pv 0) pe_str (fun _ _ => rfl))) (blkOk_by (own := [("token", 6)]) (N := N__law_look) (sc := defScope s__law_look) (by decide +kernel)) (fun _ _ _ _ _ => (pg_name (i := 6) sc__law_look.nd rfl (Or.inl rfl))) (fun _ _ _ _ _ => (pts_one (pt_cmp (pc_dnotin hu (pe_dget hu (pe_dget hu (pv 0) pe_str (fun _ _ => rfl)) (pv 6) (fun _ _ => rfl)) (pe_dget hu (pv 0) pe_str (fun _ _ => rfl)))))) (fun _ _ _ _ _ => (pv 6)))) pa_nil)) pa_nil)))
    (pss_one (ps_ret (pe_tup (pa_cons (pe_dget hu (pv 0) pe_str (fun _ _ => rfl)) (pa_cons (pv 2) (pa_cons (pv 1) (pa_cons (pv 3) pa_nil)))))))))), ?_⟩
    obtain ⟨kvs, g1, g2⟩ := hL.lw.things
    refine ⟨_, rfl, A.w, _, rfl, hL.lw.r.g_things, A.wT, kvs, W.things.map (·.id), rfl, .inl g1, ths_keys g2, by rw [List.length_map]; have := hO.lenT; omega, fun ys p perm srt np => ?_⟩
    rw [sorted_ids hO.ids perm srt]
    have sp := same_upd (o := HO.lst ((W.things.map (·.id)).map V.int)) np
    have hp := upd_same (H := H) (a := p) (o := HO.lst ((W.things.map (·.id)).map V.int))
    generalize upd H p (.lst ((W.things.map (·.id)).map V.int)) = H1 at sp hp
    have hL1 := hL.same sp
    refine ⟨p, rfl, ⟨_, SqL.of hp⟩, fun D hD => lc_list (K := K) (a := p) (xs := (W.things.map (·.id)).map V.int) (fun i H' => Same H1 H' ∧ ∃ as : List Addr, H' D = some (.lst (as.map V.ref)) ∧ Paired (fun a t => ThAt K H' a t) as (W.things.take i))
      ⟨same_upd hD, [], upd_same, .nil⟩ (fun i H' _ ⟨h, _⟩ => SqL.of (h _ _ hp)) ?_ ?_⟩
    · rintro i x H2 hx ⟨s2, as, hd, hP⟩
      obtain ⟨j, hj, rfl⟩ : ∃ j, (W.things.map (·.id))[i]? = some j ∧ V.int j = x := by
        rw [List.getElem?_map] at hx
        cases e : (W.things.map (·.id))[i]? with
        | none => rw [e] at hx; cases hx
        | some n => rw [e] at hx; exact ⟨n, rfl, Option.some.inj hx⟩
      obtain ⟨t, ht, rfl, htf⟩ := tfind_at hL.ids hj
      have hL2 := hL1.same s2
      obtain ⟨a, g3, hA⟩ := hL2.lw.r.thing htf
      have la : as.length = i := by
        have := hP.length
        have h2 := (List.getElem?_eq_some_iff.mp ht).1
        rw [List.length_take] at this
        omega
      have h2 := (List.getElem?_eq_some_iff.mp ht).1
      have hlt := hO.lenT
      have kp : Kp H2 (upd H2 D (.lst (as.map V.ref ++ [.ref a]))) := .put hd (fun z => z)
      refine ⟨rfl, _, rfl, A.w, _, rfl, hL2.lw.r.g_things, _, rfl, A.wT, _, rfl, g3, _, hd, ?_, fun b o e => ?_, as ++ [a], ?_, ?_⟩
      · rw [List.length_map, la]
        exact Nat.lt_of_lt_of_le (show i < 60 by omega) (by decide)
      · rw [upd_ne (ne_of_none e hD)]
        exact s2 _ _ e
      · rw [upd_same, List.map_append]; rfl
      · rw [List.take_add_one, ht]
        exact par_snoc (par_imp (fun _ _ q => th_kp q kp) hP) (th_kp hA kp)
    · rintro H2 ⟨s2, as, hd, hP⟩
      rw [List.length_map, List.length_map, List.take_length] at hP
      refine ⟨D, _, rfl, .inl ⟨SqL.of hd, fun tA ntA => ?_⟩⟩
      have s3 := same_upd (o := HO.tup (as.map V.ref)) ntA
      have htA := upd_same (H := H2) (a := tA) (o := HO.tup (as.map V.ref))
      have dpT : Dp K (upd H2 tA (.tup (as.map V.ref))) (.ref tA) (.tuple (W.things.map thD)) := .tup (.of htA) (dpAll_par (fun a t q => th_dp (th_kp q (.of_same s3))) hP)
      have s13 := sp.trans (s2.trans s3)
      generalize upd H2 tA (.tup (as.map V.ref)) = H3 at s3 htA dpT s13
      have hL3 := hL.same s13
      clear hP hd s2 hp hL1
      -- fences
      have kF : (itK W.fences).map (·.1) = (W.fences.map (·.1)).map Sum.inl := by unfold itK; rw [List.map_map, List.map_map]; rfl
      refine ⟨_, rfl, A.w, _, rfl, hL3.lw.r.g_fences, A.wF, _, W.fences.map (·.1), rfl, hL3.lw.r.fences, kF, by rw [List.length_map]; have := hO.lenF; omega, fun os q operm osrt nq => ?_⟩
      have sq := same_upd (o := HO.lst (os.map V.int)) nq
      have hq := upd_same (H := H3) (a := q) (o := HO.lst (os.map V.int))
      have dpT4 := dp_mono sq _ _ dpT
      have s14 := s13.trans sq
      generalize upd H3 q (.lst (os.map V.int)) = H4 at sq hq dpT4 s14
      have hL4 := hL.same s14
      refine ⟨q, rfl, ⟨_, SqL.of hq⟩, fun D hD => lc_list (K := K) (a := q) (xs := os.map V.int) (fun i H' => Same H4 H' ∧ ∃ as : List Addr, H' D = some (.lst (as.map V.ref)) ∧ Paired (fun a o => SqT K H' a [.int o, .int (fget W.fences o)]) as (os.take i))
        ⟨same_upd hD, [], upd_same, .nil⟩ (fun i H' _ ⟨h, _⟩ => SqL.of (h _ _ hq)) ?_ ?_⟩
      · rintro i x H5 hx ⟨s5, as, hd, hP⟩
        obtain ⟨j, hj, rfl⟩ : ∃ j, os[i]? = some j ∧ V.int j = x := by
          rw [List.getElem?_map] at hx
          cases e : os[i]? with
          | none => rw [e] at hx; cases hx
          | some n => rw [e] at hx; exact ⟨n, rfl, Option.some.inj hx⟩
        have hjm : j ∈ W.fences.map (·.1) := operm.mem_iff.mp (List.mem_of_getElem? hj)
        have hL5 := hL4.same s5
        have lo : os.length = W.fences.length := by rw [operm.length_eq, List.length_map]
        have h2 := (List.getElem?_eq_some_iff.mp hj).1
        have hlt := hO.lenF
        have la : as.length = i := by
          have := hP.length
          rw [List.length_take] at this
          omega
        refine ⟨rfl, _, rfl, _, rfl, A.w, _, rfl, hL5.lw.r.g_fences, _, rfl, A.wF, _, rfl, .inl ⟨_, Sum.inl j, hL5.lw.r.fences, rfl, (fval_some hjm).symm⟩, by show 2 ≤ sizeLine; decide, fun b nb => ?_⟩
        have sb := same_upd (o := HO.tup [.int j, .int (fget W.fences j)]) nb
        have nbD : b ≠ D := fun z => by rw [z, hd] at nb; cases nb
        have kp : Kp H5 (upd (upd H5 b (.tup [.int j, .int (fget W.fences j)])) D (.lst (as.map V.ref ++ [.ref b]))) := (Kp.of_same sb).trans (.put (sb _ _ hd) (fun z => z))
        refine ⟨_, sb _ _ hd, ?_, fun b o e => ?_, as ++ [b], ?_, ?_⟩
        · rw [List.length_map, la]
          exact Nat.lt_of_lt_of_le (show i < 60 by omega) (by decide)
        · rw [upd_ne (ne_of_none e hD)]
          exact sb _ _ (s5 _ _ e)
        · rw [upd_same, List.map_append]; rfl
        · rw [List.take_add_one, hj]
          exact par_snoc (par_imp (fun _ _ q => sq_kp q kp) hP) (.of (by rw [upd_ne nbD]; exact upd_same))
      · rintro H5 ⟨s5, as, hd, hP⟩
        rw [List.length_map, List.take_length] at hP
        refine ⟨D, _, rfl, .inl ⟨SqL.of hd, fun tF ntF => ?_⟩⟩
        have s6 := same_upd (o := HO.tup (as.map V.ref)) ntF
        have htF := upd_same (H := H5) (a := tF) (o := HO.tup (as.map V.ref))
        have dpF : Dp K (upd H5 tF (.tup (as.map V.ref))) (.ref tF) (.tuple ((os.map fun o => (o, fget W.fences o)).map iiD)) := by
          rw [List.map_map]
          exact .tup (.of htF) (dpAll_par (f := iiD ∘ fun o => (o, fget W.fences o)) (fun a t q => .tup (same_seqT s6 q) (.cons (.int _) (.cons (.int _) .nil))) hP)
        have dpT6 := dp_mono (s5.trans s6) _ _ dpT4
        have s16 := s14.trans (s5.trans s6)
        generalize upd H5 tF (.tup (as.map V.ref)) = H6 at s6 htF dpF dpT6 s16
        have hL6 := hL.same s16
        clear hP hd s5 hq hL4 dpT dpT4 hL3
        -- spent
        have hKk := hL6.lw.toks
        refine ⟨A.wK, _, hKk, trivial, fun od => ?_⟩
        obtain ⟨n1, n2, n3, n4, n5, n6⟩ := nd4 hL6.nd
        have hW : LwR K (upd H6 A.wK (.frz od (.dT (tokK W.toks)))) A W := by
          obtain ⟨kv, a, b⟩ := hL6.lw.things
          exact ⟨by rw [upd_ne n2]; exact hL6.lw.w, ⟨kv, .inl (by rw [upd_ne n4]; exact a), ths_kp b (.put hKk (fun z => z))⟩, .inr ⟨od, upd_same⟩, .inl (by rw [upd_ne n6.symm]; exact hL6.lw.fences)⟩
        refine ⟨_, rfl, A.w, _, rfl, hW.g_tokens, A.wK, od, rfl, .inr ⟨_, upd_same, fun D hD => lc_it walk_keysT (fun i H' => Same (upd H6 A.wK (.frz od (.dT (tokK W.toks)))) H' ∧ ∃ as : List Addr, H' D = some (.lst (as.map V.ref)) ∧ Paired (fun a (e : Tk) => H' a = some (.tup [.int e.1, .int e.2])) as (((W.toks.take i).filter fun e => (tfind W.things e.2).isNone).map (·.1)))
          ⟨same_upd hD, [], upd_same, .nil⟩ (fun i H' _ ⟨h, _⟩ => h _ _ upd_same) ?_ ?_⟩⟩
        · rintro i x H9 H7 hi ⟨s7, as, hd, hP⟩ ⟨rfl, key, v, q, hkv, rfl, hq⟩
          obtain ⟨e, he, ekv⟩ : ∃ e, W.toks[i]? = some e ∧ (kPair e.1, V.int e.2) = (key, v) := by
            unfold tokK at hkv
            rw [List.getElem?_map] at hkv
            cases z : W.toks[i]? with
            | none => rw [z] at hkv; cases hkv
            | some e => rw [z] at hkv; exact ⟨e, rfl, Option.some.inj hkv⟩
          injection ekv with ekey ev
          subst ekey ev
          have hi2 := (List.getElem?_eq_some_iff.mp he).1
          have hlt := hO.lenK
          have hW7 := hW.same s7
          have et : W.toks.take (i + 1) = W.toks.take i ++ [e] := by rw [List.take_add_one, he]; rfl
          have la : as.length ≤ i := by
            have h1 := hP.length
            have h2 := List.length_filter_le (fun e : Tk × Int => (tfind W.things e.2).isNone) (W.toks.take i)
            rw [List.length_map] at h1
            rw [List.length_take] at h2
            omega
          cases hf : tfind W.things e.2 with
          | some th =>
            obtain ⟨ta, g3, _⟩ := hW7.thing hf
            refine ⟨rfl, _, rfl, A.w, _, rfl, hW7.g_tokens, _, rfl, A.wK, _, rfl, .inr ⟨_, kPair e.1, q, hW7.toks, rfl, hq, (tokv_at hO.kK he).symm⟩, _, rfl, A.w, _, rfl, hW7.g_things, A.wT, _, rfl, g3, _, rfl, iteF ⟨s7, as, hd, ?_⟩⟩
            rw [et, List.filter_append]
            simpa [hf] using hP
          | none =>
            have kp : Kp H7 (upd H7 D (.lst (as.map V.ref ++ [.ref q]))) := .put hd (fun z => z)
            refine ⟨rfl, _, rfl, A.w, _, rfl, hW7.g_tokens, _, rfl, A.wK, _, rfl, .inr ⟨_, kPair e.1, q, hW7.toks, rfl, hq, (tokv_at hO.kK he).symm⟩, _, rfl, A.w, _, rfl, hW7.g_things, A.wT, _, rfl, hW7.nothing hf, _, rfl, iteT ⟨_, rfl, _, hd, ?_, fun b o z => ?_, as ++ [q], ?_, ?_⟩⟩
            · rw [List.length_map]
              exact Nat.lt_of_lt_of_le (show as.length < 60 by omega) (by decide)
            · rw [upd_ne (ne_of_none z hD)]
              exact s7 _ _ z
            · rw [upd_same, List.map_append]; rfl
            · rw [et, List.filter_append, List.map_append]
              have e1 : ([e].filter fun e => (tfind W.things e.2).isNone).map (·.1) = [e.1] := by simp [hf]
              rw [e1]
              exact par_snoc (par_imp (fun a (x : Tk) z => kp a (.tup [.int x.1, .int x.2]) trivial z) hP) (kp q (.tup [.int e.1.1, .int e.1.2]) trivial hq)
        · rintro H7 ⟨s7, as, hd, hP⟩
          have lz : (tokK W.toks).length = W.toks.length := by unfold tokK; rw [List.length_map]
          rw [lz, List.take_length] at hP
          have s67 : Same H6 (upd H7 A.wK (.dT (tokK W.toks))) := same_unlock hKk s7
          refine ⟨same_frz s7, ?_⟩
          have nDK : D ≠ A.wK := fun z => by rw [z, upd_same] at hD; cases hD
          have hd8 : upd H7 A.wK (.dT (tokK W.toks)) D = some (.lst (as.map V.ref)) := by rw [upd_ne nDK]; exact hd
          have hP8 : Paired (fun a (e : Tk) => upd H7 A.wK (.dT (tokK W.toks)) a = some (.tup [.int e.1, .int e.2])) as (spentW W) := par_imp (fun a e z => by
            have : a ≠ A.wK := fun y => by rw [y, same_frz s7] at z; cases z
            rw [upd_ne this]; exact z) hP
          have s18 := s16.trans s67
          have dpT8 := dp_mono s67 _ _ dpT6
          have dpF8 := dp_mono s67 _ _ dpF
          have hL8 := hL.same s18
          generalize upd H7 A.wK (.dT (tokK W.toks)) = H8 at hd8 hP8 s18 dpT8 dpF8 hL8
          clear hP hd s67 s7
          obtain ⟨kf, ekf⟩ : ∃ kf : V → Int × Int, ∀ (b : Addr) (e : Tk), H8 b = some (.tup [.int e.1, .int e.2]) → kf (.ref b) = e := by
            refine ⟨fun v => match v with | .ref b => (match H8 b with | some (.tup [.int i, .int j]) => (i, j) | _ => (0, 0)) | _ => (0, 0), fun b e z => ?_⟩
            show (match H8 b with | some (.tup [.int i, .int j]) => (i, j) | _ => (0, 0)) = e
            rw [z]
          have mem : ∀ x ∈ as.map V.ref, ∃ b e, x = .ref b ∧ e ∈ spentW W ∧ H8 b = some (.tup [.int (Prod.fst e), .int e.2]) := fun x hx => by
            obtain ⟨b, hb, rfl⟩ := List.mem_map.mp hx
            obtain ⟨j, hj⟩ := List.mem_iff_getElem?.mp hb
            obtain ⟨e, he, z⟩ := par_at hP8 hj
            exact ⟨b, e, rfl, List.mem_of_getElem? he, z⟩
          have ekm : (as.map V.ref).map kf = spentW W := by
            have gen : ∀ {as : List Addr} {es : List Tk}, Paired (fun a (e : Tk) => H8 a = some (.tup [.int e.1, .int e.2])) as es → (as.map V.ref).map kf = es := fun h => by
              induction h with
              | nil => rfl
              | cons a b ih => rw [List.map_cons, List.map_cons, ekf _ _ a, ih]
            exact gen hP8
          refine ⟨D, _, kf, rfl, SqL.of hd8, fun x hx => ?_, fun ys2 p2 hsr hst np2 => ?_⟩
          · obtain ⟨b, e, rfl, _, z⟩ := mem x hx
            rw [ekf b e z]
            exact ⟨b, rfl, z⟩
          · have s9 := same_upd (o := HO.lst ys2) np2
            refine ⟨p2, _, rfl, .inl ⟨SqL.of upd_same, fun tS ntS => ?_⟩⟩
            have s10 := same_upd (o := HO.tup ys2) ntS
            have s8A := s9.trans s10
            have perm2 : ys2.Perm (as.map V.ref) := hst.1
            have dpS : Dp K (upd (upd H8 p2 (.lst ys2)) tS (.tup ys2)) (.ref tS) (.tuple ((ys2.map kf).map iiD)) := by
              refine .tup (.of upd_same) ?_
              have : ∀ (l : List V), (∀ x ∈ l, x ∈ as.map V.ref) → DpAll K (upd (upd H8 p2 (.lst ys2)) tS (.tup ys2)) l ((l.map kf).map iiD) := fun l => by
                induction l with
                | nil => intro _; exact .nil
                | cons x l ih =>
                  intro hl
                  obtain ⟨b, e, rfl, _, z⟩ := mem x (hl x List.mem_cons_self)
                  rw [List.map_cons, List.map_cons, ekf b e z]
                  exact .cons (.tup (.of (s8A _ _ z)) (.cons (.int _) (.cons (.int _) .nil))) (ih fun y hy => hl y (List.mem_cons_of_mem _ hy))
              exact this ys2 fun x hx => perm2.mem_iff.mp hx
            refine ⟨_, rfl, A.w, _, rfl, (hL8.same s8A).lw.r.g_moment, _, rfl, _, rfl, _, rfl, by show 4 ≤ sizeLine; decide, fun pR npR => ?_⟩
            have s11 := same_upd (o := HO.tup [.int W.mom, .ref tF, .ref tA, .ref tS]) npR
            refine k (.ref pR) _ os (ys2.map kf) (s18.trans (s8A.trans s11)) operm osrt ?_ ?_ ?_
            · have := perm2.map kf
              rw [ekm] at this
              exact this
            · rw [List.pairwise_map]
              exact hsr.imp fun q => lexB_le q
            · exact .tup (.of upd_same) (.cons (.int _) (.cons (dp_mono (s8A.trans s11) _ _ dpF8) (.cons (dp_mono (s8A.trans s11) _ _ dpT8) (.cons (dp_mono s11 _ _ dpS) .nil))))
end
end K07
namespace K07
open PySem PySem.Spec PyProof.Rows L2 LB OW
section
variable {P : Program} {w : World} {K : PySem.W.Frag} {mg : Str → Option Value} {base : Heap} {C pC pD pN : Addr} {eC eD : Array DictEntry} {nC nD : Nat}
theorem fS_int (n : Int) : formS "integer" (.int n) = true := by unfold formS; rw [if_pos rfl]; rfl
theorem fS_str (x : Str) : formS "string" (.str x) = true := by
  unfold formS
  rw [if_neg (show ¬ ("string" : Str) = "integer" by decide +kernel), if_pos rfl]
  rfl
theorem fS_val (o : Option Int) : formS "value" (oD o) = true := by
  unfold formS
  rw [if_neg (show ¬ ("value" : Str) = "integer" by decide +kernel), if_neg (show ¬ ("value" : Str) = "string" by decide +kernel), if_pos rfl]
  cases o <;> rfl
theorem fP_int (n : Int) : formP "integer" (.int n) = true := by rw [formP_sim (by decide +kernel)]; exact fS_int n
theorem fP_str (x : Str) : formP "string" (.str x) = true := by rw [formP_sim (by decide +kernel)]; exact fS_str x
theorem fP_val (o : Option Int) : formP "value" (oD o) = true := by rw [formP_sim (by decide +kernel)]; exact fS_val o
theorem fP_pair (m : Int × Int) : formP "pair" (iiD m) = true := by
  unfold formP
  rw [if_pos rfl]
  show (decide (2 = 2) && (formS "integer" (.int m.1) && (formS "integer" (.int m.2) && true))) = true
  rw [fS_int, fS_int]
  rfl
theorem fP_values (vals : Vals_) : formP "values" (.tuple (vals.map fvD)) = true := by
  unfold formP
  rw [if_neg (show ¬ ("values" : Str) = "pair" by decide +kernel), if_pos rfl]
  show (vals.map fvD).all (tupG formS ["string", "value"]) = true
  rw [List.all_map, List.all_eq_true]
  intro fv _
  show (decide (2 = 2) && (formS "string" (.str fv.1) && (formS "value" (oD fv.2) && true))) = true
  rw [fS_str, fS_val]
  rfl
theorem fP_any (d : PyData) : formP "anything" d = true := by
  rw [formP_sim (by decide +kernel)]
  unfold formS
  rw [if_neg (show ¬ ("anything" : Str) = "integer" by decide +kernel), if_neg (show ¬ ("anything" : Str) = "string" by decide +kernel), if_neg (show ¬ ("anything" : Str) = "value" by decide +kernel)]
def clW : Cl → Str
  | .fence _ => "fence"
  | .make _ _ _ _ => "make"
  | .change _ _ _ _ _ => "change"
  | .take _ _ _ => "take"
def clR : Cl → List PyData
  | .fence m => [iiD m]
  | .make m t kind vals => [iiD m, iiD t, .str kind, .tuple (vals.map fvD)]
  | .change m one ver field v => [iiD m, .int one, .int ver, .str field, oD v]
  | .take m one ver => [iiD m, .int one, .int ver]
theorem sz_pr (m : Int × Int) : sz1 (iiD m) := fun ds e => by
  have e : ds = [.int m.1, .int m.2] := by unfold iiD at e; injection e with e; exact e.symm
  subst e
  exact ⟨by show 2 < 60; decide, fun x hx gs q => by
    simp only [List.mem_cons, List.not_mem_nil, or_false] at hx
    rcases hx with rfl | rfl <;> cases q⟩
theorem sz_int (n : Int) : sz1 (.int n) := fun ds e => by cases e
theorem sz_str (n : Str) : sz1 (.str n) := fun ds e => by cases e
theorem sz_o (o : Option Int) : sz1 (oD o) := fun ds e => by cases o <;> cases e
theorem sz_vals {vals : Vals_} (h : vals.length < 60) : sz1 (.tuple (vals.map fvD)) := fun ds e => by
  injection e with e
  subst e
  refine ⟨by rw [List.length_map]; exact h, fun x hx gs q => ?_⟩
  obtain ⟨fv, _, rfl⟩ := List.mem_map.mp hx
  unfold fvD at q
  injection q with q
  subst q
  show 2 < 60
  decide
theorem small_of {ds : List PyData} (h : ds.length < 60) (q : ∀ d ∈ ds, sz1 d) : Small ds := ⟨h, q⟩
theorem dp_pr {H : Hp} {a : Addr} {m : Int × Int} (h : SqT K H a [.int m.1, .int m.2]) : Dp K H (.ref a) (iiD m) := .tup h (.cons (.int _) (.cons (.int _) .nil))
theorem cl_data {H : Hp} {kn : Kn} {a : Addr} {c : Cl} (h : ClAt K H kn a c) : ∃ xs, SqT K H a xs ∧ DpAll K H xs (.str (clW c) :: clR c) ∧ clW c ∈ (["fence", "make", "change", "take", "stay"] : List Str) ∧ Small (clR c) ∧ callD (clW c) (clR c) = true := by
  have e1 : callForms "fence" = some (["pair"] : List Str) := by decide +kernel
  have e2 : callForms "make" = some (["pair", "pair", "anything", "values"] : List Str) := by decide +kernel
  have e3 : callForms "change" = some (["pair", "integer", "integer", "string", "value"] : List Str) := by decide +kernel
  have e4 : callForms "take" = some (["pair", "integer", "integer"] : List Str) := by decide +kernel
  cases c with
  | fence m =>
    obtain ⟨ma, sa, sm⟩ := h
    refine ⟨_, sa, .cons (.str _) (.cons (dp_pr sm) .nil), by simp [clW], small_of (by show 1 < 60; decide) fun d hd => ?_, ?_⟩
    · rw [List.mem_singleton.mp hd]; exact sz_pr m
    · show (match callForms "fence" with | none => false | some fs => haveG formP fs [iiD m]) = true
      rw [e1]
      show (decide (1 = 1) && (formP "pair" (iiD m) && true)) = true
      rw [fP_pair]; rfl
  | make m t kind vals =>
    obtain ⟨ma, ta, va, fs, sa, sm, ht, hV, hf, hlen, hH⟩ := h
    refine ⟨_, sa, .cons (.str _) (.cons (dp_pr sm) (.cons (dp_pr (.of ht)) (.cons (.str _) (.cons (vals_dp hV) .nil)))), by simp [clW], small_of (by show 4 < 60; decide) fun d hd => ?_, ?_⟩
    · simp only [clR, List.mem_cons, List.not_mem_nil, or_false] at hd
      rcases hd with rfl | rfl | rfl | rfl
      · exact sz_pr m
      · exact sz_pr t
      · exact sz_str _
      · exact sz_vals hlen
    · show (match callForms "make" with | none => false | some fs => haveG formP fs [iiD m, iiD t, .str kind, .tuple (vals.map fvD)]) = true
      rw [e2]
      show (decide (4 = 4) && (formP "pair" (iiD m) && (formP "pair" (iiD t) && (formP "anything" (.str kind) && (formP "values" (.tuple (vals.map fvD)) && true))))) = true
      rw [fP_pair, fP_pair, fP_any, fP_values]; rfl
  | change m one ver field v =>
    obtain ⟨ma, sa, sm⟩ := h
    refine ⟨_, sa, .cons (.str _) (.cons (dp_pr sm) (.cons (.int _) (.cons (.int _) (.cons (.str _) (.cons (dp_o _) .nil))))), by simp [clW], small_of (by show 5 < 60; decide) fun d hd => ?_, ?_⟩
    · simp only [clR, List.mem_cons, List.not_mem_nil, or_false] at hd
      rcases hd with rfl | rfl | rfl | rfl | rfl
      · exact sz_pr m
      · exact sz_int _
      · exact sz_int _
      · exact sz_str _
      · exact sz_o _
    · show (match callForms "change" with | none => false | some fs => haveG formP fs [iiD m, .int one, .int ver, .str field, oD v]) = true
      rw [e3]
      show (decide (5 = 5) && (formP "pair" (iiD m) && (formP "integer" (.int one) && (formP "integer" (.int ver) && (formP "string" (.str field) && (formP "value" (oD v) && true)))))) = true
      rw [fP_pair, fP_int, fP_int, fP_str, fP_val]; rfl
  | take m one ver =>
    obtain ⟨ma, sa, sm⟩ := h
    refine ⟨_, sa, .cons (.str _) (.cons (dp_pr sm) (.cons (.int _) (.cons (.int _) .nil))), by simp [clW], small_of (by show 3 < 60; decide) fun d hd => ?_, ?_⟩
    · simp only [clR, List.mem_cons, List.not_mem_nil, or_false] at hd
      rcases hd with rfl | rfl | rfl
      · exact sz_pr m
      · exact sz_int _
      · exact sz_int _
    · show (match callForms "take" with | none => false | some fs => haveG formP fs [iiD m, .int one, .int ver]) = true
      rw [e4]
      show (decide (3 = 3) && (formP "pair" (iiD m) && (formP "integer" (.int one) && (formP "integer" (.int ver) && true)))) = true
      rw [fP_pair, fP_int, fP_int]; rfl
theorem ok_Outside_do {f : Addr} {fd : FuncData} (F : Fun K "do" "Outside.do" s_Outside_do f fd) (T : OTxt P w K mg C pC pD pN eC eD nC nD) (c_is_call : C8.Cal P w K mg base 7 "is_call" (spIsCall K) [])
    {f1 : Addr} {fd1 : FuncData} (m__answer_to : Meth K C "_answer_to" f1) (G__answer_to : FnOk P w K mg base CX0 5 f1 fd1 ["self", "call"] (spAnswer K C)) (b__answer_to : Binds K fd1 ["self", "call"] []) :
    FnOk P w K mg base CX0 8 f fd ["self", "call"] (spODo K C) := by
  refine F.ok sc_Outside_do (fun vs H Q E h => ?_) (fun cdv A outer s H vs Q E hr h => ?_)
  · obtain ⟨B, O, kn, a, c, rfl, _⟩ := h
    rfl
  · obtain ⟨B, O, kn, a, c, rfl, hO, hK, hC, k⟩ := h
    refine ⟨_, (pss_cons (ps_if (pt_not (pt_val (C8.pe_c c_is_call hr (by first | decide | omega) rfl (pa_cons (pv 1) pa_nil))))
      (pss_one ps_false)
      pss_nil)
    (pss_cons (ps_set (i := 2) sc_Outside_do.nd rfl (Or.inl rfl) (pe_fld (pv 0) rfl))
    (pss_cons (ps_set (i := 3) sc_Outside_do.nd rfl (Or.inl rfl) (pe_meth (pv 0) T.cl m__answer_to G__answer_to (hr.mono (by decide)) b__answer_to .nil pass0 (pa_cons (pv 1) pa_nil)))
    (pss_cons (ps_if (pt_cmpR op_gt (pe_fld (pv 0) rfl) (pv 2) (nomark _))
      (pss_one (ps_fldaug (pv 0) pe_int in_add))
      pss_nil)
    (pss_one (ps_ret (pv 3))))))), ?_⟩
    obtain ⟨xs, sa, hx, hw, hsm, hcd⟩ := cl_data hC
    refine ⟨_, rfl, a, xs, clW c, clR c, rfl, sa, hx, hw, hsm, fun H1 s1 => ⟨_, rfl, ?_⟩⟩
    rw [hcd]
    have hO1 := hO.same s1
    refine iteF ⟨_, rfl, B.a, C, B.dx, _, _, rfl, hO1.at_, T.cl, T.n_moment, lk_moment, ?_⟩
    refine ⟨_, rfl, B.a, B.dx, _, rfl, hO1.at_, lk_no (by decide +kernel), _, rfl, B, O, kn, a, c, rfl, hO1, hK, hC.kp (.of_same s1), fun v H2 c2 hO2 ha => ?_⟩
    refine ⟨_, rfl, B.a, C, B.dx, _, _, rfl, hO2.at_, T.cl, T.n_moment, lk_moment, _, rfl, _, _, rfl, rfl, _, rfl, ?_⟩
    show (if decide (O.mom < (oAns kn O c).mom) = true then _ else _ : Prop)
    have c12 := (Ch.of_same s1).trans c2
    by_cases h0 : O.mom < (oAns kn O c).mom
    · rw [decide_eq_true h0]
      have eO : oDo kn O c = { oAns kn O c with calls := (oAns kn O c).calls + 1 } := by
        unfold oDo
        rw [if_pos h0]
      rw [eO] at k
      refine iteT (ocalls T hO2 rfl ⟨_, rfl, ?_⟩)
      exact k v _ (c12.trans (Ob.cho hO2)) (hO2.setO (O' := { oAns kn O c with calls := (oAns kn O c).calls + 1 }) rfl rfl rfl) (ha.kp (Ob.cho hO2).kp)
    · rw [decide_eq_false h0]
      have eO : oDo kn O c = oAns kn O c := by
        unfold oDo
        rw [if_neg h0]
      rw [eO] at k
      exact iteF ⟨_, rfl, k v _ c12 hO2 ha⟩
theorem ok_Outside_make {f : Addr} {fd : FuncData} (F : Fun K "make" "Outside.make" s_Outside_make f fd) (T : OTxt P w K mg C pC pD pN eC eD nC nD) (c__check_deed : C8.Cal P w K mg base 8 "_check_deed" (spCheck K) [])
    {f1 : Addr} {fd1 : FuncData} (m__make : Meth K C "_make" f1) (G__make : FnOk P w K mg base CX0 4 f1 fd1 ["self", "token", "kind", "values"] (spOMake K C)) (b__make : Binds K fd1 ["self", "token", "kind", "values"] []) :
    FnOk P w K mg base CX0 9 f fd ["self", "kind", "values"] (spMk K C) := by
  refine F.ok sc_Outside_make (fun vs H Q E h => ?_) (fun cdv A outer s H vs Q E hr h => ?_)
  · obtain ⟨B, O, kn, kind, va, vals, fs, rfl, _⟩ := h
    rfl
  · obtain ⟨B, O, kn, kind, va, vals, fs, rfl, hO, hK, hf, hV, hlen, hH, k⟩ := h
    refine ⟨_, (pss_cons (ps_expr (C8.pe_c c__check_deed hr (by first | decide | omega) rfl (pa_cons pe_str (pa_cons (pe_tup (pa_cons (pv 1) (pa_cons (pv 2) pa_nil))) pa_nil))))
    (pss_one (ps_ret (pe_meth (pv 0) T.cl m__make G__make (hr.mono (by decide)) b__make .nil pass0 (pa_cons (pe_tup pa_nil) (pa_cons (pv 1) (pa_cons (pv 2) pa_nil))))))), ?_⟩
    have e1 : deedForms "make" = (["anything", "values"] : List Str) := by decide +kernel
    refine ⟨_, rfl, _, rfl, by show 2 ≤ sizeLine; decide, fun p np => ?_⟩
    have sp := same_upd (o := HO.tup [.str kind, .ref va]) np
    refine ⟨p, _, "make", [.str kind, .tuple (vals.map fvD)], rfl, .of upd_same, .cons (.str _) (.cons (vals_dp (vals_kp hV (.of_same sp))) .nil), by simp, small_of (by show 2 < 60; decide) fun d hd => ?_, ?_, fun H1 s1 => ?_⟩
    · simp only [List.mem_cons, List.not_mem_nil, or_false] at hd
      rcases hd with rfl | rfl
      · exact sz_str _
      · exact sz_vals hlen
    · rw [e1]
      show (decide (2 = 2) && (formP "anything" (.str kind) && (formP "values" (.tuple (vals.map fvD)) && true))) = true
      rw [fP_any, fP_values]; rfl
    · have s2 := sp.trans s1
      have hO1 := hO.same s2
      refine ⟨_, rfl, B.a, B.dx, _, rfl, hO1.at_, lk_no (by decide +kernel), Nat.zero_le _, fun q nq => ?_⟩
      have s3 := s2.trans (same_upd (o := HO.tup []) nq)
      have hO3 := hO.same s3
      exact ⟨_, rfl, _, rfl, B, O, kn, q, none, kind, va, vals, fs, rfl, hO3, hK, .of upd_same, hf, vals_kp hV (.of_same s3), hlen, hH, fun v H' c' o' ha => k v H' ((Ch.of_same s3).trans c') o' ha⟩
theorem ok_Outside_change {f : Addr} {fd : FuncData} (F : Fun K "change" "Outside.change" s_Outside_change f fd) (T : OTxt P w K mg C pC pD pN eC eD nC nD) (c__check_deed : C8.Cal P w K mg base 8 "_check_deed" (spCheck K) [])
    {f1 : Addr} {fd1 : FuncData} (m__change : Meth K C "_change" f1) (G__change : FnOk P w K mg base CX0 4 f1 fd1 ["self", "id_of_thing", "version", "field", "value"] (spOChange K C)) (b__change : Binds K fd1 ["self", "id_of_thing", "version", "field", "value"] []) :
    FnOk P w K mg base CX0 9 f fd ["self", "id_of_thing", "field", "value"] (spCh K C) := by
  refine F.ok sc_Outside_change (fun vs H Q E h => ?_) (fun cdv A outer s H vs Q E hr h => ?_)
  · obtain ⟨B, O, kn, i, field, v, rfl, _⟩ := h
    rfl
  · obtain ⟨B, O, kn, i, field, v, rfl, hO, hK, k⟩ := h
    refine ⟨_, (pss_cons (ps_expr (C8.pe_c c__check_deed hr (by first | decide | omega) rfl (pa_cons pe_str (pa_cons (pe_tup (pa_cons (pv 1) (pa_cons (pv 2) (pa_cons (pv 3) pa_nil)))) pa_nil))))
    (pss_one (ps_ret (pe_meth (pv 0) T.cl m__change G__change (hr.mono (by decide)) b__change .nil pass0 (pa_cons (pv 1) (pa_cons pe_non (pa_cons (pv 2) (pa_cons (pv 3) pa_nil)))))))), ?_⟩
    have e1 : deedForms "change" = (["integer", "string", "value"] : List Str) := by decide +kernel
    refine ⟨_, rfl, _, rfl, _, rfl, by show 3 ≤ sizeLine; decide, fun p np => ?_⟩
    have sp := same_upd (o := HO.tup [.int i, .str field, oV v]) np
    refine ⟨p, _, "change", [.int i, .str field, oD v], rfl, .of upd_same, .cons (.int _) (.cons (.str _) (.cons (dp_o _) .nil)), by simp, small_of (by show 3 < 60; decide) fun d hd => ?_, ?_, fun H1 s1 => ?_⟩
    · simp only [List.mem_cons, List.not_mem_nil, or_false] at hd
      rcases hd with rfl | rfl | rfl
      · exact sz_int _
      · exact sz_str _
      · exact sz_o _
    · rw [e1]
      show (decide (3 = 3) && (formP "integer" (.int i) && (formP "string" (.str field) && (formP "value" (oD v) && true)))) = true
      rw [fP_int, fP_str, fP_val]; rfl
    · have s2 := sp.trans s1
      have hO1 := hO.same s2
      exact ⟨_, rfl, B.a, B.dx, _, rfl, hO1.at_, lk_no (by decide +kernel), _, rfl, _, rfl, _, rfl, B, O, kn, i, none, field, v, rfl, hO1, hK, fun u H' c' o' ha => k u H' ((Ch.of_same s2).trans c') o' ha⟩
theorem ok_Outside_take {f : Addr} {fd : FuncData} (F : Fun K "take" "Outside.take" s_Outside_take f fd) (T : OTxt P w K mg C pC pD pN eC eD nC nD) (c__check_deed : C8.Cal P w K mg base 8 "_check_deed" (spCheck K) [])
    {f1 : Addr} {fd1 : FuncData} (m__take : Meth K C "_take" f1) (G__take : FnOk P w K mg base CX0 3 f1 fd1 ["self", "id_of_thing", "version"] (spOTake K C)) (b__take : Binds K fd1 ["self", "id_of_thing", "version"] []) :
    FnOk P w K mg base CX0 9 f fd ["self", "id_of_thing"] (spTk K C) := by
  refine F.ok sc_Outside_take (fun vs H Q E h => ?_) (fun cdv A outer s H vs Q E hr h => ?_)
  · obtain ⟨B, O, kn, i, rfl, _⟩ := h
    rfl
  · obtain ⟨B, O, kn, i, rfl, hO, hK, k⟩ := h
    refine ⟨_, (pss_cons (ps_expr (C8.pe_c c__check_deed hr (by first | decide | omega) rfl (pa_cons pe_str (pa_cons (pe_tup (pa_cons (pv 1) pa_nil)) pa_nil))))
    (pss_one (ps_ret (pe_meth (pv 0) T.cl m__take G__take (hr.mono (by decide)) b__take .nil pass0 (pa_cons (pv 1) (pa_cons pe_non pa_nil)))))), ?_⟩
    have e1 : deedForms "take" = (["integer"] : List Str) := by decide +kernel
    refine ⟨_, rfl, by show 1 ≤ sizeLine; decide, fun p np => ?_⟩
    have sp := same_upd (o := HO.tup [.int i]) np
    refine ⟨p, _, "take", [.int i], rfl, .of upd_same, .cons (.int _) .nil, by simp, small_of (by show 1 < 60; decide) fun d hd => ?_, ?_, fun H1 s1 => ?_⟩
    · rw [List.mem_singleton.mp hd]; exact sz_int _
    · rw [e1]
      show (decide (1 = 1) && (formP "integer" (.int i) && true)) = true
      rw [fP_int]; rfl
    · have s2 := sp.trans s1
      have hO1 := hO.same s2
      exact ⟨_, rfl, B.a, B.dx, _, rfl, hO1.at_, lk_no (by decide +kernel), _, rfl, B, O, kn, i, none, rfl, hO1, hK, fun u H' c' o' ha => k u H' ((Ch.of_same s2).trans c') o' ha⟩
theorem ok_Outside_calls {f : Addr} {fd : FuncData} (F : Fun K "calls" "Outside.calls" s_Outside_calls f fd) (T : OTxt P w K mg C pC pD pN eC eD nC nD) : FnOk P w K mg base CX0 1 f fd ["self"] (spCalls K C) := by
  refine F.ok sc_Outside_calls (fun vs H Q E h => ?_) (fun cdv A outer s H vs Q E hr h => ?_)
  · obtain ⟨B, O, kn, rfl, _⟩ := h
    rfl
  · obtain ⟨B, O, kn, rfl, hO, k⟩ := h
    exact ⟨_, (pss_one (ps_ret (pe_fld (pv 0) rfl))), _, rfl, B.a, C, B.dx, _, _, rfl, hO.at_, T.cl, T.n_calls, lk_calls, k⟩
end
end K07
/-! The program's outside and the law's, step by step the same. -/
namespace OW
open PySem PySem.Spec PyProof.Rows L2 LB
structure Twin (kn : Kn) (n : Nat) (O : Od) (W : Wd) : Prop where
  things : O.things = W.things
  fences : O.fences = W.fences
  mom : O.mom = W.mom
  grt : O.grt + 1 = W.nxt
  spent : ∀ t, t ∈ O.spent ↔ ∃ i, (t, i) ∈ W.toks ∧ tfind W.things i = none
  ndS : O.spent.Nodup
  tok1 : ∀ e ∈ W.toks, e.2 < W.nxt ∧ ∀ th ∈ W.things, th.id = e.2 → th.tok = some e.1
  tok2 : ∀ th ∈ W.things, ∀ t, th.tok = some t → (t, th.id) ∈ W.toks
  ids : (W.things.map (·.id)).Pairwise (· < ·)
  low : ∀ t ∈ W.things, 0 < t.id ∧ t.id < W.nxt
  good : ∀ t ∈ W.things, GoodTh kn t
  kF : (W.fences.map (·.1)).Nodup
  kK : (W.toks.map (·.1)).Nodup
  nxt : 0 < W.nxt
  lT : W.things.length ≤ n
  lK : W.toks.length ≤ n
  lF : W.fences.length ≤ n
  lS : O.spent.length ≤ n
section
variable {kn : Kn} {n : Nat} {O : Od} {W : Wd}
theorem Twin.wok (h : Twin kn n O W) (hn : n < 60) : WOk kn W := ⟨h.ids, h.low, h.good, by have := h.lT; omega, by have := h.lK; omega, by have := h.lF; omega, h.kF, h.kK, h.nxt⟩
theorem Twin.ook (h : Twin kn n O W) (hn : n < 60) (hk : KnOk kn) : OOk kn O := by
  refine ⟨⟨?_, ?_, ?_, ?_, ?_, ?_, ?_, ?_, ?_⟩, hk, by have := h.lS; omega⟩
  · show (O.things.map (·.id)).Pairwise _; rw [h.things]; exact h.ids
  · intro t ht
    have ht : t ∈ O.things := ht
    rw [h.things] at ht
    have := h.low t ht
    exact ⟨this.1, by show _ < O.grt + 1; rw [h.grt]; exact this.2⟩
  · intro t ht
    have ht : t ∈ O.things := ht
    rw [h.things] at ht
    exact h.good t ht
  · show O.things.length < 60; rw [h.things]; have := h.lT; omega
  · show 0 < 60; decide
  · show O.fences.length < 60; rw [h.fences]; have := h.lF; omega
  · show (O.fences.map (·.1)).Nodup; rw [h.fences]; exact h.kF
  · exact List.nodup_nil
  · show 0 < O.grt + 1; rw [h.grt]; exact h.nxt
theorem Twin.up (h : Twin kn n O W) : Twin kn (n + 1) O W := ⟨h.things, h.fences, h.mom, h.grt, h.spent, h.ndS, h.tok1, h.tok2, h.ids, h.low, h.good, h.kF, h.kK, h.nxt, Nat.le_succ_of_le h.lT, Nat.le_succ_of_le h.lK, Nat.le_succ_of_le h.lF, Nat.le_succ_of_le h.lS⟩
theorem Twin.calls (h : Twin kn n O W) (c : Int) : Twin kn n { O with calls := c } W := ⟨h.things, h.fences, h.mom, h.grt, h.spent, h.ndS, h.tok1, h.tok2, h.ids, h.low, h.good, h.kF, h.kK, h.nxt, h.lT, h.lK, h.lF, h.lS⟩
theorem tfind_app {ths : List Th} {t : Th} {i : Int} : tfind (ths ++ [t]) i = (tfind ths i).or (if t.id = i then some t else none) := by
  unfold tfind
  rw [List.find?_append]
  congr 1
  by_cases h : t.id = i
  · rw [List.find?_cons_of_pos (by simpa using h), if_pos h]
  · rw [List.find?_cons_of_neg (by simpa using h), if_neg h]; rfl
theorem tfind_none {ths : List Th} {i : Int} : tfind ths i = none ↔ ∀ t ∈ ths, ¬ t.id = i := by
  unfold tfind
  rw [List.find?_eq_none]
  constructor
  · intro h t ht q
    have := h t ht
    simp [q] at this
  · intro h t ht
    have := h t ht
    simpa using this
/-- a new thing -/
theorem Twin.make (h : Twin kn n O W) {tok : Option Tk} {kind : Str} {vals : Vals_} (ht : ∀ t, tok = some t → t ∉ W.toks.map (·.1)) (hg : GoodTh kn (newTh W tok kind vals)) :
    Twin kn (n + 1) { O with things := O.things ++ [newTh (pw O) tok kind vals], mom := O.mom + 1, grt := O.grt + 1 } ⟨W.things ++ [newTh W tok kind vals], madeT W tok, W.fences, W.mom + 1, W.nxt + 1⟩ := by
  have e1 : newTh (pw O) tok kind vals = newTh W tok kind vals := by
    unfold newTh
    show Th.mk (O.grt + 1) _ _ _ (1000 + 7 * (O.grt + 1)) _ = _
    rw [h.grt]
  have hid : (newTh W tok kind vals).id = W.nxt := rfl
  have htk : (newTh W tok kind vals).tok = tok := rfl
  generalize newTh W tok kind vals = nt at *
  have mt : ∀ e, e ∈ madeT W tok ↔ e ∈ W.toks ∨ ∃ t, tok = some t ∧ e = (t, W.nxt) := by
    intro e
    cases tok with
    | none => exact ⟨.inl, fun q => q.elim id fun ⟨_, q, _⟩ => by cases q⟩
    | some t =>
      show e ∈ W.toks ++ [(t, W.nxt)] ↔ _
      rw [List.mem_append, List.mem_singleton]
      exact ⟨fun q => q.imp id fun q => ⟨t, rfl, q⟩, fun q => q.imp id fun ⟨_, q, r⟩ => by cases q; exact r⟩
  refine ⟨?_, h.fences, ?_, ?_, ?_, h.ndS, ?_, ?_, ?_, ?_, ?_, h.kF, ?_, ?_, ?_, ?_, Nat.le_succ_of_le h.lF, Nat.le_succ_of_le h.lS⟩
  · show O.things ++ _ = W.things ++ _
    rw [h.things, e1]
  · show O.mom + 1 = W.mom + 1
    rw [h.mom]
  · show O.grt + 1 + 1 = W.nxt + 1
    rw [h.grt]
  · intro t
    show t ∈ O.spent ↔ ∃ i, (t, i) ∈ madeT W tok ∧ tfind (W.things ++ [nt]) i = none
    rw [h.spent]
    constructor
    · rintro ⟨i, hi, hf⟩
      refine ⟨i, (mt _).mpr (.inl hi), ?_⟩
      have := (h.tok1 _ hi).1
      rw [tfind_app, hf, if_neg (by rw [hid]; exact Int.ne_of_gt this)]
      rfl
    · rintro ⟨i, hi, hf⟩
      rcases (mt _).mp hi with hi | ⟨t', _, q⟩
      · refine ⟨i, hi, ?_⟩
        rw [tfind_app] at hf
        cases q : tfind W.things i with
        | none => rfl
        | some z => rw [q] at hf; cases hf
      · cases q
        rw [tfind_app, if_pos hid] at hf
        cases q : tfind W.things W.nxt <;> rw [q] at hf <;> cases hf
  · intro e he
    rcases (mt _).mp he with he | ⟨t, rt, rfl⟩
    · obtain ⟨h1, h2⟩ := h.tok1 e he
      refine ⟨by show _ < W.nxt + 1; omega, fun th hm q => ?_⟩
      rcases List.mem_append.mp hm with hm | hm
      · exact h2 th hm q
      · rw [List.mem_singleton.mp hm, hid] at q
        omega
    · refine ⟨by show W.nxt < W.nxt + 1; omega, fun th hm q => ?_⟩
      rcases List.mem_append.mp hm with hm | hm
      · have := (h.low th hm).2
        have q : th.id = W.nxt := q
        omega
      · rw [List.mem_singleton.mp hm, htk]; exact rt
  · intro th hm t q
    rcases List.mem_append.mp hm with hm | hm
    · exact (mt _).mpr (.inl (h.tok2 th hm t q))
    · have e := List.mem_singleton.mp hm
      rw [e, htk] at q
      rw [e, hid]
      exact (mt _).mpr (.inr ⟨t, q, rfl⟩)
  · show (List.map (·.id) (W.things ++ [nt])).Pairwise _
    rw [List.map_append, List.pairwise_append]
    refine ⟨h.ids, List.pairwise_singleton _ _, fun a ha b hb => ?_⟩
    obtain ⟨t, ht, rfl⟩ := List.mem_map.mp ha
    rw [List.mem_singleton.mp hb]
    show t.id < nt.id
    rw [hid]
    exact (h.low t ht).2
  · intro t hm
    show 0 < t.id ∧ t.id < W.nxt + 1
    rcases List.mem_append.mp hm with hm | hm
    · have := h.low t hm
      omega
    · rw [List.mem_singleton.mp hm, hid]
      have := h.nxt
      omega
  · intro t hm
    rcases List.mem_append.mp hm with hm | hm
    · exact h.good t hm
    · rw [List.mem_singleton.mp hm]; exact hg
  · show ((madeT W tok).map (·.1)).Nodup
    cases tok with
    | none => exact h.kK
    | some t =>
      show ((W.toks ++ [(t, W.nxt)]).map (·.1)).Nodup
      rw [List.map_append, List.nodup_append]
      exact ⟨h.kK, by simp, fun a ha b hb => by rw [List.mem_singleton.mp hb]; exact fun q => ht t rfl (by have q : a = t := q; rw [← q]; exact ha)⟩
  · show 0 < W.nxt + 1
    have := h.nxt
    omega
  · show (W.things ++ [nt]).length ≤ _
    rw [List.length_append]
    exact Nat.succ_le_succ h.lT
  · show (madeT W tok).length ≤ _
    cases tok with
    | none => exact Nat.le_succ_of_le h.lK
    | some t =>
      show (W.toks ++ [(t, W.nxt)]).length ≤ _
      rw [List.length_append]
      exact Nat.succ_le_succ h.lK
theorem setT_ids {one : Int} {f : Str} {v : Option Int} {ths : List Th} : (setT one f v ths).map (·.id) = ths.map (·.id) := by
  unfold setT
  rw [List.map_map]
  refine List.map_congr_left fun t _ => ?_
  show (if t.id = one then updTh f v t else t).id = t.id
  split <;> rfl
theorem setT_mem {one : Int} {f : Str} {v : Option Int} {ths : List Th} {t : Th} (h : t ∈ setT one f v ths) : ∃ u ∈ ths, u.id = t.id ∧ u.tok = t.tok ∧ u.kind = t.kind ∧ u.vals.map (·.1) = t.vals.map (·.1) := by
  obtain ⟨u, hu, rfl⟩ := List.mem_map.mp h
  refine ⟨u, hu, ?_⟩
  split
  · refine ⟨rfl, rfl, rfl, ?_⟩
    show u.vals.map (·.1) = (setV f v u.vals).map (·.1)
    unfold setV
    rw [List.map_map]
    rfl
  · exact ⟨rfl, rfl, rfl, rfl⟩
theorem tfind_ids {a b : List Th} (h : a.map (·.id) = b.map (·.id)) {i : Int} : tfind a i = none ↔ tfind b i = none := by
  have : ∀ {a b : List Th}, a.map (·.id) = b.map (·.id) → (∀ t ∈ a, ¬ t.id = i) → ∀ t ∈ b, ¬ t.id = i := fun {a b} h q t ht e => by
    have hm : t.id ∈ a.map (·.id) := by rw [h]; exact List.mem_map_of_mem ht
    obtain ⟨u, hu, e2⟩ := List.mem_map.mp hm
    exact q u hu (e2.trans e)
  rw [tfind_none, tfind_none]
  exact ⟨this h, this h.symm⟩
/-- a value set -/
theorem Twin.change (h : Twin kn n O W) {one : Int} {f : Str} {v : Option Int} : Twin kn n { O with things := setT one f v O.things, mom := O.mom + 1 } { W with things := setT one f v W.things, mom := W.mom + 1 } := by
  refine ⟨?_, h.fences, ?_, h.grt, ?_, h.ndS, ?_, ?_, ?_, ?_, ?_, h.kF, h.kK, h.nxt, ?_, h.lK, h.lF, h.lS⟩
  · show setT _ _ _ O.things = setT _ _ _ W.things
    rw [h.things]
  · show O.mom + 1 = W.mom + 1
    rw [h.mom]
  · intro t
    show t ∈ O.spent ↔ ∃ i, (t, i) ∈ W.toks ∧ tfind (setT one f v W.things) i = none
    rw [h.spent]
    exact ⟨fun ⟨i, a, b⟩ => ⟨i, a, (tfind_ids setT_ids).mpr b⟩, fun ⟨i, a, b⟩ => ⟨i, a, (tfind_ids setT_ids).mp b⟩⟩
  · intro e he
    obtain ⟨h1, h2⟩ := h.tok1 e he
    refine ⟨h1, fun th hm q => ?_⟩
    obtain ⟨u, hu, e1, e2, _⟩ := setT_mem hm
    rw [← e2]
    exact h2 u hu (e1.trans q)
  · intro th hm t q
    obtain ⟨u, hu, e1, e2, _⟩ := setT_mem hm
    rw [← e1]
    exact h.tok2 u hu t (e2.trans q)
  · show ((setT one f v W.things).map (·.id)).Pairwise _
    rw [setT_ids]
    exact h.ids
  · intro t hm
    obtain ⟨u, hu, e1, _⟩ := setT_mem hm
    rw [← e1]
    exact h.low u hu
  · intro t hm
    obtain ⟨u, hu, _, _, e3, e4⟩ := setT_mem hm
    obtain ⟨fs, a, b⟩ := h.good u hu
    exact ⟨fs, by rw [← e3]; exact a, by rw [← e4]; exact b⟩
  · show (setT one f v W.things).length ≤ n
    unfold setT
    rw [List.length_map]
    exact h.lT
theorem dropT_mem {one : Int} {ths : List Th} {t : Th} : t ∈ dropT one ths ↔ t ∈ ths ∧ ¬ t.id = one := by
  unfold dropT
  rw [List.mem_filter]
  simp
/-- a thing taken -/
theorem Twin.take (h : Twin kn n O W) {one : Int} {th : Th} (hf : tfind W.things one = some th) : Twin kn (n + 1) { O with things := dropT one O.things, spent := takeS O one, mom := O.mom + 1 } { W with things := dropT one W.things, mom := W.mom + 1 } := by
  obtain ⟨hm, hid⟩ := tfind_some hf
  have sub : (dropT one W.things).Sublist W.things := List.filter_sublist
  have ts : takeS O one = match th.tok with | none => O.spent | some t => addS O.spent t := by
    unfold takeS
    rw [h.things, hf]
    rfl
  have mem : ∀ t, t ∈ takeS O one ↔ t ∈ O.spent ∨ th.tok = some t := fun t => by
    rw [ts]
    cases th.tok with
    | none => exact ⟨.inl, fun q => q.elim id fun q => by cases q⟩
    | some t0 =>
      show t ∈ addS O.spent t0 ↔ _
      unfold addS
      split
      · rename_i q
        exact ⟨.inl, fun r => r.elim id fun r => by cases r; exact q⟩
      · rw [List.mem_append, List.mem_singleton]
        exact ⟨fun r => r.imp id fun r => by rw [r], fun r => r.imp id fun r => by cases r; rfl⟩
  refine ⟨?_, h.fences, ?_, h.grt, ?_, ?_, ?_, ?_, ?_, ?_, ?_, h.kF, h.kK, h.nxt, ?_, Nat.le_succ_of_le h.lK, Nat.le_succ_of_le h.lF, ?_⟩
  · show dropT _ O.things = dropT _ W.things
    rw [h.things]
  · show O.mom + 1 = W.mom + 1
    rw [h.mom]
  · intro t
    show t ∈ takeS O one ↔ ∃ i, (t, i) ∈ W.toks ∧ tfind (dropT one W.things) i = none
    rw [mem, h.spent]
    constructor
    · rintro (⟨i, a, b⟩ | q)
      · exact ⟨i, a, tfind_none.mpr fun u hu => tfind_none.mp b u (sub.subset hu)⟩
      · exact ⟨th.id, h.tok2 th hm t q, tfind_none.mpr fun u hu e => (dropT_mem.mp hu).2 (e.trans hid)⟩
    · rintro ⟨i, a, b⟩
      by_cases e : i = one
      · subst e
        exact .inr ((h.tok1 _ a).2 th hm hid)
      · refine .inl ⟨i, a, tfind_none.mpr fun u hu q => tfind_none.mp b u (dropT_mem.mpr ⟨hu, fun r => e (q.symm.trans r)⟩) q⟩
  · show (takeS O one).Nodup
    rw [ts]
    cases th.tok with
    | none => exact h.ndS
    | some t0 =>
      show (addS O.spent t0).Nodup
      unfold addS
      split
      · exact h.ndS
      · rename_i q
        rw [List.nodup_append]
        exact ⟨h.ndS, by simp, fun a ha b hb => by rw [List.mem_singleton.mp hb]; exact fun r => q (by rw [← r]; exact ha)⟩
  · intro e he
    obtain ⟨h1, h2⟩ := h.tok1 e he
    exact ⟨h1, fun u hu q => h2 u (sub.subset hu) q⟩
  · intro u hu t q
    exact h.tok2 u (sub.subset hu) t q
  · exact h.ids.sublist (sub.map _)
  · exact fun t ht => h.low t (sub.subset ht)
  · exact fun t ht => h.good t (sub.subset ht)
  · exact Nat.le_succ_of_le (Nat.le_trans sub.length_le h.lT)
  · show (takeS O one).length ≤ n + 1
    rw [ts]
    have := h.lS
    cases th.tok with
    | none => exact Nat.le_succ_of_le h.lS
    | some t0 =>
      show (addS O.spent t0).length ≤ n + 1
      unfold addS
      split
      · exact Nat.le_succ_of_le h.lS
      · rw [List.length_append]; exact Nat.succ_le_succ h.lS
theorem fput_keys {fs : List (Int × Int)} {o r : Int} : (fput fs o r).map (·.1) = if fs.any (fun e => decide (e.1 = o)) then fs.map (·.1) else fs.map (·.1) ++ [o] := by
  unfold fput
  split
  · rw [List.map_map]
    refine List.map_congr_left fun e _ => ?_
    show (if e.1 = o then (e.1, r) else e).1 = e.1
    split <;> rfl
  · rw [List.map_append]; rfl
/-- a fence raised -/
theorem Twin.fence (h : Twin kn n O W) {o r : Int} : Twin kn (n + 1) { O with fences := fput O.fences o r, mom := O.mom + 1 } { W with fences := fput W.fences o r, mom := W.mom + 1 } := by
  refine ⟨h.things, ?_, ?_, h.grt, h.spent, h.ndS, h.tok1, h.tok2, h.ids, h.low, h.good, ?_, h.kK, h.nxt, Nat.le_succ_of_le h.lT, Nat.le_succ_of_le h.lK, ?_, Nat.le_succ_of_le h.lS⟩
  · show fput O.fences _ _ = fput W.fences _ _
    rw [h.fences]
  · show O.mom + 1 = W.mom + 1
    rw [h.mom]
  · show ((fput W.fences o r).map (·.1)).Nodup
    rw [fput_keys]
    split
    · exact h.kF
    · rename_i q
      rw [List.nodup_append]
      refine ⟨h.kF, by simp, fun a ha b hb => ?_⟩
      rw [List.mem_singleton.mp hb]
      intro e
      obtain ⟨x, hx, rfl⟩ := List.mem_map.mp ha
      exact q (List.any_eq_true.mpr ⟨x, hx, by simpa using e⟩)
  · show (fput W.fences o r).length ≤ n + 1
    have e : (fput W.fences o r).length = ((fput W.fences o r).map (·.1)).length := by rw [List.length_map]
    rw [e, fput_keys]
    have := h.lF
    split
    · rw [List.length_map]; omega
    · rw [List.length_append, List.length_map]; exact Nat.succ_le_succ h.lF
theorem Twin.used (h : Twin kn n O W) (t : Tk) : usedB O t = knownB W.toks (some t) := by
  show (decide (t ∈ O.spent) || O.things.any fun th => decide (th.tok = some t)) = decide (t ∈ W.toks.map (·.1))
  have : (t ∈ O.spent ∨ (O.things.any fun th => decide (th.tok = some t)) = true) ↔ t ∈ W.toks.map (·.1) := by
    rw [h.spent, h.things, List.any_eq_true]
    constructor
    · rintro (⟨i, a, _⟩ | ⟨th, hm, q⟩)
      · exact List.mem_map_of_mem (f := (·.1)) a
      · exact List.mem_map_of_mem (f := (·.1)) (h.tok2 th hm t (of_decide_eq_true q))
    · intro m
      obtain ⟨⟨t', i⟩, he, rfl⟩ := List.mem_map.mp m
      cases q : tfind W.things i with
      | none => exact .inl ⟨i, he, q⟩
      | some th =>
        obtain ⟨hm, hid⟩ := tfind_some q
        exact .inr ⟨th, hm, decide_eq_true ((h.tok1 _ he).2 th hm hid)⟩
  by_cases q : t ∈ W.toks.map (·.1)
  · rw [decide_eq_true q]
    rcases this.mpr q with r | r
    · rw [decide_eq_true r]; rfl
    · rw [r, Bool.or_true]
  · rw [decide_eq_false q]
    have n1 : ¬ t ∈ O.spent := fun r => q (this.mp (.inl r))
    have n2 : (O.things.any fun th => decide (th.tok = some t)) = false := Bool.eq_false_iff.mpr fun r => q (this.mp (.inr r))
    rw [decide_eq_false n1, n2]
    rfl
/-- the words of a making: never known -/
theorem firstW_ne {ths : List Th} {fs : List FT} {kind : Str} {vals : Vals_} {own : Int} : firstW ths fs kind vals own ≠ ("known" : Str) := by
  unfold firstW pickW
  split
  · decide +kernel
  split
  · decide +kernel
  · decide +kernel
def baseW (kn : Kn) (ths : List Th) (kind : Str) (vals : Vals_) : Str :=
  if vals.map (·.1) = (fsOf kn kind).map (·.1) then (if goodB (fsOf kn kind) vals then firstW ths (fsOf kn kind) kind vals 0 else "form") else "form"
theorem makeW_eq {mk : Mk} {tok : Option Tk} {kind : Str} {vals : Vals_} {V : Wd} : makeW kn V mk tok kind vals = if oldB V.fences mk = true then ("old" : Str) else if knownB V.toks tok = true then ("known" : Str) else baseW kn V.things kind vals := rfl
theorem baseW_ne {ths : List Th} {kind : Str} {vals : Vals_} : baseW kn ths kind vals ≠ ("known" : Str) := by
  unfold baseW
  split
  · split
    · exact firstW_ne
    · decide +kernel
  · decide +kernel
theorem base_good {ths : List Th} {kind : Str} {vals : Vals_} {fs : List FT} (hf : kfind kn kind = some fs) (h : baseW kn ths kind vals = ("" : Str)) : vals.map (·.1) = fs.map (·.1) := by
  unfold baseW at h
  rw [fsOf_some hf] at h
  split at h
  · assumption
  · exact absurd h (by decide +kernel)
theorem pw_make {kind : Str} {vals : Vals_} (h : Twin kn n O W) : makeW kn (pw O) none none kind vals = baseW kn W.things kind vals := by
  rw [makeW_eq]
  show (if false = true then _ else if false = true then _ else baseW kn O.things kind vals) = _
  rw [if_neg (by simp), if_neg (by simp), h.things]
theorem Twin.doMake (h : Twin kn n O W) {mk : Mk} {tok : Option Tk} {kind : Str} {vals : Vals_} {fs : List FT} (hf : kfind kn kind = some fs) (ho : oldB W.fences mk = false) (hk : knownB W.toks tok = false) :
    Twin kn (n + 1) (oMake kn O tok kind vals) (doMake kn W mk tok kind vals) ∧ makeW kn W mk tok kind vals = makeW kn (pw O) none none kind vals ∧ (oMake kn O tok kind vals).calls = O.calls := by
  have e : makeW kn W mk tok kind vals = baseW kn W.things kind vals := by
    rw [makeW_eq, ho, hk]
    rfl
  refine ⟨?_, by rw [pw_make h, e], ?_⟩
  · unfold oMake OW.doMake
    rw [pw_make h, e]
    split
    · rename_i q
      refine h.make (fun t ht hm => ?_) ⟨fs, hf, base_good hf q⟩
      subst ht
      have hk : decide (t ∈ W.toks.map (·.1)) = false := hk
      rw [decide_eq_true hm] at hk
      cases hk
    · exact h.up
  · unfold oMake
    split <;> rfl
theorem otherW_eq {V : Wd} {mk : Mk} {one : Int} {ver : Option Int} (ho : oldB V.fences mk = false) : otherW V mk one ver = otherW V none one ver := by
  unfold otherW
  rw [ho]
  rfl
theorem pw_other (h : Twin kn n O W) {one : Int} {ver : Option Int} : otherW (pw O) none one ver = otherW W none one ver := by
  unfold otherW
  show (if false = true then _ else match tfind O.things one with | none => _ | some t => _) = _
  rw [h.things]
  try rfl
theorem Twin.doChange (h : Twin kn n O W) {mk : Mk} {one : Int} {ver : Option Int} {f : Str} {v : Option Int} (ho : oldB W.fences mk = false) :
    Twin kn (n + 1) (oChange kn O one ver f v) (doChange kn W mk one ver f v) ∧ changeW kn W mk one ver f v = changeW kn (pw O) none one ver f v ∧ (oChange kn O one ver f v).calls = O.calls := by
  have e : changeW kn W mk one ver f v = changeW kn (pw O) none one ver f v := by
    unfold changeW
    rw [otherW_eq ho, pw_other h]
    show _ = (if _ then match tfind O.things one with | none => _ | some t => if _ then firstW O.things _ _ _ _ else _ else _)
    rw [h.things]
    try rfl
  refine ⟨?_, e, ?_⟩
  · unfold oChange OW.doChange
    rw [e]
    split
    · exact h.change.up
    · exact h.up
  · unfold oChange
    split <;> rfl
theorem Twin.doTake (h : Twin kn n O W) {mk : Mk} {one : Int} {ver : Option Int} (ho : oldB W.fences mk = false) :
    Twin kn (n + 1) (oTake kn O one ver) (doTake kn W mk one ver) ∧ takeW kn W mk one ver = takeW kn (pw O) none one ver ∧ (oTake kn O one ver).calls = O.calls := by
  have e : takeW kn W mk one ver = takeW kn (pw O) none one ver := by
    unfold takeW
    rw [otherW_eq ho, pw_other h]
    show _ = (if _ then (if neededB kn O.things one = true then _ else _) else _)
    rw [h.things]
  refine ⟨?_, e, ?_⟩
  · unfold oTake OW.doTake
    rw [← e]
    split
    · rename_i q
      have : ∃ th, tfind W.things one = some th := by
        cases r : tfind W.things one with
        | some th => exact ⟨th, rfl⟩
        | none =>
          exfalso
          unfold takeW at q
          have o : otherW W mk one ver = ("gone" : Str) := by
            unfold otherW
            rw [ho, r]
            rfl
          rw [o, if_neg (by decide +kernel)] at q
          exact absurd q (by decide +kernel)
      obtain ⟨th, hf⟩ := this
      exact h.take hf
    · exact h.up
  · unfold oTake
    split <;> rfl
/-- what a call wants of the kinds -/
def ClFit (kn : Kn) : Cl → Prop
  | .make _ _ kind _ => ∃ fs, kfind kn kind = some fs
  | _ => True
theorem mom_make {mk : Mk} {tok : Option Tk} {kind : Str} {vals : Vals_} : (doMake kn W mk tok kind vals).mom = W.mom ∨ (doMake kn W mk tok kind vals).mom = W.mom + 1 := by
  unfold doMake
  split
  · exact .inr rfl
  · exact .inl rfl
theorem Twin.ans (h : Twin kn n O W) {c : Cl} (hc : ClFit kn c) : Twin kn (n + 1) (oAns kn O c) (doW kn W c) ∧ oWhy kn O c = whyW kn W c ∧ (oAns kn O c).calls = O.calls ∧ ((doW kn W c).mom = W.mom ∨ (doW kn W c).mom = W.mom + 1) := by
  cases c with
  | fence m =>
    show Twin kn (n + 1) (oFence O m) (doFence W m) ∧ ("" : Str) = "" ∧ (oFence O m).calls = O.calls ∧ ((doFence W m).mom = W.mom ∨ (doFence W m).mom = W.mom + 1)
    unfold oFence doFence
    rw [h.fences]
    by_cases q : fget W.fences m.1 < m.2
    · rw [if_pos q, if_pos q]
      have := h.fence (o := m.1) (r := m.2)
      rw [h.fences] at this
      exact ⟨this, rfl, rfl, .inr rfl⟩
    · rw [if_neg q, if_neg q]
      exact ⟨h.up, rfl, rfl, .inl rfl⟩
  | make m t kind vals =>
    obtain ⟨fs, hf⟩ := hc
    show Twin kn (n + 1) (if m.2 < fget O.fences m.1 then O else if usedB O t = true then O else oMake kn O (some t) kind vals) (OW.doMake kn W (some m) (some t) kind vals) ∧ (if m.2 < fget O.fences m.1 then ("old" : Str) else if usedB O t = true then "" else makeW kn (pw O) none none kind vals) = ansW (makeW kn W (some m) (some t) kind vals) ∧
      (if m.2 < fget O.fences m.1 then O else if usedB O t = true then O else oMake kn O (some t) kind vals).calls = O.calls ∧ _
    rw [h.fences, h.used]
    refine ⟨?_, ?_, ?_, mom_make⟩
    · by_cases q : m.2 < fget W.fences m.1
      · rw [if_pos q]
        unfold OW.doMake
        rw [makeW_eq, if_pos (show oldB W.fences (some m) = true from decide_eq_true q), if_neg (by decide +kernel)]
        exact h.up
      rw [if_neg q]
      have ho : oldB W.fences (some m) = false := decide_eq_false q
      by_cases r : knownB W.toks (some t) = true
      · rw [if_pos r]
        unfold OW.doMake
        rw [makeW_eq, if_neg (show ¬ oldB W.fences (some m) = true by rw [ho]; simp), if_pos r, if_neg (by decide +kernel)]
        exact h.up
      · rw [if_neg r]
        exact (h.doMake hf ho (Bool.eq_false_iff.mpr r)).1
    · by_cases q : m.2 < fget W.fences m.1
      · rw [if_pos q, makeW_eq, if_pos (show oldB W.fences (some m) = true from decide_eq_true q)]
        unfold ansW
        rw [if_neg (by decide +kernel)]
      rw [if_neg q]
      have ho : oldB W.fences (some m) = false := decide_eq_false q
      by_cases r : knownB W.toks (some t) = true
      · rw [if_pos r, makeW_eq, if_neg (by rw [ho]; simp), if_pos r]
        unfold ansW
        rw [if_pos rfl]
      · rw [if_neg r, pw_make h, makeW_eq, if_neg (by rw [ho]; simp), if_neg r]
        unfold ansW
        rw [if_neg baseW_ne]
    · by_cases q : m.2 < fget W.fences m.1
      · rw [if_pos q]
      rw [if_neg q]
      by_cases r : knownB W.toks (some t) = true
      · rw [if_pos r]
      · rw [if_neg r]
        unfold oMake
        split <;> rfl
  | change m one ver f v =>
    show Twin kn (n + 1) (if m.2 < fget O.fences m.1 then O else oChange kn O one (some ver) f v) (OW.doChange kn W (some m) one (some ver) f v) ∧ (if m.2 < fget O.fences m.1 then ("old" : Str) else changeW kn (pw O) none one (some ver) f v) = changeW kn W (some m) one (some ver) f v ∧
      (if m.2 < fget O.fences m.1 then O else oChange kn O one (some ver) f v).calls = O.calls ∧ _
    rw [h.fences]
    have mm : (OW.doChange kn W (some m) one (some ver) f v).mom = W.mom ∨ (OW.doChange kn W (some m) one (some ver) f v).mom = W.mom + 1 := by
      unfold OW.doChange
      split
      · exact .inr rfl
      · exact .inl rfl
    by_cases q : m.2 < fget W.fences m.1
    · have ho : oldB W.fences (some m) = true := decide_eq_true q
      have e : changeW kn W (some m) one (some ver) f v = ("old" : Str) := by
        unfold changeW otherW
        rw [if_pos ho, if_neg (by decide +kernel)]
      rw [if_pos q, if_pos q, e]
      refine ⟨?_, rfl, rfl, mm⟩
      unfold OW.doChange
      rw [e, if_neg (by decide +kernel)]
      exact h.up
    · rw [if_neg q, if_neg q]
      obtain ⟨a, b, d⟩ := h.doChange (mk := some m) (one := one) (ver := some ver) (f := f) (v := v) (decide_eq_false q)
      exact ⟨a, b.symm, d, mm⟩
  | take m one ver =>
    show Twin kn (n + 1) (if m.2 < fget O.fences m.1 then O else oTake kn O one (some ver)) (OW.doTake kn W (some m) one (some ver)) ∧ (if m.2 < fget O.fences m.1 then ("old" : Str) else takeW kn (pw O) none one (some ver)) = takeW kn W (some m) one (some ver) ∧
      (if m.2 < fget O.fences m.1 then O else oTake kn O one (some ver)).calls = O.calls ∧ _
    rw [h.fences]
    have mm : (OW.doTake kn W (some m) one (some ver)).mom = W.mom ∨ (OW.doTake kn W (some m) one (some ver)).mom = W.mom + 1 := by
      unfold OW.doTake
      split
      · exact .inr rfl
      · exact .inl rfl
    by_cases q : m.2 < fget W.fences m.1
    · have ho : oldB W.fences (some m) = true := decide_eq_true q
      have e : takeW kn W (some m) one (some ver) = ("old" : Str) := by
        unfold takeW otherW
        rw [if_pos ho, if_neg (by decide +kernel)]
      rw [if_pos q, if_pos q, e]
      refine ⟨?_, rfl, rfl, mm⟩
      unfold OW.doTake
      rw [e, if_neg (by decide +kernel)]
      exact h.up
    · rw [if_neg q, if_neg q]
      obtain ⟨a, b, d⟩ := h.doTake (mk := some m) (one := one) (ver := some ver) (decide_eq_false q)
      exact ⟨a, b.symm, d, mm⟩
/-- a call, with the count of the calls -/
theorem Twin.do (h : Twin kn n O W) {c : Cl} (hc : ClFit kn c) : Twin kn (n + 1) (oDo kn O c) (doW kn W c) ∧ oWhy kn O c = whyW kn W c ∧ (oDo kn O c).calls = O.calls + ((doW kn W c).mom - W.mom) := by
  obtain ⟨a, b, d, e⟩ := h.ans hc
  refine ⟨?_, b, ?_⟩
  · unfold oDo
    split
    · exact a.calls _
    · exact a
  · unfold oDo
    have m1 := a.mom
    have m2 := h.mom
    split
    · rename_i q
      show (oAns kn O c).calls + 1 = _
      rw [d]
      rcases e with e | e <;> omega
    · rename_i q
      rw [d]
      rcases e with e | e <;> omega
/-- the looks -/
theorem Twin.spentP (h : Twin kn n O W) : O.spent.Perm (spentW W) := by
  refine (List.perm_ext_iff_of_nodup h.ndS ?_).mpr fun t => ?_
  · unfold spentW
    exact h.kK.sublist (List.filter_sublist.map _)
  · rw [h.spent]
    unfold spentW
    rw [List.mem_map]
    constructor
    · rintro ⟨i, a, b⟩
      exact ⟨(t, i), List.mem_filter.mpr ⟨a, by rw [b]; rfl⟩, rfl⟩
    · rintro ⟨⟨t', i⟩, a, rfl⟩
      obtain ⟨a, b⟩ := List.mem_filter.mp a
      exact ⟨i, a, Option.isNone_iff_eq_none.mp b⟩
theorem leP_anti {a b : Int × Int} (h1 : leP a b) (h2 : leP b a) : a = b := by
  unfold leP at h1 h2
  have e1 : a.1 = b.1 := by omega
  have e2 : a.2 = b.2 := by omega
  exact Prod.ext e1 e2
theorem fget_mem {fs : List (Int × Int)} (nd : (fs.map (·.1)).Nodup) {e : Int × Int} (m : e ∈ fs) : fget fs e.1 = e.2 := by
  unfold fget
  induction fs with
  | nil => cases m
  | cons x fs ih =>
    rw [List.map_cons, List.nodup_cons] at nd
    rcases List.mem_cons.mp m with rfl | m
    · rw [List.find?_cons_of_pos (by simp)]; rfl
    · have ne : ¬ x.1 = e.1 := fun q => nd.1 (by rw [q]; exact List.mem_map_of_mem m)
      rw [List.find?_cons_of_neg (by simpa using ne)]
      exact ih nd.2 m
theorem fences_eq {fs gs : List (Int × Int)} {os : List Int} (nd : (fs.map (·.1)).Nodup) (p : gs.Perm fs) (s : gs.Pairwise leP) (po : os.Perm (fs.map (·.1))) (so : os.Pairwise (· ≤ ·)) : os.map (fun o => (o, fget fs o)) = gs := by
  have e1 : os = gs.map (·.1) := by
    refine List.Perm.eq_of_pairwise (le := (· ≤ ·)) (fun a b _ _ h1 h2 => Int.le_antisymm h1 h2) so ?_ (po.trans (p.map (·.1)).symm)
    rw [List.pairwise_map]
    exact s.imp fun {a b} q => by
      unfold leP at q
      omega
  rw [e1, List.map_map]
  have : ∀ e ∈ gs, ((fun o => (o, fget fs o)) ∘ (·.1)) e = e := fun e he => by
    show (e.1, fget fs e.1) = e
    rw [fget_mem nd (p.mem_iff.mp he)]
  rw [List.map_congr_left this]
  exact List.map_id' _
/-- both looks are the same -/
theorem Twin.look (h : Twin kn n O W) {fs : List (Int × Int)} {os : List Int} {sp sp2 : List Tk} (p : fs.Perm O.fences) (s : fs.Pairwise leP) (po : os.Perm (W.fences.map (·.1))) (so : os.Pairwise (· ≤ ·)) (q : sp.Perm O.spent) (sq : sp.Pairwise leP) (q2 : sp2.Perm (spentW W)) (sq2 : sp2.Pairwise leP) :
    lookD O.mom fs O.things sp = lookD W.mom (os.map fun o => (o, fget W.fences o)) W.things sp2 := by
  have e1 := fences_eq h.kF (by rw [← h.fences]; exact p) s po so
  have e2 : sp = sp2 := List.Perm.eq_of_pairwise (le := leP) (fun a b _ _ h1 h2 => leP_anti h1 h2) sq sq2 (q.trans (h.spentP.trans q2.symm))
  rw [e1, e2, h.mom, h.things]
theorem twin0 (kn : Kn) : Twin kn 0 newO newW := by
  refine ⟨rfl, rfl, rfl, rfl, fun t => ?_, List.nodup_nil, ?_, ?_, List.Pairwise.nil, ?_, ?_, List.nodup_nil, List.nodup_nil, by decide, Nat.le_refl _, Nat.le_refl _, Nat.le_refl _, Nat.le_refl _⟩
  · exact ⟨fun q => (by cases q), fun ⟨_, q, _⟩ => by cases q⟩
  all_goals (intro x hx; cases hx)
end
end OW
/-! A dict comprehension whose keys are tuples that stand in the heap. -/
namespace L2
open PySem PySem.Spec PyProof.Rows
section
variable {X : Cx} {pins : List (Addr × Obj)} {σ : St} {H : Hp} {s : Shared}
theorem put_tup {E : Value → Shared → Prop} {D b : Addr} {kvs : List (List Key × V)} {k : List Key} {v : V} {r : Value} {Q : Unit → Shared → Prop} (room : X.A.units + 1 < cLine) (I : Inv X pins σ H s) (eD : H D = some (.dT kvs)) (eb : H b = some (.tup (k.map kV))) (few : kvs.length < sizeLine) (rv : RelV v r)
    (q : ∀ t, Inv X pins σ (upd H D (.dT (putK kvs k v))) t → Q () t) : wpAny (model X.prog X.w) X.A (dictSet D (.ref b) r) Q E s := by
  obtain ⟨le, low, xs, pr, di⟩ := dt_of I.hok eD
  have bound := length_putK kvs k v
  have nb : ∀ c ys, H c = some (.tup ys) → upd H D (.dT (putK kvs k v)) c = some (.tup ys) := fun c ys ec => (upd_ne (ne_of ec eD (fun z => nomatch z))).trans ec
  refine wpAny_dictSet_heap (knd := tupleKind (mixKind X.prog X.w)) (hsz := Nat.le_trans (Nat.le_of_eq (Paired.length pr).symm) le) (show X.A.units < cLine by omega) (key_of I.hok eb) di fun g dg but => q _ ?_
  obtain ⟨o, es, ep, at_, a1, a2, a3, _, a4⟩ := dg
  exact d_write I (by rw [eD]; trivial) but ⟨o, at_⟩ ⟨by omega, low, _, (pr.put k eb rv).keeps nb, o, es, ep, at_, a1, a2, a3, a4⟩
end
/-- {k: v for target in iter}: D the new dict -/
def tDcT (wi : TI) (g : TG) (tk tv : TE) (vs : List Nat) : TE := fun σ H Q => wi σ H fun J H1 => ∀ D, H1 D = none → ∃ W : Nat → Nat → Hp → Prop, (∃ m, W 0 m (upd H1 D (.dT []))) ∧ ∀ i m H, W i m H →
  (J.stop i H ∧ Q (.ref D) H) ∨ (J.go i H ∧ ∃ N : Hp → Prop, (∀ H', N H' → ∃ m', m' < m ∧ W (i + 1) m' H') ∧ ∀ x H', J.yld i H x H' → g x (wipe σ vs) H' fun σ2 H2 => wipe σ2 vs = wipe σ vs ∧
    tk σ2 H2 fun y H4 => tv σ2 H4 fun z H5 => ∃ kvs k b, y = .ref b ∧ H5 b = some (.tup (k.map kV)) ∧ H5 D = some (.dT kvs) ∧ kvs.length < sizeLine ∧ N (upd H5 D (.dT (putK kvs k z))))
section
variable {X : Cx}
theorem pe_dcT {kx vx tg iter : Expr} {scope : Scope} {own : List (Str × Nat)} {pos : Pos} {wi : TI} {g : TG} {tk tv : TE} (hc : X.calm = true) (hN : X.N.Nodup) (hi : PI X tg iter wi) (ok : BlkOk X.N X.env.scope scope own)
    (hg : ∀ s H C cl fp, PG (X.blk s H scope (compEnvC scope cl C X.env) fp) tg g) (hk : ∀ s H C cl fp, PE (X.blk s H scope (compEnvC scope cl C X.env) fp) kx tk) (he : ∀ s H C cl fp, PE (X.blk s H scope (compEnvC scope cl C X.env) fp) vx tv) (room : X.A.units + 1 < cLine)
    (hs : ∀ x, foldedSetIterable iter X.env x = pure x := by intro _; rfl) : PE X (.DictComp kx vx [⟨tg, iter, [], 0⟩] scope pos) (tDcT wi g tk tv (own.map (·.2))) := by
  refine ⟨fun pins s σ H Q I h => ?_⟩
  have cells : ∀ y ∈ scope.names, y.2 = .free → ∃ c, X.env.cells.lookup y.1 = some c := fun y m e => (ok.free y m e).elim (fun z => I.ok.has _ (.inl z)) fun z => I.ok.has _ (.inr z)
  rw [arm_eval_DictComp]
  refine wpAny_comprehension_free (use := none) rfl hs (closure_ok cells) ok.kind (fun y m e => (ok.uniq y m).trans (congrArg some e)) (thn (hi.run pins s σ H _ I h) fun xv s1 hx => thn hx fun itv s2 ⟨it, fp, tn, J, H2, eit, I2, T, at2, f2, q⟩ => ?_)
  subst eit
  refine wpAny_newObj_type (newEnv_comp ?_)
  obtain ⟨W, ⟨m0, w0⟩, turn⟩ := q s2.heap.objs.size (I2.hok.fresh (Nat.le_refl _))
  -- the dict, then the block's own names
  obtain ⟨s3, es3⟩ : ∃ t : Shared, t = { s2 with heap := s2.heap.push { cls := .type "dict", data := .dict #[] } } := ⟨_, rfl⟩
  obtain ⟨D, eD⟩ : ∃ D, D = s2.heap.objs.size := ⟨_, rfl⟩
  rw [← eD] at w0 turn ⊢
  have old3 : ∀ b o, s2.heap.get? b = some o → s3.heap.get? b = some o := fun b o e => by rw [es3]; exact Heap.get?_push_of_some _ e
  have big3 : s3.heap.objs.size = D + 1 := by rw [es3, eD]; exact Heap.size_push ..
  have I3 : Inv X pins σ (upd H2 D (.dT [])) s3 := by
    rw [es3]
    exact I2.laid (t' := s2.toks) (fun b o e => Heap.get?_push_of_some _ e) (Nat.le_of_eq eD.symm) (by rw [eD]; exact dt_empty s2.heap I2.big)
  have low : ∀ b ∈ fp, b < D := fun b m => by
    obtain ⟨o, e, _⟩ := T.obj _ _ at2 b m
    rw [eD]
    exact Heap.lt_size e
  have f3 : ∀ b ∈ fp, FpOk X pins (upd H2 D (.dT [])) b ∧ b < s3.heap.objs.size := fun b m => ⟨⟨(upd_ne (Nat.ne_of_lt (low b m))).trans (f2 b m).1, (f2 b m).2⟩, Nat.lt_trans (low b m) (by rw [big3]; exact Nat.lt_succ_self _)⟩
  have I4 := block_start I3 ok hN f3
  rw [← es3]
  generalize ece : compEnvC scope (cellsFrom (s3.heap.objs.size + 1) scope.names (cloFrom X.env.cells scope.names [])) s3.heap.objs.size X.env = ce at I4
  have loc : ce.locals = s3.heap.objs.size := by rw [← ece]; rfl
  have P := And.intro (hg s3 (upd H2 D (.dT [])) s3.heap.objs.size (cellsFrom (s3.heap.objs.size + 1) scope.names (cloFrom X.env.cells scope.names [])) fp) (And.intro (hk s3 (upd H2 D (.dT [])) s3.heap.objs.size (cellsFrom (s3.heap.objs.size + 1) scope.names (cloFrom X.env.cells scope.names [])) fp) (he s3 (upd H2 D (.dT [])) s3.heap.objs.size (cellsFrom (s3.heap.objs.size + 1) scope.names (cloFrom X.env.cells scope.names [])) fp))
  rw [ece] at P
  obtain ⟨H3, eH3⟩ : ∃ h3, h3 = upd H2 D (.dT []) := ⟨_, rfl⟩
  rw [← eH3] at I3 I4 f3 w0 P
  obtain ⟨s4, es4⟩ : ∃ t : Shared, t = { s3 with heap := pushCells (s3.heap.push { cls := .type "dict", data := .dict #[] }) scope.names } := ⟨_, rfl⟩
  have old4 : ∀ b o, s3.heap.get? b = some o → s4.heap.get? b = some o := fun b o e => by rw [es4]; exact pushCells_keeps _ _ _ _ (Heap.get?_push_of_some _ e)
  have at4 : tn 0 s4.heap := T.keep _ _ _ at2 fun b _ o e => old4 b o (old3 b o e)
  rw [← es4] at I4
  obtain ⟨pg, pk, pv⟩ := P
  -- the iterator's objects are nobody's
  have far : ∀ {σ' : St} {H' : Hp} {t : Shared}, Inv (X.blk s3 H3 scope ce fp) [] σ' H' t → (∀ b ∈ fp, H' b = none) → ∀ b ∈ fp, FpOk (X.blk s3 H3 scope ce fp) [] H' b := fun {σ' H' t} J no b m =>
    ⟨no b m, (J.ok.exf b m).1, J.ok.exfs b m, .inl m, (J.ok.exf b m).2, fun p z => by simp only [List.append_nil] at z; exact absurd (show p ∈ ([] : List (Addr × Obj)) from z) List.not_mem_nil⟩
  have loop : codeAny (model X.prog X.w) X.A (.compLoop (.DictComp kx vx [⟨tg, iter, [], 0⟩] scope pos) 0 (.ref it) (.ref D) ce) (compPost (model X.prog X.w) X.A X.xe none (EP X pins σ Q) (.ref D) s3.heap.objs.size) s4 := by
    refine compLoop_anyD (fun n t => ∃ i H', W i n H' ∧ tn i t.heap ∧ (∀ b ∈ fp, H' b = none) ∧ Inv (X.blk s3 H3 scope ce fp) [] (wipe σ (own.map (·.2))) H' t) (fun n s5 ⟨i, H5, w5, at5, no5, I5⟩ => ?_) m0 ⟨0, H3, w0, at4, fun b m => (f3 b m).1.1, I4⟩
    have away := far I5 no5
    rcases turn i n H5 w5 with ⟨stop, last⟩ | ⟨go, N, hN2, step⟩
    · -- no item is left
      refine thnF (T.done (X.blk s3 H3 scope ce fp) rfl rfl rfl hc i [] s5 _ H5 (fun _ _ => False) I5 away at5 stop) fun r s6 ⟨er, I6⟩ => ?_
      subst er
      have J6 : Inv X pins σ H5 s6 := I3.call' (ch := fp) I6.os I6.base I6.hok I6.bare fun b m => let ⟨⟨_, z1, _, z3, z4, z5⟩, _⟩ := f3 b m; ⟨z3, z1, z4, z5⟩
      obtain ⟨names, ns, _⟩ := I6.loc
      have ns : s6.heap.Ns s3.heap.objs.size names := by rw [← loc]; exact ns
      have nC : H5 s3.heap.objs.size = none := by rw [← loc]; exact I6.free
      refine ⟨names, ns, fun h'' but => ?_⟩
      obtain ⟨_, z1, z2, z3, z4, z5⟩ := I3.fpOk (Nat.le_refl _) nC
      exact ⟨.ref D, H5, J6.turned (t' := s6.toks) (fun b o ne e => (but.2 b ne).trans e) nC z1 z3 z4 z5, rfl, last⟩
    · -- one more
      refine thnF (T.item (X.blk s3 H3 scope ce fp) rfl rfl rfl hc i [] s5 _ H5 (fun _ _ => False) I5 away at5 go) fun r s6 ⟨u, er, h6⟩ => ?_
      subst er
      refine thnF h6 fun _ s7 ⟨x, H7, I7, r7, y7, at7, no7⟩ => thnF (pg.run _ s7 _ H7 x u _ (I7.pinned (far I7 no7) (T.obj _ _ at7)) r7 (step x H7 y7)) fun _ s8 ⟨σ8, H8, I8, same8, q8⟩ => ?_
      refine thnF ((pts_nil (X := X.blk s3 H3 scope ce fp)).run _ s8 σ8 H8 (fun b H9 => b = true ∧ H9 = H8) I8 ⟨rfl, rfl⟩) fun b s9 ⟨H9, I9, eb, e9⟩ => ?_
      subst eb e9
      refine thnF (pk.run _ s9 σ8 _ _ I9 q8) fun z s10 ⟨y, H10, I10, r10, q10⟩ => thnF (pv.run _ s10 σ8 H10 _ I10 q10) fun z2 s11 ⟨yv, H11, I11, r11, kvs, k, b, ey, ebt, eDt, few, nx⟩ => ?_
      subst ey
      obtain rfl : z = Value.ref b := r10
      refine put_tup (X := X.blk s3 H3 scope ce fp) room I11 eDt ebt few r11 fun s12 I12 => ?_
      obtain ⟨m', lt, w'⟩ := hN2 _ nx
      have kept : ∀ c ∈ fp, ∀ o, s7.heap.get? c = some o → s12.heap.get? c = some o ∧ upd H11 D (.dT (putK kvs k yv)) c = none := fun c m o e => by
        obtain ⟨z1, z2, _⟩ := I12.pin (c, o) (by simp only [List.mem_append]; exact .inr (.inr (mem_pinsAt m e)))
        exact ⟨z1, z2⟩
      have len : (wipe σ (own.map (·.2))).length = σ8.length := by rw [← same8, wipe_length]
      refine ⟨m', lt, i + 1, _, w', T.keep _ _ _ at7 fun c m o e => (kept c m o e).1, fun c m => ?_, (I12.unpinned (pins := [])).weak len fun j v e => (wipe_some (by rw [← same8] at e; exact e)).1⟩
      obtain ⟨o, e, _⟩ := T.obj _ _ at7 c m
      exact (kept c m o e).2
  subst es4 ece
  exact codeAny_compStart_dict loop (T.self X.A 0 _ _ _ at4 loop)
end
end L2
/-! A look as it stands in the heap; an outside that is made of it. -/
namespace OW
open PySem PySem.Spec PyProof.Rows L2 LB
def LookAt (K : PySem.W.Frag) (H : Hp) (v : V) (mom : Int) (fs : List (Int × Int)) (ths : List Th) (sp : List Tk) : Prop := ∃ (r a b c : Addr) (ps as ts : List Addr), v = .ref r ∧ SqT K H r [.int mom, .ref a, .ref b, .ref c] ∧ PlT H a (ps.map V.ref) ∧ Paired (fun p (f : Int × Int) => SqT K H p [.int f.1, .int f.2]) ps fs ∧
  SqT K H b (as.map V.ref) ∧ Paired (fun a t => ThAt K H a t) as ths ∧ SqT K H c (ts.map V.ref) ∧ Paired (fun p (t : Tk) => H p = some (.tup [.int t.1, .int t.2])) ts sp
section
variable {K : PySem.W.Frag} {H H' : Hp} {C : Addr} {v : V} {mom : Int} {fs : List (Int × Int)} {ths : List Th} {sp : List Tk}
theorem LookAt.kp (h : LookAt K H v mom fs ths sp) (k : Kp H H') : LookAt K H' v mom fs ths sp := by
  obtain ⟨r, a, b, c, ps, as, ts, e, h1, h2, h3, h4, h5, h6, h7⟩ := h
  exact ⟨r, a, b, c, ps, as, ts, e, sq_kp h1 k, pl_kp h2 k, par_imp (fun _ _ q => sq_kp q k) h3, sq_kp h4 k, par_imp (fun _ _ q => th_kp q k) h5, sq_kp h6 k, par_imp (fun p (t : Tk) q => k p (.tup [.int t.1, .int t.2]) trivial q) h7⟩
theorem LookAt.dp (h : LookAt K H v mom fs ths sp) : Dp K H v (lookD mom fs ths sp) := by
  obtain ⟨r, a, b, c, ps, as, ts, rfl, h1, h2, h3, h4, h5, h6, h7⟩ := h
  exact .tup h1 (.cons (.int _) (.cons (.tup (sqT_pl h2) (dpAll_par (f := iiD) (fun p f q => .tup q (.cons (.int _) (.cons (.int _) .nil))) h3)) (.cons (.tup h4 (dpAll_par (fun a t q => th_dp q) h5)) (.cons (.tup h6 (dpAll_par (f := iiD) (fun p f q => .tup (.of q) (.cons (.int _) (.cons (.int _) .nil))) h7)) .nil))))
def spOLook2 (K : PySem.W.Frag) (C : Addr) : Sp := fun vs H Q _ => ∃ (B : OA) (O : Od) (kn : Kn), vs = [.ref B.a] ∧ Ob K H C B O kn ∧ OOk kn O ∧
  ∀ (v : V) (H' : Hp) (fs : List (Int × Int)) (sp : List Tk), Same H H' → fs.Perm O.fences → fs.Pairwise leP → sp.Perm O.spent → sp.Pairwise leP → LookAt K H' v O.mom fs O.things sp → Q v H'
/-- self._begin(look), of an object that has its kinds alone, or all its fields -/
def FldsOk (kd : Addr) (fs0 : List (Str × V)) : Prop := fs0 = [(("_kinds" : Str), .ref kd)] ∨ ∃ B O, B.kd = kd ∧ fs0 = obF B O
structure Seen (fs : List (Int × Int)) (ths : List Th) (sp : List Tk) : Prop where
  kF : (fs.map (·.1)).Nodup
  ids : (ths.map (·.id)).Nodup
  ndS : sp.Nodup
  lF : fs.length < 60
  lT : ths.length < 60
  lS : sp.length < 60
def spBegin (K : PySem.W.Frag) (C : Addr) : Sp := fun vs H Q _ => ∃ (x dx kd : Addr) (l : V) (fs0 : List (Str × V)) (mom : Int) (fs : List (Int × Int)) (ths : List Th) (sp : List Tk), vs = [.ref x, l] ∧ H x = some (.ins C dx fs0) ∧ FldsOk kd fs0 ∧ LookAt K H l mom fs ths sp ∧ Seen fs ths sp ∧
  ∀ dF dT dS g H', Ch [x] H H' → H' x = some (.ins C dx (obF ⟨x, dx, kd, dF, dT, dS, []⟩ ⟨ths, sp, fs, mom, g, 0⟩)) → H' dF = some (.dK (itK fs)) → (∃ kvs, H' dT = some (.dK kvs) ∧ ThsR K H' kvs ths) → H' dS = some (.dT (spK sp)) → H dF = none → H dT = none → H dS = none → dF ≠ dT → dF ≠ dS → dT ≠ dS → g ∈ mom :: ths.map (·.id) → mom ≤ g → (∀ t ∈ ths, t.id ≤ g) → Q .non H'
/-- Outside(kinds) -/
def spOInit (K : PySem.W.Frag) (C : Addr) : Sp := fun vs H Q _ => ∃ (x dx kd0 : Addr) (ds0 : List Addr) (kn : Kn), vs = [.ref x, .ref kd0] ∧ H x = some (.ins C dx []) ∧ KndAt K H kd0 ds0 kn ∧ kd0 ∉ ds0 ∧ (kn.map (·.1)).Nodup ∧ kn.length < 60 ∧
  ∀ B H', B.a = x → B.dx = dx → Ch [x] H H' → Ob K H' C B newO kn → (∀ y ∈ B.dF :: B.dT :: B.dS :: B.kd :: B.ds, H y = none) → Q .non H'
/-- outside_of(kinds, look) -/
def spOutsideOf (K : PySem.W.Frag) (C : Addr) : Sp := fun vs H Q _ => ∃ (kd0 : Addr) (ds0 : List Addr) (kn : Kn) (l : V) (mom : Int) (fs : List (Int × Int)) (ths : List Th) (sp : List Tk), vs = [.ref kd0, l] ∧ KndAt K H kd0 ds0 kn ∧ kd0 ∉ ds0 ∧ (kn.map (·.1)).Nodup ∧ kn.length < 60 ∧ LookAt K H l mom fs ths sp ∧ Seen fs ths sp ∧
  ∀ B g H', Same H H' → Ob K H' C B ⟨ths, sp, fs, mom, g, 0⟩ kn → (∀ y ∈ B.a :: B.dF :: B.dT :: B.dS :: B.kd :: B.ds, H y = none) → mom ≤ g → (∀ t ∈ ths, t.id ≤ g) → Q (.ref B.a) H'
theorem merge_it {fs : List (Int × Int)} (h : (fs.map (·.1)).Nodup) : mergeK [] (itK fs) = itK fs := by
  have : ∀ (fs gs : List (Int × Int)), ((gs ++ fs).map (·.1)).Nodup → mergeK (itK gs) (itK fs) = itK (gs ++ fs) := fun fs => by
    induction fs with
    | nil => intro gs _; rw [List.append_nil]; rfl
    | cons f fs ih =>
      intro gs h
      have e : itK (f :: fs) = (Sum.inl f.1, V.int f.2) :: itK fs := rfl
      rw [e]
      show mergeK (putK (itK gs) (Sum.inl f.1) (V.int f.2)) (itK fs) = _
      have nf : ∀ x ∈ gs, ¬ x.1 = f.1 := fun x hx q => by
        rw [List.map_append, List.nodup_append] at h
        exact h.2.2 x.1 (List.mem_map_of_mem hx) f.1 (by simp) q
      have e2 : putK (itK gs) (Sum.inl f.1) (V.int f.2) = itK (gs ++ [f]) := by
        rw [put_fence]
        unfold fput
        rw [if_neg (by
          intro q
          obtain ⟨x, hx, e⟩ := List.any_eq_true.mp q
          exact nf x hx (of_decide_eq_true e))]
      rw [e2, ih (gs ++ [f]) (by rw [List.append_assoc]; exact h), List.append_assoc]
      rfl
  exact this fs [] h
end
end OW
namespace K07
open PySem PySem.Spec PyProof.Rows L2 LB OW
section
variable {P : Program} {w : World} {K : PySem.W.Frag} {mg : Str → Option Value} {base : Heap} {C pC pD pN : Addr} {eC eD : Array DictEntry} {nC nD : Nat}
theorem pairs_par {H : Hp} : ∀ {l : List (Addr × Int × Int)}, (∀ z ∈ l, H z.1 = some (.tup [.int z.2.1, .int z.2.2])) → Paired (fun p (t : Int × Int) => H p = some (.tup [.int t.1, .int t.2])) (l.map (·.1)) (l.map (·.2))
  | [], _ => .nil
  | z :: l, h => .cons (h z List.mem_cons_self) (pairs_par fun y m => h y (List.mem_cons_of_mem _ m))
theorem pairs_refs {l : List (Addr × Int × Int)} : (l.map fun z => V.ref z.1) = (l.map (·.1)).map V.ref := by rw [List.map_map]; rfl
theorem pair_kp {H H' : Hp} {ps : List Addr} {ts : List (Int × Int)} (h : Paired (fun p (t : Int × Int) => H p = some (.tup [.int t.1, .int t.2])) ps ts) (k : Kp H H') : Paired (fun p (t : Int × Int) => H' p = some (.tup [.int t.1, .int t.2])) ps ts := par_imp (fun p (t : Int × Int) q => k p (.tup [.int t.1, .int t.2]) trivial q) h
theorem ok_Outside_look {f : Addr} {fd : FuncData} (F : Fun K "look" "Outside.look" s_Outside_look f fd) (T : OTxt P w K mg C pC pD pN eC eD nC nD) : FnOk P w K mg base CX0 1 f fd ["self"] (spOLook2 K C) := by
  refine F.ok sc_Outside_look (fun vs H Q E h => ?_) (fun cdv A outer s H vs Q E hr h => ?_)
  · obtain ⟨B, O, kn, rfl, _⟩ := h
    rfl
  · obtain ⟨B, O, kn, rfl, hO, hK, k⟩ := h
    have hu := hu_of hr
    refine ⟨_, (pss_cons (ps_set (i := 1) sc_Outside_look.nd rfl (Or.inl rfl) (pe_callTy call_tupleF (by rfl) T.b_tuple (by decide +kernel) (pa_cons (pe_callB (cr_sortedIK rfl) (by rfl) T.b_sorted (by decide +kernel) (pa_cons (pe_bm0 PySem.F.plainAttrs_dict PySem.F.slot_dict_items PySem.F.type_dict_items mt_itemsK (pe_fld (pv 0) rfl)) pa_nil)) pa_nil)))
    (pss_cons (ps_set (i := 2) sc_Outside_look.nd rfl (Or.inl rfl) (pe_callTy call_tuple_of (by rfl) T.b_tuple (by decide +kernel) (pa_cons (pe_lc (own := [("id_of_thing", 3)]) rfl sc_Outside_look.nd (pi_list (pe_callB (call_sortedDI rfl) (by rfl) T.b_sorted (by decide +kernel) (pa_cons (pe_fld (pv 0) rfl) pa_nil))) (blkOk_by (own := [("id_of_thing", 3)]) (N := N_Outside_look) (sc := defScope s_Outside_look) (by decide +kernel)) (fun _ _ _ _ _ => (pg_name (i := 3) sc_Outside_look.nd rfl (Or.inl rfl))) (fun _ _ _ _ _ => pts_nil) (fun _ _ _ _ _ => (pe_dget hu (pe_fld (pv 0) rfl : PE _ _ (tFld K _ _)) (pv 3) (fun _ _ => rfl)))) pa_nil)))
    (pss_one (ps_ret (pe_tup (pa_cons (pe_fld (pv 0) rfl) (pa_cons (pv 1) (pa_cons (pv 2) (pa_cons (pe_callTy call_tuple_of (by rfl) T.b_tuple (by decide +kernel) (pa_cons (pe_callB (cr_sortedTK rfl) (by rfl) T.b_sorted (by decide +kernel) (pa_cons (pe_fld (pv 0) rfl) pa_nil)) pa_nil)) pa_nil))))))))), ?_⟩
    refine ⟨_, rfl, B.a, C, B.dx, _, _, rfl, hO.at_, T.cl, T.n_fences, lk_fences, .inr (.inr (.inl ⟨rfl, .inl ⟨_, hO.fences⟩⟩)), B.dF, _, rfl, rfl, hO.fences, fun p np => ?_⟩
    have sp := same_upd (o := DX.itemsO p B.dF) np
    have hp := upd_same (H := H) (a := p) (o := DX.itemsO p B.dF)
    have hO1 := hO.same sp
    generalize upd H p (DX.itemsO p B.dF) = H1 at sp hp hO1
    refine ⟨p, B.dF, O.fences, rfl, hp, hO1.fences, fun H2 l ps s2 nl perm srt hl hps => ?_⟩
    refine ⟨l, _, rfl, SqL.of hl, fun tF oF ntF noF => ?_⟩
    rw [pairs_refs]
    have s3 := same_upd (o := HO.frz oF (.tup ((ps.map (·.1)).map V.ref))) ntF
    have pl3 : PlT (upd H2 tF (.frz oF (.tup ((ps.map (·.1)).map V.ref)))) tF ((ps.map (·.1)).map V.ref) := ⟨oF, upd_same, noF⟩
    have pr3 := pair_kp (pairs_par hps) (.of_same s3)
    have s13 : Same H _ := sp.trans ((show Same H1 H2 from s2).trans s3)
    have hO3 := hO.same s13
    generalize upd H2 tF (.frz oF (.tup ((ps.map (·.1)).map V.ref))) = H3 at s3 pl3 pr3 s13 hO3
    clear hps hl nl ntF s2
    -- things
    obtain ⟨kvs, g1, g2⟩ := hO3.things
    have hlt : O.things.length < 60 := hK.w.lenT
    have hnd : (O.things.map (·.id)).Nodup := hK.w.nd
    refine ⟨_, rfl, B.a, C, B.dx, _, _, rfl, hO3.at_, T.cl, T.n_things, lk_things, B.dT, kvs, O.things.map (·.id), rfl, .inl g1, ths_keys g2, by rw [List.length_map]; omega, fun ys q operm osrt nq => ?_⟩
    rw [sorted_ids hK.w.ids operm osrt]
    have hids : ((pw O).things.map (·.id)) = O.things.map (·.id) := rfl
    rw [hids]
    have sq := same_upd (o := HO.lst ((O.things.map (·.id)).map V.int)) nq
    have hq := upd_same (H := H3) (a := q) (o := HO.lst ((O.things.map (·.id)).map V.int))
    have hO4 := hO3.same sq
    have s14 := s13.trans sq
    have pl4 := pl_kp pl3 (.of_same sq)
    have pr4 := pair_kp pr3 (.of_same sq)
    generalize upd H3 q (.lst ((O.things.map (·.id)).map V.int)) = H4 at sq hq hO4 s14 pl4 pr4
    refine ⟨q, rfl, ⟨_, SqL.of hq⟩, fun D hD => lc_list (K := K) (a := q) (xs := (O.things.map (·.id)).map V.int) (fun i H' => Same H4 H' ∧ ∃ as : List Addr, H' D = some (.lst (as.map V.ref)) ∧ Paired (fun a t => ThAt K H' a t) as (O.things.take i))
      ⟨same_upd hD, [], upd_same, .nil⟩ (fun i H' _ ⟨h, _⟩ => SqL.of (h _ _ hq)) ?_ ?_⟩
    · rintro i x H5 hx ⟨s5, as, hd, hP⟩
      obtain ⟨j, hj, rfl⟩ : ∃ j, (O.things.map (·.id))[i]? = some j ∧ V.int j = x := by
        rw [List.getElem?_map] at hx
        cases e : (O.things.map (·.id))[i]? with
        | none => rw [e] at hx; cases hx
        | some n => rw [e] at hx; exact ⟨n, rfl, Option.some.inj hx⟩
      obtain ⟨t, ht, rfl, htf⟩ := tfind_at hnd hj
      have hO5 := hO4.same s5
      obtain ⟨a, g3, hA⟩ := hO5.r.thing htf
      have h2 := (List.getElem?_eq_some_iff.mp ht).1
      have la : as.length = i := by
        have := hP.length
        rw [List.length_take] at this
        omega
      have kp : Kp H5 (upd H5 D (.lst (as.map V.ref ++ [.ref a]))) := .put hd (fun z => z)
      refine ⟨rfl, _, rfl, B.a, C, B.dx, _, _, rfl, hO5.at_, T.cl, T.n_things, lk_things, _, rfl, B.dT, _, rfl, g3, _, hd, ?_, fun b o e => ?_, as ++ [a], ?_, ?_⟩
      · rw [List.length_map, la]
        exact Nat.lt_of_lt_of_le (show i < 60 by omega) (by decide)
      · rw [upd_ne (ne_of_none e hD)]
        exact s5 _ _ e
      · rw [upd_same, List.map_append]; rfl
      · rw [List.take_add_one, ht]
        exact par_snoc (par_imp (fun _ _ q => th_kp q kp) hP) (th_kp hA kp)
    · rintro H5 ⟨s5, as, hd, hP⟩
      rw [List.length_map, List.length_map, List.take_length] at hP
      refine ⟨D, _, rfl, .inl ⟨SqL.of hd, fun tA ntA => ?_⟩⟩
      have s6 := same_upd (o := HO.tup (as.map V.ref)) ntA
      have sA : SqT K (upd H5 tA (.tup (as.map V.ref))) tA (as.map V.ref) := .of upd_same
      have pA := par_imp (fun _ _ q => th_kp q (.of_same s6)) hP
      have s16 := s14.trans (s5.trans s6)
      have pl6 := pl_kp pl4 (.of_same (s5.trans s6))
      have pr6 := pair_kp pr4 (.of_same (s5.trans s6))
      have hO6 := hO.same s16
      generalize upd H5 tA (.tup (as.map V.ref)) = H6 at s6 sA pA s16 pl6 pr6 hO6
      clear hP hd s5
      -- spent
      have kS : (spK O.spent).map (·.1) = O.spent.map kPair := by unfold spK; rw [List.map_map]; rfl
      refine ⟨_, rfl, B.a, C, B.dx, _, _, rfl, hO6.at_, T.cl, T.n_moment, lk_moment, _, rfl, _, rfl, ?_⟩
      refine ⟨_, rfl, B.a, C, B.dx, _, _, rfl, hO6.at_, T.cl, T.n_spent, lk_spent, B.dS, _, O.spent, rfl, hO6.spent, kS, fun l2 qs nl2 perm2 srt2 hqs => ?_⟩
      rw [pairs_refs]
      have s7 := same_upd (o := HO.lst ((qs.map (·.1)).map V.ref)) nl2
      refine ⟨l2, _, rfl, .inl ⟨SqL.of upd_same, fun tS ntS => ?_⟩⟩
      have s8 := same_upd (o := HO.tup ((qs.map (·.1)).map V.ref)) ntS
      have s78 := s7.trans s8
      have prS := pair_kp (pairs_par hqs) (.of_same s78)
      have sS : SqT K (upd (upd H6 l2 (.lst ((qs.map (·.1)).map V.ref))) tS (.tup ((qs.map (·.1)).map V.ref))) tS ((qs.map (·.1)).map V.ref) := .of upd_same
      refine ⟨by show 4 ≤ sizeLine; decide, fun pR npR => ?_⟩
      have s9 := same_upd (o := HO.tup [.int O.mom, .ref tF, .ref tA, .ref tS]) npR
      have k9 : Kp H6 _ := .of_same (s78.trans s9)
      refine k (.ref pR) _ (ps.map (·.2)) (qs.map (·.2)) (s16.trans (s78.trans s9)) perm srt perm2 srt2 ?_
      exact ⟨pR, tF, tA, tS, _, _, _, rfl, .of upd_same, pl_kp pl6 k9, par_imp (fun p (f : Int × Int) q => .of q) (pair_kp pr6 k9), sq_kp sA k9, par_imp (fun _ _ q => th_kp q k9) pA, sq_kp sS (.of_same s9), pair_kp prS (.of_same s9)⟩
end
end K07
namespace K07
open PySem PySem.Spec PyProof.Rows L2 LB OW
section
variable {P : Program} {w : World} {K : PySem.W.Frag} {mg : Str → Option Value} {base : Heap}
theorem ok__law_marks {f : Addr} {fd : FuncData} (F : Fun K "_law_marks" "_law_marks" s__law_marks f fd) (T : OBlt mg) (c__law_take : C8.Cal P w K mg base 1 "_law_take" spTake []) : FnOk P w K mg base CX0 2 f fd ["tape", "options"] (spMarks K) := by
  refine F.ok sc__law_marks (fun vs H Q E h => ?_) (fun cdv A outer s H vs Q E hr h => ?_)
  · obtain ⟨t, c, cs, l, as, rfl, _⟩ := h
    rfl
  · obtain ⟨t, c, cs, l, as, rfl, hT, hl, h1, h2, k⟩ := h
    refine ⟨_, (pss_one (ps_ret (pe_ix ix_list (pv 1) (C8.pe_c c__law_take hr (by first | decide | omega) rfl (pa_cons (pv 0) (pa_cons (pe_callB call_len_seq (by rfl) T.b_len (by decide +kernel) (pa_cons (pv 1) pa_nil)) pa_nil))) (fun _ _ => rfl)))), ?_⟩
    have lz : (as.map V.ref).length = as.length := by rw [List.length_map]
    refine ⟨_, rfl, _, rfl, _, rfl, l, _, rfl, .inl (SqL.of hl), t, c, cs, ((as.map V.ref).length : Int), rfl, hT, by rw [lz]; omega, by rw [lz]; omega, fun r kvs h0 hr hk => ?_⟩
    rw [lz] at hr
    have lt : l ≠ t := ne_of hl hT.dc.choose_spec.1 (by intro z; cases z)
    obtain ⟨a, ha⟩ : ∃ a, as[r.toNat]? = some a := ⟨_, List.getElem?_eq_getElem (by omega)⟩
    have hx : (as.map V.ref)[r.toNat]? = some (.ref a) := by rw [List.getElem?_map, ha]; rfl
    exact ⟨l, _, _, _, rfl, rfl, .of (by rw [upd_ne lt]; exact hl), at_of (by omega) hx, k a (List.mem_of_getElem? ha) kvs hk⟩
theorem no_single {m : List Str} {opts : List (List Str)} (h : m ∈ opts) (q : (opts.all fun o => !decide (("single" : Str) ∈ o)) = true) : ("single" : Str) ∉ m := by
  have := List.all_eq_true.mp q m h
  simpa using this
theorem ok__law_kinds {f : Addr} {fd : FuncData} (F : Fun K "_law_kinds" "_law_kinds" s__law_kinds f fd) (T : OBlt mg) (c__law_marks : C8.Cal P w K mg base 2 "_law_marks" (spMarks K) []) : FnOk P w K mg base CX0 3 f fd ["tape"] (spKinds K) := by
  refine F.ok sc__law_kinds (fun vs H Q E h => ?_) (fun cdv A outer s H vs Q E hr h => ?_)
  · obtain ⟨t, c, cs, rfl, _⟩ := h
    rfl
  · obtain ⟨t, c, cs, rfl, hT, k⟩ := h
    refine ⟨_, (pss_cons (ps_set (i := 1) sc__law_kinds.nd rfl (Or.inl rfl) (pe_tup (pa_cons (pe_tup (pa_cons pe_str (pa_cons pe_str (pa_cons (C8.pe_c c__law_marks hr (by first | decide | omega) rfl (pa_cons (pv 0) (pa_cons (pe_lst (pa_cons (pe_tup (pa_cons pe_str pa_nil)) (pa_cons (pe_tup (pa_cons pe_str (pa_cons pe_str pa_nil))) (pa_cons (pe_tup (pa_cons pe_str (pa_cons pe_str pa_nil))) (pa_cons (pe_tup pa_nil) pa_nil))))) pa_nil))) pa_nil)))) pa_nil)))
    (pss_cons (ps_set (i := 1) sc__law_kinds.nd rfl (Or.inl rfl) (pe_op op_catT (pv 1) (pe_tup (pa_cons (pe_tup (pa_cons pe_str (pa_cons pe_str (pa_cons (C8.pe_c c__law_marks hr (by first | decide | omega) rfl (pa_cons (pv 0) (pa_cons (pe_lst (pa_cons (pe_tup (pa_cons pe_str pa_nil)) (pa_cons (pe_tup pa_nil) (pa_cons (pe_tup (pa_cons pe_str pa_nil)) pa_nil)))) pa_nil))) pa_nil)))) pa_nil))))
    (pss_cons (ps_set (i := 2) sc__law_kinds.nd rfl (Or.inl rfl) (pe_tup (pa_cons (pe_tup (pa_cons pe_str (pa_cons pe_str (pa_cons (C8.pe_c c__law_marks hr (by first | decide | omega) rfl (pa_cons (pv 0) (pa_cons (pe_lst (pa_cons (pe_tup pa_nil) (pa_cons (pe_tup (pa_cons pe_str pa_nil)) (pa_cons (pe_tup (pa_cons pe_str pa_nil)) (pa_cons (pe_tup (pa_cons pe_str (pa_cons pe_str pa_nil))) pa_nil))))) pa_nil))) pa_nil)))) pa_nil)))
    (pss_cons (ps_set (i := 2) sc__law_kinds.nd rfl (Or.inl rfl) (pe_op op_catT (pv 2) (pe_tup (pa_cons (pe_tup (pa_cons pe_str (pa_cons pe_str (pa_cons (C8.pe_c c__law_marks hr (by first | decide | omega) rfl (pa_cons (pv 0) (pa_cons (pe_lst (pa_cons (pe_tup (pa_cons pe_str pa_nil)) (pa_cons (pe_tup (pa_cons pe_str (pa_cons pe_str pa_nil))) pa_nil))) pa_nil))) pa_nil)))) (pa_cons (pe_tup (pa_cons pe_str (pa_cons pe_str (pa_cons (pe_tup (pa_cons pe_str pa_nil)) pa_nil)))) pa_nil)))))
    (pss_cons (ps_set (i := 3) sc__law_kinds.nd rfl (Or.inl rfl) (pe_tup (pa_cons (pe_tup (pa_cons pe_str (pa_cons pe_str (pa_cons (C8.pe_c c__law_marks hr (by first | decide | omega) rfl (pa_cons (pv 0) (pa_cons (pe_lst (pa_cons (pe_tup (pa_cons pe_str pa_nil)) (pa_cons (pe_tup (pa_cons pe_str pa_nil)) pa_nil))) pa_nil))) pa_nil)))) (pa_cons (pe_tup (pa_cons pe_str (pa_cons pe_str (pa_cons (C8.pe_c c__law_marks hr (by first | decide | omega) rfl (pa_cons (pv 0) (pa_cons (pe_lst (pa_cons (pe_tup (pa_cons pe_str (pa_cons pe_str pa_nil))) (pa_cons (pe_tup pa_nil) pa_nil))) pa_nil))) pa_nil)))) pa_nil))))
    (pss_cons (ps_set (i := 3) sc__law_kinds.nd rfl (Or.inl rfl) (pe_op op_catT (pv 3) (pe_tup (pa_cons (pe_tup (pa_cons pe_str (pa_cons pe_str (pa_cons (C8.pe_c c__law_marks hr (by first | decide | omega) rfl (pa_cons (pv 0) (pa_cons (pe_lst (pa_cons (pe_tup pa_nil) (pa_cons (pe_tup (pa_cons pe_str pa_nil)) (pa_cons (pe_tup (pa_cons pe_str pa_nil)) pa_nil)))) pa_nil))) pa_nil)))) pa_nil))))
    (pss_one (ps_ret (pe_tup (pa_cons (pe_tup (pa_cons pe_str (pa_cons (pv 1) pa_nil))) (pa_cons (pe_tup (pa_cons pe_str (pa_cons (pv 2) pa_nil))) (pa_cons (pe_tup (pa_cons pe_str (pa_cons (pv 3) pa_nil))) pa_nil)))))))))))), ?_⟩
    -- net
    refine drawA (K := K) (opts := [["single"], ["empty", "single"], ["fixed", "single"], []]) ⟨by decide, by decide, by decide⟩ hT rfl fun a1 m1 H1 c1 T1 f1 o1 => ?_
    refine drawB (K := K) (opts := [["fixed"], [], ["empty"]]) ⟨by decide, by decide, by decide⟩ T1 rfl rfl f1 (List.cons_ne_nil _ _) (by show 1 < 50; decide) fun a1 m2 H2 c2 T2 f1 o2 => ?_
    refine drawA (K := K) (opts := [[], ["fixed"], ["empty"], ["empty", "fixed"]]) ⟨by decide, by decide, by decide⟩ T2 rfl fun a2 m3 H3 c3 T3 f2 o3 => ?_
    refine drawC (K := K) (opts := [["empty"], ["empty", "fixed"]]) (o := ["empty"]) ⟨by decide, by decide, by decide⟩ (by decide) T3 rfl rfl f2 (List.cons_ne_nil _ _) (by show 1 < 50; decide) fun a2 m4 H4 c4 T4 f2 o4 => ?_
    refine drawD (K := K) (opts := [["fixed"], ["empty"]]) (opts2 := [["empty", "single"], []]) ⟨by decide, by decide, by decide⟩ ⟨by decide, by decide, by decide⟩ T4 rfl fun a3 m5 m6 H5 c5 T5 f3 o5 => ?_
    refine drawB (K := K) (opts := [[], ["fixed"], ["empty"]]) ⟨by decide, by decide, by decide⟩ T5 rfl rfl f3 (List.cons_ne_nil _ _) (by show 2 < 50; decide) fun a3 m7 H6 c6 T6 f3 o7 => ?_
    refine ⟨_, rfl, by show 2 ≤ sizeLine; decide, fun q1 n1 => ⟨_, rfl, by show 2 ≤ sizeLine; decide, fun q2 n2 => ⟨_, rfl, by show 2 ≤ sizeLine; decide, fun q3 n3 => ⟨by show 3 ≤ sizeLine; decide, fun q4 n4 => ?_⟩⟩⟩⟩
    have s1 := same_upd (o := HO.tup [V.str "net", .ref a1]) n1
    have s2 := same_upd (o := HO.tup [V.str "box", .ref a2]) n2
    have s3 := same_upd (o := HO.tup [V.str "disk", .ref a3]) n3
    have s4 := same_upd (o := HO.tup [V.ref q1, .ref q2, .ref q3]) n4
    have s14 := s1.trans (s2.trans (s3.trans s4))
    refine k q4 m1 m2 m3 m4 m5 m6 m7 _ ((c1.trans (c2.trans (c3.trans (c4.trans (c5.trans c6))))).trans (.of_same s14)) (tape_same T6 s14) ⟨[q1, q2, q3], .of upd_same, .cons ⟨a1, .of (s4 _ _ (s3 _ _ (s2 _ _ upd_same))), ?_⟩ (.cons ⟨a2, .of (s4 _ _ (s3 _ _ upd_same)), ?_⟩ (.cons ⟨a3, .of (s4 _ _ upd_same), ?_⟩ .nil))⟩ (no_single o3 (by decide +kernel)) (no_single o4 (by decide +kernel)) (no_single o7 (by decide +kernel))
    · exact fs_kp f1 ((c3.trans (c4.trans (c5.trans c6))).trans (.of_same s14)).kp
    · exact fs_kp f2 ((c5.trans c6).trans (.of_same s14)).kp
    · exact fs_kp f3 (.of_same s14)
theorem kn_put {d : Addr} {kn : Kn} {ds : List Addr} {e : Str × List FT} (hl : ds.length = kn.length) (h : e.1 ∉ kn.map (·.1)) :
    putK ((kn.zip ds).map fun e => ((Sum.inr e.1.1 : Key), V.ref e.2)) (Sum.inr e.1) (.ref d) = ((kn ++ [e]).zip (ds ++ [d])).map fun e => ((Sum.inr e.1.1 : Key), V.ref e.2) := by
  have q : valV ((kn.zip ds).map fun e => ((Sum.inr e.1.1 : Key), V.ref e.2)) (Sum.inr e.1) = none := by
    refine (zip_find rfl hl).2 ?_
    unfold kfind
    cases z : kn.find? (fun x => decide (x.1 = e.1)) with
    | none => rfl
    | some x =>
      have h1 := List.mem_of_find?_eq_some z
      have h2 : x.1 = e.1 := by have := List.find?_some z; simpa using this
      exact absurd (by rw [← h2]; exact List.mem_map_of_mem h1) h
  rw [put_new q, List.zip_append hl.symm, List.map_append]
  rfl
theorem fld_put {H : Hp} {fvs : List (Key × V)} {fs : List FT} {f : FT} {a m : Addr} (h : FldR K H fvs fs) (hn : f.1 ∉ fs.map (·.1)) (sa : SqT K H a [.str f.2.1, .ref m]) (sm : SqT K H m (f.2.2.map V.str)) : FldR K H (putK fvs (Sum.inr f.1) (.ref a)) (fs ++ [f]) := by
  have q : valV fvs (Sum.inr f.1) = none := by
    refine fld_none h ?_
    cases z : ffind fs f.1 with
    | none => rfl
    | some x => exact absurd (ffind_in z) hn
  rw [put_new q]
  exact par_snoc h ⟨rfl, a, m, rfl, sa, sm⟩
theorem take_names {α : Type} {l : List α} {g : α → Str} (nd : (l.map g).Nodup) {i : Nat} {x : α} (h : l[i]? = some x) : g x ∉ (l.take i).map g := by
  intro hm
  obtain ⟨y, hy, e⟩ := List.mem_map.mp hm
  obtain ⟨j, hj⟩ := List.mem_iff_getElem?.mp hy
  have hjl := (List.getElem?_eq_some_iff.mp hj).1
  rw [List.length_take] at hjl
  have hil := (List.getElem?_eq_some_iff.mp h).1
  rw [List.getElem?_take_of_lt (by omega)] at hj
  have e1 : (l.map g)[j]? = some (g x) := by rw [List.getElem?_map, hj]; exact congrArg some e
  have e2 : (l.map g)[i]? = some (g x) := by rw [List.getElem?_map, h]; rfl
  have := (List.getElem?_inj (by rw [List.length_map]; omega) nd).mp (e1.trans e2.symm)
  omega
theorem ok__law_kind_dict {f : Addr} {fd : FuncData} (F : Fun K "_law_kind_dict" "_law_kind_dict" s__law_kind_dict f fd) (T : OBlt mg) : FnOk P w K mg base CX0 1 f fd ["kinds"] (spKindDict K) := by
  refine F.ok sc__law_kind_dict (fun vs H Q E h => ?_) (fun cdv A outer s H vs Q E hr h => ?_)
  · obtain ⟨a, kn, rfl, _⟩ := h
    rfl
  · obtain ⟨a, kn, rfl, ⟨ps, sa, pp⟩, hnd, hlk, hfs, k⟩ := h
    have hu := hu_of hr
    refine ⟨_, (pss_cons (ps_set (i := 1) sc__law_kind_dict.nd rfl (Or.inl rfl) pe_dnewK)
    (pss_cons (ps_for PassesOwn.never rfl (pi_tup (pv 0)) (pg_tup (by rfl) (pgs_cons (pg_name (i := 2) sc__law_kind_dict.nd rfl (Or.inl rfl)) (pgs_cons (pg_name (i := 3) sc__law_kind_dict.nd rfl (Or.inl rfl)) pgs_nil)))
      (pss_cons (ps_dput hu (pv 1) (pv 2) pe_dnewK rfl)
      (pss_one (ps_for PassesOwn.never rfl (pi_tup (pv 3)) (pg_tup (by rfl) (pgs_cons (pg_name (i := 4) sc__law_kind_dict.nd rfl (Or.inl rfl)) (pgs_cons (pg_name (i := 5) sc__law_kind_dict.nd rfl (Or.inl rfl)) (pgs_cons (pg_name (i := 6) sc__law_kind_dict.nd rfl (Or.inl rfl)) pgs_nil))))
        (pss_one (ps_dput hu (pe_dget hu (pv 1) (pv 2) (fun _ _ => rfl)) (pv 4) (pe_tup (pa_cons (pv 5) (pa_cons (pv 6) pa_nil))) rfl))))))
    (pss_one (ps_ret (pv 1))))), ?_⟩
    refine fun kd nkd => ?_
    have lp : ps.length = kn.length := pp.length
    refine ⟨_, rfl, a, rfl, ⟨_, same_seqT (same_upd nkd) sa⟩, for_tup (K := K) (a := a) (xs := ps.map V.ref) (fun i σ H' => ∃ (e2 e3 e4 e5 e6 : Option V) (ds : List Addr), σ = [some (.ref a), some (.ref kd), e2, e3, e4, e5, e6] ∧ Same H H' ∧ KndAt K H' kd ds (kn.take i) ∧ (kd :: ds).Nodup ∧ ∀ x ∈ ds, H x = none)
      ⟨none, none, none, none, none, [], rfl, same_upd nkd, ⟨⟨_, upd_same, rfl⟩, rfl, fun i d e h => by simp at h⟩, by simp, fun x h => by cases h⟩ (fun i σ H' _ ⟨_, _, _, _, _, _, _, h, _⟩ => same_seqT h sa) ?_ ?_⟩
    · rintro i x σ H1 hx ⟨e2, e3, e4, e5, e6, ds, rfl, s1, hK, hdn, hdf⟩
      obtain ⟨p, hp, rfl⟩ : ∃ p, ps[i]? = some p ∧ V.ref p = x := by
        rw [List.getElem?_map] at hx
        cases e : ps[i]? with
        | none => rw [e] at hx; cases hx
        | some n => rw [e] at hx; exact ⟨n, rfl, Option.some.inj hx⟩
      obtain ⟨e, he, fa, sp, qs, sq, qp⟩ := par_at pp hp
      have hi := (List.getElem?_eq_some_iff.mp he).1
      obtain ⟨hfn, hfl⟩ := hfs e (List.mem_of_getElem? he)
      obtain ⟨kvs, h1, h2⟩ := hK.top
      have hl := hK.len
      have hlt : (kn.take i).length = i := by rw [List.length_take]; omega
      have lkv : kvs.length = i := by
        rw [h2, List.length_map, List.length_zip]
        omega
      have hne := take_names hnd he
      refine ⟨p, _, rfl, same_seqT s1 sp, rfl, _, _, rfl, _, _, rfl, rfl, fun d nd => ?_⟩
      have sd := same_upd (o := HO.dK []) nd
      have hkd2 := sd _ _ h1
      have hput : DPut (upd H1 d (.dK [])) kd (.str e.1) (.ref d) (upd (upd H1 d (.dK [])) kd (.dK (putK kvs (Sum.inr e.1) (.ref d)))) := .inl ⟨kvs, Sum.inr e.1, hkd2, rfl, by rw [lkv]; exact Nat.lt_trans (show i < 60 by omega) (by decide), rfl⟩
      have dkd : d ≠ kd := fun z => by rw [z, h1] at nd; cases nd
      have dds : d ∉ ds := fun m => by
        obtain ⟨j, hj⟩ := List.mem_iff_getElem?.mp m
        have hj2 := (List.getElem?_eq_some_iff.mp hj).1
        obtain ⟨fv, q, _⟩ := hK.fld j d ((kn.take i)[j]'(by omega)) hj (List.getElem?_eq_getElem (by omega))
        rw [nd] at q
        cases q
      have hdH : H d = none := s1.free nd
      have hkH : kd ∉ ds := (List.nodup_cons.mp hdn).1
      refine ⟨_, rfl, _, rfl, kd, _, rfl, hput, ?_⟩
      -- the heap with the new kind, empty; then its fields
      have s2 : Same H (upd (upd H1 d (.dK [])) kd (.dK (putK kvs (Sum.inr e.1) (.ref d)))) := fun b o z => by
        rw [upd_ne (fun y => by rw [y, nkd] at z; cases z)]
        exact sd _ _ (s1 _ _ z)
      have kp2 : Kp H1 (upd (upd H1 d (.dK [])) kd (.dK (putK kvs (Sum.inr e.1) (.ref d)))) := (Kp.of_same sd).trans (.put hkd2 (fun z => z))
      have top2 : upd (upd H1 d (.dK [])) kd (.dK (putK kvs (Sum.inr e.1) (.ref d))) kd = some (.dK (((kn.take (i + 1)).zip (ds ++ [d])).map fun e => ((Sum.inr e.1.1 : Key), V.ref e.2))) := by
        rw [upd_same, h2, kn_put (by rw [hl]) hne, List.take_add_one, he]
        rfl
      have old2 : ∀ x ∈ ds, upd (upd H1 d (.dK [])) kd (.dK (putK kvs (Sum.inr e.1) (.ref d))) x = H1 x := fun x m => by
        rw [upd_ne (fun y => hkH (by rw [← y]; exact m)), upd_ne (fun y => dds (by rw [← y]; exact m))]
      have new2 : upd (upd H1 d (.dK [])) kd (.dK (putK kvs (Sum.inr e.1) (.ref d))) d = some (.dK []) := by rw [upd_ne dkd, upd_same]
      generalize upd (upd H1 d (.dK [])) kd (.dK (putK kvs (Sum.inr e.1) (.ref d))) = H2 at s2 kp2 top2 old2 new2
      have lq : qs.length = e.2.length := qp.length
      refine ⟨_, rfl, fa, rfl, ⟨_, same_seqT s2 sq⟩, for_tup (K := K) (a := fa) (xs := qs.map V.ref) (fun j σ H' => ∃ (e4 e5 e6 : Option V) (fvs : List (Key × V)), σ = [some (.ref a), some (.ref kd), some (.str e.1), some (.ref fa), e4, e5, e6] ∧ (∀ b o, b ≠ d → H2 b = some o → H' b = some o) ∧ H' d = some (.dK fvs) ∧ FldR K H' fvs (e.2.take j))
        ⟨e4, e5, e6, [], rfl, fun _ _ _ z => z, new2, .nil⟩ (fun j σ H' _ ⟨_, _, _, _, _, h, _⟩ => ?_) ?_ ?_⟩
      · have : Same H H' := fun b o z => h b o (fun y => by rw [y, hdH] at z; cases z) (s2 _ _ z)
        exact same_seqT this sq
      · rintro j x σ H3 hx ⟨e4, e5, e6, fvs, rfl, o3, hd3, hF3⟩
        have s3 : Same H H3 := fun b o z => o3 b o (fun y => by rw [y, hdH] at z; cases z) (s2 _ _ z)
        obtain ⟨q, hq, rfl⟩ : ∃ q, qs[j]? = some q ∧ V.ref q = x := by
          rw [List.getElem?_map] at hx
          cases e : qs[j]? with
          | none => rw [e] at hx; cases hx
          | some n => rw [e] at hx; exact ⟨n, rfl, Option.some.inj hx⟩
        obtain ⟨fl, hfl2, m, sf, sm⟩ := par_at qp hq
        have hj := (List.getElem?_eq_some_iff.mp hfl2).1
        have top3 := o3 kd _ dkd.symm top2
        have gk : DGet H3 kd (.str e.1) (some (.ref d)) := by
          refine .inl ⟨_, Sum.inr e.1, .inl top3, rfl, ?_⟩
          have : (kn.take (i + 1)).zip (ds ++ [d]) = (kn.take i).zip ds ++ [(e, d)] := by
            rw [List.take_add_one, he, List.zip_append (by rw [hl])]
            rfl
          rw [this, List.map_append]
          have hno : valV (((kn.take i).zip ds).map fun e => ((Sum.inr e.1.1 : Key), V.ref e.2)) (Sum.inr e.1) = none := by
            refine (zip_find rfl hl).2 ?_
            unfold kfind
            cases z : (kn.take i).find? (fun x => decide (x.1 = e.1)) with
            | none => rfl
            | some x =>
              have h1 := List.mem_of_find?_eq_some z
              have h2 : x.1 = e.1 := by have := List.find?_some z; simpa using this
              exact absurd (by rw [← h2]; exact List.mem_map_of_mem h1) hne
          unfold valV at hno ⊢
          rw [List.find?_append]
          cases z : List.find? (fun kv => decide (kv.1 = (Sum.inr e.1 : Key))) (((kn.take i).zip ds).map fun e => ((Sum.inr e.1.1 : Key), V.ref e.2)) with
          | some y => rw [z] at hno; cases hno
          | none => simp
        refine ⟨q, _, rfl, same_seqT s3 sf, rfl, _, _, rfl, _, _, rfl, _, _, rfl, rfl, ?_⟩
        refine ⟨_, rfl, _, rfl, by show 2 ≤ sizeLine; decide, fun b nb => ?_⟩
        have sb := same_upd (o := HO.tup [V.str fl.2.1, .ref m]) nb
        have lf : fvs.length = j := by
          have := hF3.length
          rw [List.length_take] at this
          omega
        have hbd : b ≠ d := fun z => by rw [z, hd3] at nb; cases nb
        have hd4 := sb _ _ hd3
        have kp4 : Kp H3 (upd (upd H3 b (.tup [V.str fl.2.1, .ref m])) d (.dK (putK fvs (Sum.inr fl.1) (.ref b)))) := (Kp.of_same sb).trans (.put hd4 (fun z => z))
        have gk4 : DGet (upd H3 b (.tup [V.str fl.2.1, .ref m])) kd (.str e.1) (some (.ref d)) := by
          rcases gk with ⟨kv, ky, r, e1, e2⟩ | ⟨kv, ky, c, r, e1, _⟩
          · exact .inl ⟨kv, ky, r.elim (fun z => .inl (sb _ _ z)) (fun ⟨o, z⟩ => .inr ⟨o, sb _ _ z⟩), e1, e2⟩
          · cases e1
        refine ⟨_, rfl, _, rfl, kd, _, rfl, gk4, _, rfl, d, _, rfl, .inl ⟨fvs, Sum.inr fl.1, hd4, rfl, by rw [lf]; exact Nat.lt_trans (show j < 60 by omega) (by decide), rfl⟩, _, _, _, _, rfl, fun c o n z => ?_, upd_same, ?_⟩
        · rw [upd_ne n]
          exact sb _ _ (o3 c o n z)
        · rw [List.take_add_one, hfl2]
          refine fld_put (fld_kp hF3 kp4) (take_names hfn hfl2) (.of ?_) (sq_kp (same_seqT s3 sm) kp4)
          rw [upd_ne hbd]
          exact upd_same
      · rintro σ H3 ⟨e4, e5, e6, fvs, rfl, o3, hd3, hF3⟩
        rw [List.length_map, lq, List.take_length] at hF3
        have s3 : Same H H3 := fun b o z => o3 b o (fun y => by rw [y, hdH] at z; cases z) (s2 _ _ z)
        have kp3 : Kp H2 H3 := fun b o im z => by
          by_cases y : b = d
          · subst y
            rw [new2] at z
            cases z
            exact im.elim
          · exact o3 b o y z
        refine ⟨_, _, _, _, _, ds ++ [d], rfl, s3, ⟨⟨_, o3 kd _ dkd.symm top2, rfl⟩, ?_, fun j x y hj hy => ?_⟩, ?_, fun x hm => ?_⟩
        · rw [List.length_append, hl, List.length_take, List.length_take]
          show _ + 1 = _
          omega
        · by_cases hji : j < ds.length
          · rw [List.getElem?_append_left hji] at hj
            have hy2 : (kn.take i)[j]? = some y := by
              rw [List.getElem?_take_of_lt (by omega)] at hy
              rw [List.getElem?_take_of_lt (by omega)]
              exact hy
            obtain ⟨fv, z1, z2⟩ := hK.fld j x y hj hy2
            have hm := List.mem_of_getElem? hj
            exact ⟨fv, o3 x _ (fun q => dds (by rw [← q]; exact hm)) (by rw [old2 x hm]; exact z1), fld_kp z2 (kp2.trans kp3)⟩
          · have hj2 := (List.getElem?_eq_some_iff.mp hj).1
            rw [List.length_append] at hj2
            have hj2 : j < ds.length + 1 := hj2
            have hjd : j = ds.length := by omega
            have hx : x = d := by
              rw [hjd, List.getElem?_append_right (Nat.le_refl _)] at hj
              simp at hj
              exact hj.symm
            have hye : y = e := by
              rw [List.getElem?_take_of_lt (by omega)] at hy
              rw [show j = i by omega, he] at hy
              exact (Option.some.inj hy).symm
            subst hx hye
            exact ⟨fvs, hd3, hF3⟩
        · rw [List.nodup_cons] at hdn ⊢
          refine ⟨fun m => ?_, ?_⟩
          · rcases List.mem_append.mp m with m | m
            · exact hkH m
            · exact dkd (List.mem_singleton.mp m).symm
          · rw [List.nodup_append]
            exact ⟨hdn.2, by simp, fun x m y m2 z => dds (by rw [List.mem_singleton.mp m2] at z; rw [← z]; exact m)⟩
        · rcases List.mem_append.mp hm with m | m
          · exact hdf x m
          · rw [List.mem_singleton.mp m]; exact hdH
    · rintro σ H1 ⟨e2, e3, e4, e5, e6, ds, rfl, s1, hK, hdn, hdf⟩
      rw [List.length_map, lp, List.take_length] at hK
      refine ⟨_, rfl, k kd ds H1 s1 hK hdn fun x m => ?_⟩
      rcases List.mem_cons.mp m with rfl | m
      · exact nkd
      · exact hdf x m
theorem wd_new {A : LA} {W : Wd} : mergeK [] (wdK A W) = wdK A W := by
  obtain ⟨a, b, c, d, e, f, g, i, j, k⟩ := wd_ne
  unfold mergeK wdK
  simp only [List.foldl_cons, List.foldl_nil, putK, List.any_nil, List.any_cons, a, b, c, d, e, f, g, i, j, k, decide_false, Bool.or_false, Bool.false_eq_true, if_false, List.nil_append, List.cons_append]
theorem ok__law_new_world {f : Addr} {fd : FuncData} (F : Fun K "_law_new_world" "_law_new_world" s__law_new_world f fd) (T : OBlt mg) : FnOk P w K mg base CX0 1 f fd [] (spNewW K) := by
  refine F.ok sc__law_new_world (fun vs H Q E h => ?_) (fun cdv A outer s H vs Q E hr h => ?_)
  · obtain ⟨rfl, _⟩ := h
    rfl
  · obtain ⟨rfl, k⟩ := h
    refine ⟨_, (pss_one (ps_ret (pe_disp (pps_cons pe_str pe_dnewK (pps_cons pe_str (pe_asT pe_dnewK) (pps_cons pe_str pe_dnewK (pps_cons pe_str pe_int (pps_cons pe_str pe_int pps_nil))))) (by rfl) (by rfl) (fun z => by cases z) (by decide)))), ?_⟩
    refine fun w nw => ?_
    have s0 := same_upd (o := HO.dK []) nw
    refine fun T nT => ?_
    have s1 := same_upd (o := HO.dK []) nT
    refine fun Kk nK => ?_
    have s2 := same_upd (o := HO.dK []) nK
    refine ⟨Kk, rfl, upd_same, fun Ff nF => ?_⟩
    rw [upd_upd] at nF ⊢
    have s2' := same_upd (o := HO.dT []) nK
    have s3 := same_upd (o := HO.dK []) nF
    have w3 := s3 _ _ (s2' _ _ (s1 _ _ upd_same))
    refine ⟨w3, wdK ⟨w, T, Kk, Ff⟩ newW, rfl, by show 5 ≤ 15; decide, ?_⟩
    rw [wd_new]
    have dT := s3 _ _ (s2' _ _ upd_same)
    have dK := s3 _ _ upd_same
    have dF := upd_same (H := upd (upd (upd H w (HO.dK [])) T (HO.dK [])) Kk (HO.dT [])) (a := Ff) (o := HO.dK [])
    have nT0 : H T = none := s0.free nT
    have nK0 : H Kk = none := (s0.trans s1).free nK
    have nF0 : H Ff = none := (s0.trans (s1.trans s2')).free nF
    have e1 : w ≠ T := fun z => by rw [← z, upd_same] at nT; cases nT
    have e2 : w ≠ Kk := fun z => by rw [← z, s1 _ _ upd_same] at nK; cases nK
    have e3 : w ≠ Ff := fun z => by rw [← z, s2' _ _ (s1 _ _ upd_same)] at nF; cases nF
    have e4 : T ≠ Kk := fun z => by rw [← z, upd_same] at nK; cases nK
    have e5 : T ≠ Ff := fun z => by rw [← z, s2' _ _ upd_same] at nF; cases nF
    have e6 : Kk ≠ Ff := fun z => by rw [← z, upd_same] at nF; cases nF
    refine k ⟨w, T, Kk, Ff⟩ _ ?_ ⟨upd_same, ⟨[], by rw [upd_ne e1.symm]; exact dT, .nil⟩, by rw [upd_ne e2.symm]; exact dK, by rw [upd_ne e3.symm]; exact dF⟩ ?_ ?_
    · intro b o z
      rw [upd_ne (ne_of_none z nw)]
      exact s3 _ _ (s2' _ _ (s1 _ _ (s0 _ _ z)))
    · simp only [LA.S, List.nodup_cons, List.mem_cons, List.not_mem_nil, or_false, not_or]
      exact ⟨⟨e1, e2, e3⟩, ⟨e4, e5⟩, e6, fun z => z, List.nodup_nil⟩
    · intro x hx
      simp only [LA.S, List.mem_cons, List.not_mem_nil, or_false] at hx
      rcases hx with rfl | rfl | rfl | rfl
      · exact nw
      · exact nT0
      · exact nK0
      · exact nF0
end
end K07
namespace K07
open PySem PySem.Spec PyProof.Rows L2 LB OW
/-- a dict comprehension over a walk -/
theorem dc_it {J : It} {n : Nat} {G : Hp → Prop} {Y : Nat → Hp → V → Hp → Prop} (w : Walk J n G Y) {g : TG} {tt : TT} {tk tv : TE} {vs : List Nat} {σ : L2.St} {H1 : Hp} {D : Addr} {Qd : Hp → Prop} (Pv : Nat → Hp → Prop) (h0 : Pv 0 (upd H1 D (.dK []))) (hG : ∀ i H, i ≤ n → Pv i H → G H)
    (hs : ∀ i x H H', i < n → Pv i H → Y i H x H' → g x (wipe σ vs) H' fun σ2 H2 => wipe σ2 vs = wipe σ vs ∧ tt σ2 H2 fun b H3 =>
      if b = true then tk σ2 H3 fun y H4 => tv σ2 H4 fun z H5 => ∃ kvs k, y = kV k ∧ H5 D = some (.dK kvs) ∧ kvs.length < sizeLine ∧ Pv (i + 1) (upd H5 D (.dK (putK kvs k z))) else Pv (i + 1) H3) (hd : ∀ H, Pv n H → Qd H) :
    ∃ W : Nat → Nat → Hp → Prop, (∃ m, W 0 m (upd H1 D (.dK []))) ∧ ∀ i m H, W i m H →
      (J.stop i H ∧ Qd H) ∨ (J.go i H ∧ ∃ Nx : Hp → Prop, (∀ H', Nx H' → ∃ m', m' < m ∧ W (i + 1) m' H') ∧ ∀ x H', J.yld i H x H' → g x (wipe σ vs) H' fun σ2 H2 => wipe σ2 vs = wipe σ vs ∧ tt σ2 H2 fun b H3 =>
        if b = true then tk σ2 H3 fun y H4 => tv σ2 H4 fun z H5 => ∃ kvs k, y = kV k ∧ H5 D = some (.dK kvs) ∧ kvs.length < sizeLine ∧ Nx (upd H5 D (.dK (putK kvs k z))) else Nx H3) := by
  refine ⟨fun i m H => m = n - i ∧ i ≤ n ∧ Pv i H, ⟨n, by simp, Nat.zero_le _, h0⟩, ?_⟩
  rintro i m H ⟨rfl, hi, p⟩
  have q := hG i H hi p
  by_cases hlt : i < n
  · refine .inr ⟨w.goes i H hlt q, Pv (i + 1), fun H' p' => ⟨n - (i + 1), by omega, rfl, hlt, p'⟩, fun x H' y => hs i x H H' hlt p (w.yields i H x H' hlt q y)⟩
  · have e : i = n := by omega
    subst e
    exact .inl ⟨w.stops H q, hd H p⟩
theorem ch_free {x p : Addr} {u : HO} {H H' : Hp} (c : Ch [x] H H') (hx : H' x = some u) (n : H' p = none) : H p = none := by
  cases q : H p with
  | none => rfl
  | some v =>
    have ne : p ∉ [x] := fun m => by rw [List.mem_singleton.mp m, hx] at n; cases n
    rw [c.out p v ne q] at n
    cases n
/-- the six fields that _begin writes, one after another, whatever stood there -/
def f6 (n : Int) (F T S : Addr) (g c : Int) (fs : List (Str × V)) : List (Str × V) := putF "_calls" (.int c) (putF "_greatest_id" (.int g) (putF "_spent" (.ref S) (putF "_things" (.ref T) (putF "_fences" (.ref F) (putF "_moment" (.int n) fs)))))
theorem putF_len {f : Str} {v : V} {fs : List (Str × V)} : (putF f v fs).length ≤ fs.length + 1 := by
  induction fs with
  | nil => exact Nat.le_refl _
  | cons a fs ih =>
    unfold putF
    split
    · simp
    · simp only [List.length_cons]; omega
theorem put_f6 {kd : Addr} {n : Int} {F T S : Addr} {g c : Int} {fs : List (Str × V)} (h : FldsOk kd fs) : f6 n F T S g c fs = [(("_kinds" : Str), .ref kd), ("_moment", .int n), ("_fences", .ref F), ("_things", .ref T), ("_spent", .ref S), ("_greatest_id", .int g), ("_calls", .int c)] := by
  obtain ⟨⟨a1, a2, a3, a4, a5, a6⟩, ⟨b1, b2, b3, b4⟩, ⟨c1, c2, c3, c4, c5⟩, ⟨d1, d2, d3, d4, d5, d6⟩⟩ := of_ne
  unfold f6
  rcases h with rfl | ⟨B, O, rfl, rfl⟩
  · simp [putF, beq_ne a1, beq_ne a2, beq_ne a3, beq_ne a4, beq_ne a5, beq_ne a6, beq_ne b1, beq_ne b2, beq_ne b3, beq_ne b4, beq_ne c1, beq_ne c2, beq_ne c3, beq_ne c4, beq_ne c5, beq_ne d1, beq_ne d2, beq_ne d3, beq_ne d4, beq_ne d5, beq_ne d6]
  · simp [obF, putF, beq_ne a1, beq_ne a2, beq_ne a3, beq_ne a4, beq_ne a5, beq_ne a6, beq_ne b1, beq_ne b2, beq_ne b3, beq_ne b4, beq_ne c1, beq_ne c2, beq_ne c3, beq_ne c4, beq_ne c5, beq_ne d1, beq_ne d2, beq_ne d3, beq_ne d4, beq_ne d5, beq_ne d6]
theorem lk_put {f : Str} {v : V} {fs : List (Str × V)} : List.lookup f (putF f v fs) = some v := by
  induction fs with
  | nil => simp [putF, List.lookup]
  | cons a fs ih =>
    unfold putF
    split
    · rename_i e
      rw [List.lookup_cons, e, beq_self_eq_true]
    · rename_i e
      have : (f == a.1) = false := by
        simp only [beq_eq_false_iff_ne, ne_eq]
        exact fun q => e q.symm
      rw [List.lookup_cons, this]
      exact ih
theorem lk_put2 {f g : Str} {v : V} {fs : List (Str × V)} (h : (g == f) = false) : List.lookup g (putF f v fs) = List.lookup g fs := by
  induction fs with
  | nil => simp [putF, List.lookup, h]
  | cons a fs ih =>
    unfold putF
    split
    · rename_i e
      have : (g == a.1) = false := by rw [e]; exact h
      rw [List.lookup_cons, List.lookup_cons, this]
    · rw [List.lookup_cons, List.lookup_cons, ih]
theorem take_ids {ths : List Th} (nd : (ths.map (·.id)).Nodup) {i : Nat} {t : Th} (h : ths[i]? = some t) : t.id ∉ (ths.take i).map (·.id) := by
  intro hm
  obtain ⟨y, hy, e⟩ := List.mem_map.mp hm
  obtain ⟨j, hj⟩ := List.mem_iff_getElem?.mp hy
  have hjl := (List.getElem?_eq_some_iff.mp hj).1
  rw [List.length_take] at hjl
  have hil := (List.getElem?_eq_some_iff.mp h).1
  rw [List.getElem?_take_of_lt (by omega)] at hj
  have e1 : (ths.map (·.id))[j]? = some t.id := by rw [List.getElem?_map, hj]; exact congrArg some e
  have e2 : (ths.map (·.id))[i]? = some t.id := by rw [List.getElem?_map, h]; rfl
  have := (List.getElem?_inj (by rw [List.length_map]; omega) nd).mp (e1.trans e2.symm)
  omega
theorem take_self {ts : List Tk} (nd : ts.Nodup) {i : Nat} {t : Tk} (h : ts[i]? = some t) : t ∉ ts.take i := by
  intro hm
  obtain ⟨j, hj⟩ := List.mem_iff_getElem?.mp hm
  have hjl := (List.getElem?_eq_some_iff.mp hj).1
  rw [List.length_take] at hjl
  have hil := (List.getElem?_eq_some_iff.mp h).1
  rw [List.getElem?_take_of_lt (by omega)] at hj
  have := (List.getElem?_inj (by omega) nd).mp (hj.trans h.symm)
  omega
section
variable {P : Program} {w : World} {K : PySem.W.Frag} {mg : Str → Option Value} {base : Heap} {C pC pD pN : Addr} {eC eD : Array DictEntry} {nC nD : Nat}
/-- one more thing in the dict -/
theorem ths_put {H : Hp} {kvs : List (Key × V)} {ths : List Th} {t : Th} {a : Addr} (h : ThsR K H kvs ths) (n : t.id ∉ ths.map (·.id)) (ha : ThAt K H a t) : ThsR K H (putK kvs (Sum.inl t.id) (.ref a)) (ths ++ [t]) := by
  have e : valV kvs (Sum.inl t.id) = none := ths_none h (tfind_none.mpr fun u hu q => n (by rw [← q]; exact List.mem_map_of_mem hu))
  rw [put_new e]
  exact par_snoc h ⟨rfl, a, rfl, ha⟩
theorem spk_put {ts : List Tk} {t : Tk} (n : t ∉ ts) : putK (spK ts) (kPair t) (V.bl true) = spK (ts ++ [t]) := by
  have e : valV (spK ts) (kPair t) = none := by
    cases q : valV (spK ts) (kPair t) with
    | none => rfl
    | some v =>
      exfalso
      unfold valV at q
      cases z : (spK ts).find? (fun kv => decide (kv.1 = kPair t)) with
      | none => rw [z] at q; cases q
      | some kv =>
        obtain ⟨u, hu, rfl⟩ := List.mem_map.mp (List.mem_of_find?_eq_some z)
        have e2 : kPair u = kPair t := by have := List.find?_some z; simpa using this
        have e2 : [Sum.inl u.1, (Sum.inl u.2 : Key)] = [Sum.inl t.1, Sum.inl t.2] := e2
        injection e2 with z1 z2
        injection z2 with z2
        injection z1 with z1
        injection z2 with z2
        exact n (by rw [← Prod.ext z1 z2]; exact hu)
  rw [put_new e]
  unfold spK
  rw [List.map_append]
  rfl
theorem ok_Outside__begin {f : Addr} {fd : FuncData} (F : Fun K "_begin" "Outside._begin" s_Outside__begin f fd) (T : OTxt P w K mg C pC pD pN eC eD nC nD) : FnOk P w K mg base CX0 1 f fd ["self", "look"] (spBegin K C) := by
  refine F.ok sc_Outside__begin (fun vs H Q E h => ?_) (fun cdv A outer s H vs Q E hr h => ?_)
  · obtain ⟨x, dx, kd, l, fs0, mom, fs, ths, sp, rfl, _⟩ := h
    rfl
  · obtain ⟨x, dx, kd, l, fs0, mom, fs, ths, sp, rfl, hx, hf0, ⟨r, a, b, c, ps, as, ts, rfl, hl, ha, pp, hb, pa, hc, pt⟩, Sn, k⟩ := h
    have hu := hu_of hr
    have l0 : fs0.length < 100 := by
      rcases hf0 with rfl | ⟨B, O, _, rfl⟩
      · show 1 < 100; decide
      · show 7 < 100; decide
    refine ⟨_, (pss_cons (ps_asg (pv 1) (pg_tup (by rfl) (pgs_cons (pg_name (i := 2) sc_Outside__begin.nd rfl (Or.inl rfl)) (pgs_cons (pg_name (i := 3) sc_Outside__begin.nd rfl (Or.inl rfl)) (pgs_cons (pg_name (i := 4) sc_Outside__begin.nd rfl (Or.inl rfl)) (pgs_cons (pg_name (i := 5) sc_Outside__begin.nd rfl (Or.inl rfl)) pgs_nil))))))
    (pss_cons (ps_fld (pv 0) (pv 2) rfl)
    (pss_cons (ps_fld (pv 0) (pe_callTy (call_dictPT rfl) (by rfl) T.b_dict (by decide +kernel) (pa_cons (pv 3) pa_nil)) rfl)
    (pss_cons (ps_fld (pv 0) (pe_dc (own := [("thing", 6)]) rfl sc_Outside__begin.nd (pi_tup (pv 4)) (blkOk_by (own := [("thing", 6)]) (N := N_Outside__begin) (sc := defScope s_Outside__begin) (by decide +kernel)) (fun _ _ _ _ _ => (pg_name (i := 6) sc_Outside__begin.nd rfl (Or.inl rfl))) (fun _ _ _ _ _ => pts_nil) (fun _ _ _ _ _ => (pe_ix (ix_tup : IxR _ (rIxT K)) (pv 6) pe_int (fun _ _ => rfl))) (fun _ _ _ _ _ => (pv 6))) rfl)
    (pss_cons (ps_fld (pv 0) (pe_dcT (own := [("token", 7)]) rfl sc_Outside__begin.nd (pi_tup (pv 5)) (blkOk_by (own := [("token", 7)]) (N := N_Outside__begin) (sc := defScope s_Outside__begin) (by decide +kernel)) (fun _ _ _ _ _ => (pg_name (i := 7) sc_Outside__begin.nd rfl (Or.inl rfl))) (fun _ _ _ _ _ => (pv 7)) (fun _ _ _ _ _ => pe_bl) hu) rfl)
    (pss_cons (ps_fld (pv 0) (pe_callB (cr_max rfl) (by rfl) T.b_max (by decide +kernel) (pa_cons (pe_op op_cat (pe_lst (pa_cons (pv 2) pa_nil)) (pe_callTy (call_list_dK rfl) (by rfl) T.b_list (by decide +kernel) (pa_cons (pe_fld (pv 0) rfl) pa_nil))) pa_nil)) rfl)
    (pss_one (ps_fld (pv 0) pe_int rfl)))))))), ?_⟩
    refine ⟨_, rfl, r, _, rfl, hl, rfl, _, _, rfl, _, _, rfl, _, _, rfl, _, _, rfl, rfl, ?_⟩
    refine ⟨_, rfl, _, rfl, x, C, dx, _, rfl, hx, T.cl, T.n_moment, by omega, ?_⟩
    have e0 : ∀ F T S g c, putF "_calls" (.int c) (putF "_greatest_id" (.int g) (putF "_spent" (.ref S) (putF "_things" (.ref T) (putF "_fences" (.ref F) (putF "_moment" (.int mom) fs0))))) = obF ⟨x, dx, kd, F, T, S, []⟩ ⟨ths, sp, fs, mom, g, c⟩ := fun F T S g c => put_f6 hf0
    obtain ⟨fs1, efs1⟩ : ∃ z, z = putF "_moment" (.int mom) fs0 := ⟨_, rfl⟩
    have l1 : fs1.length < 101 := by rw [efs1]; exact Nat.lt_of_le_of_lt putF_len (by omega)
    rw [← efs1] at e0 ⊢
    have c1 : Ch [x] H (upd H x (.ins C dx fs1)) := .put hx (fun z => z) (by simp)
    have x1 := upd_same (H := H) (a := x) (o := HO.ins C dx fs1)
    generalize upd H x (.ins C dx fs1) = H1 at c1 x1
    -- fences
    refine ⟨_, rfl, a, ps, itK fs, rfl, pl_kp ha c1.kp, ?_, fun dF nF => ?_⟩
    · have : ∀ {ps : List Addr} {fs : List (Int × Int)}, Paired (fun p (f : Int × Int) => SqT K H p [.int f.1, .int f.2]) ps fs → Paired (fun p (kv : Key × V) => SqT K H1 p [kV kv.1, kv.2]) ps (itK fs) := fun h => by
        induction h with
        | nil => exact .nil
        | cons u v ih => exact .cons (sq_kp u c1.kp) ih
      exact this pp
    rw [merge_it Sn.kF]
    have sF : Same H1 (upd H1 dF (.dK (itK fs))) := same_upd nF
    have xF := sF _ _ x1
    have hF := upd_same (H := H1) (a := dF) (o := HO.dK (itK fs))
    have nFH : H dF = none := ch_free c1 x1 nF
    refine ⟨_, rfl, x, C, dx, _, rfl, xF, T.cl, T.n_fences, by omega, ?_⟩
    obtain ⟨fs2, efs2⟩ : ∃ z, z = putF "_fences" (.ref dF) fs1 := ⟨_, rfl⟩
    have l2 : fs2.length < 102 := by rw [efs2]; exact Nat.lt_of_le_of_lt putF_len (by omega)
    have e1 := e0 dF
    rw [← efs2] at e1 ⊢
    have c2 : Ch [x] H _ := (c1.trans (.of_same sF)).trans (.put (o := .ins C dx fs2) xF (fun z => z) (by simp))
    have dFx : dF ≠ x := fun q => by rw [q, x1] at nF; cases nF
    have hF2 : upd (upd H1 dF (.dK (itK fs))) x (.ins C dx fs2) dF = some (.dK (itK fs)) := by rw [upd_ne dFx]; exact hF
    have x2 : upd (upd H1 dF (.dK (itK fs))) x (.ins C dx fs2) x = some (.ins C dx fs2) := upd_same
    generalize upd (upd H1 dF (.dK (itK fs))) x (.ins C dx fs2) = H2 at c2 hF2 x2
    clear hF xF sF nF
    -- things
    have la : as.length = ths.length := pa.length
    refine ⟨_, rfl, b, rfl, ⟨_, sq_kp hb c2.kp⟩, fun dT nT => dc_tup (K := K) (a := b) (xs := as.map V.ref) (fun i H' => Same H2 H' ∧ ∃ kvs, H' dT = some (.dK kvs) ∧ ThsR K H' kvs (ths.take i)) ⟨same_upd nT, [], upd_same, .nil⟩ (fun i H' _ ⟨s, _⟩ => sq_kp hb (c2.kp.trans (.of_same s))) ?_ fun H3 ⟨sT, kvs, hT3, rT⟩ => ?_⟩
    · rintro i y H3 hy ⟨s3, kvs, hT3, rT⟩
      obtain ⟨p, hp, rfl⟩ : ∃ p, as[i]? = some p ∧ V.ref p = y := by
        rw [List.getElem?_map] at hy
        cases e : as[i]? with
        | none => rw [e] at hy; cases hy
        | some n => rw [e] at hy; exact ⟨n, rfl, Option.some.inj hy⟩
      obtain ⟨th, ht, hA⟩ := par_at pa hp
      have hi := (List.getElem?_eq_some_iff.mp ht).1
      have hA3 := th_kp hA (c2.kp.trans (.of_same s3))
      obtain ⟨va, ta, st, _⟩ := id hA3
      have kp : Kp H3 (upd H3 dT (.dK (putK kvs (Sum.inl th.id) (.ref p)))) := .put hT3 (fun z => z)
      have lk : kvs.length = i := by
        have := rT.length
        rw [List.length_take] at this
        omega
      refine ⟨rfl, _, rfl, p, _, _, _, rfl, rfl, st, atI_nat (j := 0) rfl, _, rfl, kvs, Sum.inl th.id, rfl, hT3, by rw [lk]; have := Sn.lT; exact Nat.lt_trans (show i < 60 by omega) (by decide), fun b o e => ?_, _, upd_same, ?_⟩
      · rw [upd_ne (ne_of_none e nT)]
        exact s3 _ _ e
      · rw [List.take_add_one, ht]
        exact ths_put (ths_kp rT kp) (take_ids Sn.ids ht) (th_kp hA3 kp)
    rw [List.length_map, la, List.take_length] at rT
    have nTH : H dT = none := ch_free c2 x2 nT
    refine ⟨_, rfl, x, C, dx, _, rfl, sT _ _ x2, T.cl, T.n_things, by omega, ?_⟩
    obtain ⟨fs3, efs3⟩ : ∃ z, z = putF "_things" (.ref dT) fs2 := ⟨_, rfl⟩
    have l3 : fs3.length < 103 := by rw [efs3]; exact Nat.lt_of_le_of_lt putF_len (by omega)
    have e2 := e1 dT
    have lk3 : List.lookup ("_things" : Str) fs3 = some (.ref dT) := by rw [efs3]; exact lk_put
    rw [← efs3] at e2 ⊢
    have dTx : dT ≠ x := fun q => by rw [q, x2] at nT; cases nT
    have dTF : dF ≠ dT := fun q => by rw [← q, hF2] at nT; cases nT
    have cx : Ch [x] H3 (upd H3 x (.ins C dx fs3)) := .put (sT _ _ x2) (fun z => z) (by simp)
    have c3 : Ch [x] H (upd H3 x (.ins C dx fs3)) := (c2.trans (.of_same sT)).trans cx
    have hF3 : upd H3 x (.ins C dx fs3) dF = some (.dK (itK fs)) := by rw [upd_ne dFx]; exact sT _ _ hF2
    have hT4 : upd H3 x (.ins C dx fs3) dT = some (.dK kvs) := by rw [upd_ne dTx]; exact hT3
    have rT4 := ths_kp rT cx.kp
    have x3 : upd H3 x (.ins C dx fs3) x = some (.ins C dx fs3) := upd_same
    generalize upd H3 x (.ins C dx fs3) = H4 at cx c3 hF3 hT4 rT4 x3
    clear sT nT x2 hF2 c2 hT3 rT cx
    -- spent
    have lt : ts.length = sp.length := pt.length
    refine ⟨_, rfl, c, rfl, ⟨_, sq_kp hc c3.kp⟩, fun dS nS => ⟨fun i m H' => m = ts.length - i ∧ i ≤ ts.length ∧ Same H4 H' ∧ H' dS = some (.dT (spK (sp.take i))), ⟨ts.length, rfl, Nat.zero_le _, same_upd nS, upd_same⟩, ?_⟩⟩
    rintro i m H5 ⟨rfl, hi, s5, hS5⟩
    have sqc := sq_kp hc (c3.kp.trans (.of_same s5))
    rcases Nat.lt_or_ge i ts.length with hlt | hge
    · -- one more token
      obtain ⟨p, hp⟩ : ∃ p, ts[i]? = some p := ⟨_, List.getElem?_eq_getElem hlt⟩
      obtain ⟨tk, htk, hP⟩ := par_at pt hp
      have hx2 : (ts.map V.ref)[i]? = some (.ref p) := by rw [List.getElem?_map, hp]; rfl
      refine .inr ⟨⟨_, _, sqc, hx2⟩, fun H' => Same H4 H' ∧ H' dS = some (.dT (spK (sp.take (i + 1)))), fun H' ⟨a1, a2⟩ => ⟨ts.length - (i + 1), by omega, rfl, hlt, a1, a2⟩, fun y H' ⟨eH, hy⟩ => ?_⟩
      subst eH
      have ey : V.ref p = y := by
        have := hy _ sqc
        rw [hx2] at this
        exact Option.some.inj this
      subst ey
      have hP5 := (c3.kp.trans (.of_same s5)) p (.tup [.int tk.1, .int tk.2]) trivial hP
      have lsp : (spK (sp.take i)).length = i := by
        unfold spK
        rw [List.length_map, List.length_take]
        omega
      refine ⟨rfl, _, rfl, spK (sp.take i), kPair tk, p, rfl, hP5, hS5, by rw [lsp]; have := Sn.lS; exact Nat.lt_trans (show i < 60 by omega) (by decide), fun b o e => ?_, ?_⟩
      · rw [upd_ne (ne_of_none e nS)]
        exact s5 _ _ e
      · rw [upd_same, spk_put (take_self Sn.ndS htk), List.take_add_one, htk]
        rfl
    have ei : i = ts.length := Nat.le_antisymm hi hge
    subst ei
    rw [lt, List.take_length] at hS5
    refine .inl ⟨⟨_, sqc, by rw [List.length_map]; exact Nat.le_refl _⟩, ?_⟩
    have nSH : H dS = none := ch_free c3 x3 nS
    refine ⟨_, rfl, x, C, dx, _, rfl, s5 _ _ x3, T.cl, T.n_spent, by omega, ?_⟩
    obtain ⟨fs4, efs4⟩ : ∃ z, z = putF "_spent" (.ref dS) fs3 := ⟨_, rfl⟩
    have l4 : fs4.length < 104 := by rw [efs4]; exact Nat.lt_of_le_of_lt putF_len (by omega)
    have e3 := e2 dS
    have lk4 : List.lookup ("_things" : Str) fs4 = some (.ref dT) := by rw [efs4]; exact (lk_put2 (by decide +kernel)).trans lk3
    rw [← efs4] at e3 ⊢
    have dSx : dS ≠ x := fun q => by rw [q, x3] at nS; cases nS
    have dSF : dF ≠ dS := fun q => by rw [← q, hF3] at nS; cases nS
    have dST : dT ≠ dS := fun q => by rw [← q, hT4] at nS; cases nS
    have cx : Ch [x] H5 (upd H5 x (.ins C dx fs4)) := .put (s5 _ _ x3) (fun z => z) (by simp)
    have c4 : Ch [x] H (upd H5 x (.ins C dx fs4)) := (c3.trans (.of_same s5)).trans cx
    have hF5 : upd H5 x (.ins C dx fs4) dF = some (.dK (itK fs)) := by rw [upd_ne dFx]; exact s5 _ _ hF3
    have hT5 : upd H5 x (.ins C dx fs4) dT = some (.dK kvs) := by rw [upd_ne dTx]; exact s5 _ _ hT4
    have rT5 := ths_kp rT4 ((Kp.of_same s5).trans cx.kp)
    have hS6 : upd H5 x (.ins C dx fs4) dS = some (.dT (spK sp)) := by rw [upd_ne dSx]; exact hS5
    have x4 : upd H5 x (.ins C dx fs4) x = some (.ins C dx fs4) := upd_same
    generalize upd H5 x (.ins C dx fs4) = H6 at cx c4 hF5 hT5 rT5 hS6 x4
    clear cx c3 s5 nS x3 hF3 hT4 rT4 hS5 sqc
    -- the greatest id
    have kk : (kvs.map fun kv => kV kv.1) = (ths.map (·.id)).map V.int := by
      have := congrArg (List.map kV) (ths_keys rT5)
      rw [List.map_map, List.map_map] at this
      exact this
    have lv : kvs.length = ths.length := rT5.length
    refine ⟨_, rfl, by show 1 ≤ sizeLine; decide, fun p1 n1 => ?_⟩
    have s1 := same_upd (o := HO.lst [V.int mom]) n1
    refine ⟨_, rfl, x, C, dx, _, _, rfl, s1 _ _ x4, T.cl, T.n_things, lk4, dT, kvs, rfl, s1 _ _ hT5, fun p2 n2 => ?_⟩
    rw [kk]
    have s2 := same_upd (o := HO.lst ((ths.map (·.id)).map V.int)) n2
    have lm : ([V.int mom]).length + ((ths.map (·.id)).map V.int).length < 61 := by
      have := Sn.lT
      rw [List.length_map, List.length_map]
      show 1 + _ < 61
      omega
    refine ⟨p1, p2, _, _, rfl, rfl, s2 _ _ upd_same, upd_same, Nat.le_trans (Nat.le_of_lt lm) (by decide), fun p3 n3 => ?_⟩
    have s3 := same_upd (o := HO.lst ([V.int mom] ++ (ths.map (·.id)).map V.int)) n3
    refine ⟨p3, mom :: ths.map (·.id), rfl, SqL.of upd_same, by simp, fun g hg hmax => ?_⟩
    have s13 := s1.trans (s2.trans s3)
    refine ⟨_, rfl, x, C, dx, _, rfl, s13 _ _ x4, T.cl, T.n_grt, by omega, ?_⟩
    obtain ⟨H7, eH7⟩ : ∃ z, z = upd (upd (upd H6 p1 (.lst [V.int mom])) p2 (.lst ((ths.map (·.id)).map V.int))) p3 (.lst ([V.int mom] ++ (ths.map (·.id)).map V.int)) := ⟨_, rfl⟩
    rw [← eH7] at s13 ⊢
    obtain ⟨fs5, efs5⟩ : ∃ z, z = putF "_greatest_id" (.int g) fs4 := ⟨_, rfl⟩
    have l5 : fs5.length < 105 := by rw [efs5]; exact Nat.lt_of_le_of_lt putF_len (by omega)
    have e4 := e3 g
    rw [← efs5] at e4 ⊢
    refine ⟨_, rfl, x, C, dx, _, rfl, upd_same, T.cl, T.n_calls, by omega, ?_⟩
    rw [upd_upd, e4]
    have far : ∀ y u, y ≠ x → H6 y = some u → upd H7 x (.ins C dx (obF ⟨x, dx, kd, dF, dT, dS, []⟩ ⟨ths, sp, fs, mom, g, 0⟩)) y = some u := fun y u n e => by
      rw [upd_ne n]
      exact s13 _ _ e
    have c7 : Ch [x] H (upd H7 x (.ins C dx (obF ⟨x, dx, kd, dF, dT, dS, []⟩ ⟨ths, sp, fs, mom, g, 0⟩))) := (c4.trans (.of_same s13)).trans (.put (s13 _ _ x4) (fun z => z) (by simp))
    have k67 : Kp H6 (upd H7 x (.ins C dx (obF ⟨x, dx, kd, dF, dT, dS, []⟩ ⟨ths, sp, fs, mom, g, 0⟩))) := (Kp.of_same s13).trans (.put (s13 _ _ x4) (fun z => z))
    exact k dF dT dS g _ c7 upd_same (far _ _ dFx hF5) ⟨kvs, far _ _ dTx hT5, ths_kp rT5 k67⟩ (far _ _ dSx hS6) nFH nTH nSH dTF dSF dST hg (hmax _ List.mem_cons_self) fun t ht => hmax _ (List.mem_cons_of_mem _ (List.mem_map_of_mem ht))
theorem ok_Outside___init__ {f : Addr} {fd : FuncData} (F : Fun K "__init__" "Outside.__init__" s_Outside___init__ f fd) (T : OTxt P w K mg C pC pD pN eC eD nC nD)
    {f1 : Addr} {fd1 : FuncData} (m__begin : Meth K C "_begin" f1) (G__begin : FnOk P w K mg base CX0 1 f1 fd1 ["self", "look"] (spBegin K C)) (b__begin : Binds K fd1 ["self", "look"] []) :
    FnOk P w K mg base CX0 2 f fd ["self", "kinds"] (spOInit K C) := by
  refine F.ok sc_Outside___init__ (fun vs H Q E h => ?_) (fun cdv A outer s H vs Q E hr h => ?_)
  · obtain ⟨x, dx, kd0, ds0, kn, rfl, _⟩ := h
    rfl
  · obtain ⟨x, dx, kd0, ds0, kn, rfl, hx, hK0, hnd0, hnn, hlk, k⟩ := h
    have hu := hu_of hr
    refine ⟨_, (pss_cons (ps_fld (pv 0) (pe_lock (pe_dc (g := (gTup K 2 (gCons (gName 2) (gCons (gName 3) gNil)))) (own := [("kind", 2), ("fields", 3)]) rfl sc_Outside___init__.nd (pi_items (pv 1)) (blkOk_by (own := [("kind", 2), ("fields", 3)]) (N := N_Outside___init__) (sc := defScope s_Outside___init__) (by decide +kernel)) (fun _ _ _ _ _ => (pg_tup (by rfl) (pgs_cons (pg_name (i := 2) sc_Outside___init__.nd rfl (Or.inl rfl)) (pgs_cons (pg_name (i := 3) sc_Outside___init__.nd rfl (Or.inl rfl)) pgs_nil)))) (fun _ _ _ _ _ => pts_nil) (fun _ _ _ _ _ => (pv 2)) (fun _ _ _ _ _ => (pe_callTy call_dictD (by rfl) T.b_dict (by decide +kernel) (pa_cons (pv 3) pa_nil))))) rfl)
    (pss_one (ps_expr (pe_meth (pv 0) T.cl m__begin G__begin (hr.mono (by decide)) b__begin .nil pass0 (pa_cons (pe_tup (pa_cons pe_int (pa_cons (pe_tupF pa_nil) (pa_cons (pe_tup pa_nil) (pa_cons (pe_tup pa_nil) pa_nil))))) pa_nil))))), ?_⟩
    obtain ⟨kvs, top0, ekv⟩ := hK0.top
    have hl0 := hK0.len
    have x0 : x ≠ kd0 := fun q => by rw [q, top0] at hx; cases hx
    refine ⟨kd0, _, top0, trivial, fun od => ?_⟩
    have lenkv : kvs.length = kn.length := by rw [ekv, List.length_map, List.length_zip]; omega
    have hL : upd H kd0 (.frz od (.dK kvs)) kd0 = some (.frz od (.dK kvs)) := upd_same
    have kpL : Kp H (upd H kd0 (.frz od (.dK kvs))) := .put top0 (fun z => z)
    have d0L : ∀ (i : Nat) (d : Addr) (e : Str × List FT), ds0[i]? = some d → kn[i]? = some e → ∃ fvs, upd H kd0 (.frz od (.dK kvs)) d = some (.dK fvs) ∧ FldR K (upd H kd0 (.frz od (.dK kvs))) fvs e.2 := fun i d e h1 h2 => by
      obtain ⟨fvs, q, r⟩ := hK0.fld i d e h1 h2
      exact ⟨fvs, by rw [upd_ne (fun z => hnd0 (by rw [← z]; exact List.mem_of_getElem? h1))]; exact q, fld_kp r kpL⟩
    refine ⟨_, rfl, kd0, od, kvs, rfl, hL, fun D hD => dc_it walk_items (fun i H' => ∃ ds : List Addr, Same (upd H kd0 (.frz od (.dK kvs))) H' ∧ KndAt K H' D ds (kn.take i) ∧ D ∉ ds ∧ ds.Nodup ∧ ∀ y ∈ ds, upd H kd0 (.frz od (.dK kvs)) y = none)
      ⟨[], same_upd hD, ⟨⟨_, upd_same, rfl⟩, rfl, fun i d e h => by simp at h⟩, by simp, List.nodup_nil, fun x h => by cases h⟩ (fun i H' _ ⟨_, s, _⟩ => s _ _ hL) ?_ ?_⟩
    · rintro i y H1 H2 hi ⟨ds, s1, hK, hDn, hdn, hdf⟩ ⟨p, vk, vd, rfl, np, rfl, ek, ed⟩
      have hi2 : i < kn.length := by omega
      obtain ⟨e, he⟩ : ∃ e, kn[i]? = some e := ⟨_, List.getElem?_eq_getElem hi2⟩
      obtain ⟨d0, hd0⟩ : ∃ d, ds0[i]? = some d := ⟨_, List.getElem?_eq_getElem (show i < ds0.length by omega)⟩
      have hkv : kvs[i]? = some (Sum.inr e.1, V.ref d0) := by
        rw [ekv, List.getElem?_map, (List.getElem?_zip_eq_some (z := (e, d0))).mpr ⟨he, hd0⟩]
        rfl
      have ek : Option.map (fun kv : Key × V => kV kv.1) kvs[i]? = some vk := ek
      have ed : Option.map Prod.snd kvs[i]? = some vd := ed
      rw [hkv] at ek ed
      have ek : V.str e.1 = vk := Option.some.inj ek
      have ed : V.ref d0 = vd := Option.some.inj ed
      subst ek ed
      have sp := same_upd (o := HO.tup [V.str e.1, .ref d0]) np
      obtain ⟨fvs, q0, r0⟩ := d0L i d0 e hd0 he
      have s2 := s1.trans sp
      obtain ⟨kvs1, h1, h2⟩ := hK.top
      have hl := hK.len
      have hlt : (kn.take i).length = i := by rw [List.length_take]; omega
      have lkv : kvs1.length = i := by
        rw [h2, List.length_map, List.length_zip]
        omega
      have hne := take_names hnn he
      refine ⟨p, _, rfl, .of upd_same, rfl, _, _, rfl, _, _, rfl, rfl, rfl, _, rfl, ?_⟩
      refine ⟨_, rfl, d0, fvs, rfl, .inl (s2 _ _ q0), fun d nd => ⟨kvs1, Sum.inr e.1, rfl, ?_, ?_, ?_⟩⟩
      · exact same_upd nd _ _ (sp _ _ h1)
      · rw [lkv]; exact Nat.lt_trans (show i < 60 by omega) (by decide)
      have sd := same_upd (o := HO.dK fvs) nd
      have s3 := s2.trans sd
      have dD : d ≠ D := fun z => by rw [z, sp _ _ h1] at nd; cases nd
      have dds : d ∉ ds := fun m => by
        obtain ⟨j, hj⟩ := List.mem_iff_getElem?.mp m
        have hj2 := (List.getElem?_eq_some_iff.mp hj).1
        obtain ⟨fv, q, _⟩ := hK.fld j d ((kn.take i)[j]'(by omega)) hj (List.getElem?_eq_getElem (by omega))
        rw [sp _ _ q] at nd
        cases nd
      have hdH : upd H kd0 (.frz od (.dK kvs)) d = none := s2.free nd
      have hDH : (upd (upd H1 p (.tup [V.str e.1, .ref d0])) d (.dK fvs)) D = some (.dK kvs1) := sd _ _ (sp _ _ h1)
      have kp3 : Kp H1 (upd (upd (upd H1 p (.tup [V.str e.1, .ref d0])) d (.dK fvs)) D (.dK (putK kvs1 (Sum.inr e.1) (.ref d)))) := ((Kp.of_same sp).trans (.of_same sd)).trans (.put hDH (fun z => z))
      have kpF : Kp (upd H kd0 (.frz od (.dK kvs))) (upd (upd (upd H1 p (.tup [V.str e.1, .ref d0])) d (.dK fvs)) D (.dK (putK kvs1 (Sum.inr e.1) (.ref d)))) := (Kp.of_same s1).trans kp3
      refine ⟨ds ++ [d], fun b o z => ?_, ⟨⟨_, upd_same, ?_⟩, ?_, fun j y z hj hz => ?_⟩, fun m => ?_, ?_, fun y hm => ?_⟩
      · rw [upd_ne (fun z2 => by rw [z2, hD] at z; cases z)]
        exact s3 _ _ z
      · rw [h2, kn_put (by rw [hl]) hne, List.take_add_one, he]
        rfl
      · rw [List.length_append, hl, List.length_take, List.length_take]
        show _ + 1 = _
        omega
      · by_cases hji : j < ds.length
        · rw [List.getElem?_append_left hji] at hj
          have hz2 : (kn.take i)[j]? = some z := by
            rw [List.getElem?_take_of_lt (by omega)] at hz
            rw [List.getElem?_take_of_lt (by omega)]
            exact hz
          obtain ⟨fv, q, r⟩ := hK.fld j y z hj hz2
          have yD : y ≠ D := fun z3 => hDn (by rw [← z3]; exact List.mem_of_getElem? hj)
          have yd : y ≠ d := fun z3 => dds (by rw [← z3]; exact List.mem_of_getElem? hj)
          exact ⟨fv, by rw [upd_ne yD, upd_ne yd]; exact sp _ _ q, fld_kp r kp3⟩
        · have ej : j = ds.length := by
            have := (List.getElem?_eq_some_iff.mp hj).1
            rw [List.length_append] at this
            simp at this
            omega
          subst ej
          rw [List.getElem?_append_right (Nat.le_refl _), Nat.sub_self] at hj
          have hj : d = y := Option.some.inj hj
          subst hj
          rw [List.getElem?_take_of_lt (by omega), show ds.length = i by omega, he] at hz
          cases hz
          exact ⟨fvs, by rw [upd_ne dD]; exact upd_same, fld_kp r0 kpF⟩
      · rcases List.mem_append.mp m with m | m
        · exact hDn m
        · exact dD (List.mem_singleton.mp m).symm
      · rw [List.nodup_append]
        exact ⟨hdn, by simp, fun a ha b hb => by rw [List.mem_singleton.mp hb]; exact fun z => dds (by rw [← z]; exact ha)⟩
      · rcases List.mem_append.mp hm with m | m
        · exact hdf y m
        · rw [List.mem_singleton.mp m]; exact hdH
    · rintro H1 ⟨ds, s1, hK, hDn, hdn, hdf⟩
      rw [lenkv, List.take_length] at hK
      refine ⟨s1 _ _ hL, ?_⟩
      have sU : Same H (upd H1 kd0 (.dK kvs)) := same_unlock top0 s1
      have hfree : ∀ y, upd H kd0 (.frz od (.dK kvs)) y = none → H y = none := fun y e => by
        by_cases z : y = kd0
        · rw [z, hL] at e; cases e
        · rw [upd_ne z] at e; exact e
      have hD2 : H D = none := hfree D hD
      have hK2 : KndAt K (upd H1 kd0 (.dK kvs)) D ds kn := hK.out (.put (s1 _ _ hL) (fun z => z)) (upd_ne fun z => by rw [z, top0] at hD2; cases hD2) fun d hd => upd_ne fun z => by
        have := hfree d (hdf d hd)
        rw [z, top0] at this
        cases this
      generalize upd H1 kd0 (.dK kvs) = H2 at sU hK2
      have x2 := sU _ _ hx
      refine ⟨_, rfl, x, C, dx, _, rfl, x2, T.cl, T.n_kinds, by show 0 < 1000; decide, ?_⟩
      rw [show putF "_kinds" (.ref D) [] = [(("_kinds" : Str), V.ref D)] from rfl]
      have cx : Ch [x] H2 (upd H2 x (.ins C dx [(("_kinds" : Str), V.ref D)])) := .put x2 (fun z => z) (by simp)
      have x3 := upd_same (H := H2) (a := x) (o := HO.ins C dx [(("_kinds" : Str), V.ref D)])
      have c3 : Ch [x] H _ := (Ch.of_same sU).trans cx
      have xD : x ∉ D :: ds := fun m => by
        rcases List.mem_cons.mp m with m | m
        · rw [m, hD2] at hx; cases hx
        · rw [hfree x (hdf x m)] at hx; cases hx
      have hK3 := hK2.ch cx (fun a m => by rw [List.mem_singleton.mp m]; exact xD)
      generalize upd H2 x (.ins C dx [(("_kinds" : Str), V.ref D)]) = H3 at cx x3 c3 hK3
      have nb : (("_begin" : Str) == "_kinds") = false := by decide +kernel
      refine ⟨_, rfl, x, dx, _, rfl, x3, by simp [List.lookup, nb], ?_⟩
      refine ⟨Nat.zero_le _, fun pa oa na ea => ⟨Nat.zero_le _, fun pb nb2 => ⟨Nat.zero_le _, fun pc nc => ⟨by show 4 ≤ sizeLine; decide, fun pl nl => ?_⟩⟩⟩⟩
      have sa := same_upd (o := HO.frz oa (.tup [])) na
      have sb := same_upd (o := HO.tup []) nb2
      have sc := same_upd (o := HO.tup []) nc
      have sl := same_upd (o := HO.tup [V.int 0, .ref pa, .ref pb, .ref pc]) nl
      have s4 : Same H3 _ := sa.trans (sb.trans (sc.trans sl))
      have lk : LookAt K (upd (upd (upd (upd H3 pa (.frz oa (.tup []))) pb (.tup [])) pc (.tup [])) pl (.tup [V.int 0, .ref pa, .ref pb, .ref pc])) (.ref pl) 0 [] [] [] := ⟨pl, pa, pb, pc, [], [], [], rfl, .of upd_same, ⟨oa, sl _ _ (sc _ _ (sb _ _ upd_same)), ea⟩, .nil, .of (sl _ _ (sc _ _ upd_same)), .nil, .of (sl _ _ upd_same), .nil⟩
      refine ⟨x, dx, D, .ref pl, _, 0, [], [], [], rfl, s4 _ _ x3, .inl rfl, lk, ⟨List.nodup_nil, List.nodup_nil, List.nodup_nil, by decide, by decide, by decide⟩, fun dF dT dS g H' cH x5 hF hT hS nF nT nS n1 n2 n3 hg _ _ => ?_⟩
      have eg : g = 0 := List.mem_singleton.mp hg
      subst eg
      have hK5 := (hK3.same s4).ch cH (fun a m => by rw [List.mem_singleton.mp m]; exact xD)
      have liveK : ∀ y ∈ D :: ds, ∃ u, H3 y = some u := fun y hy => by
        rcases List.mem_cons.mp hy with hy | hy
        · obtain ⟨_, q, _⟩ := hK3.top
          exact ⟨_, by rw [hy]; exact q⟩
        · obtain ⟨j, hj⟩ := List.mem_iff_getElem?.mp hy
          have hj2 := (List.getElem?_eq_some_iff.mp hj).1
          have hl := hK3.len
          obtain ⟨fv, q, _⟩ := hK3.fld j y (kn[j]'(by omega)) hj (List.getElem?_eq_getElem (by omega))
          exact ⟨_, q⟩
      have fresh : ∀ z : Addr, (upd (upd (upd (upd H3 pa (.frz oa (.tup []))) pb (.tup [])) pc (.tup [])) pl (.tup [V.int 0, .ref pa, .ref pb, .ref pc])) z = none → H z = none ∧ z ≠ x ∧ z ∉ D :: ds := fun z hz => by
        have h3 : H3 z = none := s4.free hz
        refine ⟨ch_free c3 x3 h3, fun q => (by rw [q, x3] at h3; cases h3), fun m => ?_⟩
        obtain ⟨u, hu⟩ := liveK z m
        rw [hu] at h3
        cases h3
      obtain ⟨f1, f2, f3⟩ := fresh dF nF
      obtain ⟨t1, t2, t3⟩ := fresh dT nT
      obtain ⟨g1, g2, g3⟩ := fresh dS nS
      refine k ⟨x, dx, D, dF, dT, dS, ds⟩ H' rfl rfl ((c3.trans (.of_same s4)).trans cH) ⟨x5, hT, hS, hF, hK5, ?_, fun a m => ?_⟩ fun y m => ?_
      · simp only [OA.S, List.nodup_cons, List.mem_cons, List.not_mem_nil, or_false, not_or, not_false_eq_true, List.nodup_nil, and_true]
        exact ⟨⟨f2.symm, t2.symm, g2.symm⟩, ⟨n1, n2⟩, n3⟩
      · simp only [OA.S, List.mem_cons, List.not_mem_nil, or_false] at m
        rcases m with rfl | rfl | rfl | rfl
        · exact xD
        · exact f3
        · exact t3
        · exact g3
      · rcases List.mem_cons.mp m with rfl | m
        · exact f1
        rcases List.mem_cons.mp m with rfl | m
        · exact t1
        rcases List.mem_cons.mp m with rfl | m
        · exact g1
        rcases List.mem_cons.mp m with rfl | m
        · exact hD2
        · exact hfree y (hdf y m)
theorem ok_outside_of {f : Addr} {fd : FuncData} (F : Fun K "outside_of" "outside_of" s_outside_of f fd) (T : OTxt P w K mg C pC pD pN eC eD nC nD)
    {f0 f1 : Addr} {fd0 fd1 : FuncData} (MK_Outside : Mk K C f0) (G_Outside___init__ : FnOk P w K mg base CX0 2 f0 fd0 ["self", "kinds"] (spOInit K C)) (b_Outside___init__ : Binds K fd0 ["self", "kinds"] [])
    (m__begin : Meth K C "_begin" f1) (G__begin : FnOk P w K mg base CX0 1 f1 fd1 ["self", "look"] (spBegin K C)) (b__begin : Binds K fd1 ["self", "look"] []) :
    FnOk P w K mg base CX0 4 f fd ["kinds", "look"] (spOutsideOf K C) := by
  refine F.ok sc_outside_of (fun vs H Q E h => ?_) (fun cdv A outer s H vs Q E hr h => ?_)
  · obtain ⟨kd0, ds0, kn, l, mom, fs, ths, sp, rfl, _⟩ := h
    rfl
  · obtain ⟨kd0, ds0, kn, l, mom, fs, ths, sp, rfl, hK0, hnd0, hnn, hlk, hL, hSn, k⟩ := h
    refine ⟨_, (pss_cons (ps_set (i := 2) sc_outside_of.nd rfl (Or.inl rfl) (pe_make MK_Outside G_Outside___init__ (hr.mono (by decide)) (by rfl) T.g_Outside b_Outside___init__ .nil pass0 (pa_cons (pv 0) pa_nil)))
    (pss_cons (ps_expr (pe_meth (pv 2) T.cl m__begin G__begin (hr.mono (by decide)) b__begin .nil pass0 (pa_cons (pv 1) pa_nil)))
    (pss_one (ps_ret (pv 2))))), ?_⟩
    refine ⟨_, rfl, fun x dx nx ndx hdx => ?_⟩
    have s4 : Same H (upd (upd H dx (.own x)) x (.ins C dx [])) := (same_upd ndx).trans (same_upd (by rw [upd_ne (fun q => hdx q.symm)]; exact nx))
    have hx4 := upd_same (H := upd H dx (.own x)) (a := x) (o := HO.ins C dx [])
    generalize upd (upd H dx (.own x)) x (.ins C dx []) = H4 at s4 hx4
    refine ⟨x, dx, kd0, ds0, kn, rfl, hx4, hK0.same s4, hnd0, hnn, hlk, fun B H5 eBa eBd c5 oB fr5 => ⟨rfl, ?_⟩⟩
    subst eBa
    have s5 : Same H H5 := fun b o e => c5.out b o (fun m => by rw [List.mem_singleton.mp m, nx] at e; cases e) (s4 _ _ e)
    refine ⟨_, rfl, B.a, B.dx, _, rfl, oB.at_, lk_no (by decide +kernel), _, rfl, B.a, B.dx, B.kd, l, _, mom, fs, ths, sp, rfl, oB.at_, .inr ⟨B, newO, rfl, rfl⟩, hL.kp (.of_same s5), hSn, fun dF dT dS g H6 c6 x6 hF hT hS nF nT nS n1 n2 n3 _ hm hi => ?_⟩
    have s6 : Same H H6 := fun b o e => c6.out b o (fun m => by rw [List.mem_singleton.mp m, nx] at e; cases e) (s5 _ _ e)
    have free5 : ∀ y, H5 y = none → H y = none := fun y e => s5.free e
    have xk : B.a ∉ B.kd :: B.ds := oB.ap B.a (by simp)
    have hK6 := oB.kn.ch c6 (fun a m => by rw [List.mem_singleton.mp m]; exact xk)
    have live : ∀ y ∈ B.kd :: B.ds, ∃ u, H5 y = some u := fun y hy => by
      rcases List.mem_cons.mp hy with hy | hy
      · obtain ⟨_, q, _⟩ := oB.kn.top
        exact ⟨_, by rw [hy]; exact q⟩
      · obtain ⟨j, hj⟩ := List.mem_iff_getElem?.mp hy
        have hj2 := (List.getElem?_eq_some_iff.mp hj).1
        have hl := oB.kn.len
        obtain ⟨fv, q, _⟩ := oB.kn.fld j y (kn[j]'(by omega)) hj (List.getElem?_eq_getElem (by omega))
        exact ⟨_, q⟩
    have ne : ∀ y, H5 y = none → y ≠ B.a ∧ y ∉ B.kd :: B.ds := fun y e => ⟨fun q => (by rw [q, oB.at_] at e; cases e), fun m => (by obtain ⟨u, q⟩ := live y m; rw [e] at q; cases q)⟩
    obtain ⟨a1, a2⟩ := ne dF nF
    obtain ⟨b1, b2⟩ := ne dT nT
    obtain ⟨c1, c2⟩ := ne dS nS
    refine ⟨_, rfl, k ⟨B.a, B.dx, B.kd, dF, dT, dS, B.ds⟩ g H6 s6 ⟨x6, hT, hS, hF, hK6, ?_, fun a m => ?_⟩ (fun y m => ?_) hm hi⟩
    · simp only [OA.S, List.nodup_cons, List.mem_cons, List.not_mem_nil, or_false, not_or, not_false_eq_true, List.nodup_nil, and_true]
      exact ⟨⟨a1.symm, b1.symm, c1.symm⟩, ⟨n1, n2⟩, n3⟩
    · simp only [OA.S, List.mem_cons, List.not_mem_nil, or_false] at m
      rcases m with rfl | rfl | rfl | rfl
      · exact xk
      · exact a2
      · exact b2
      · exact c2
    · rcases List.mem_cons.mp m with rfl | m
      · exact nx
      rcases List.mem_cons.mp m with rfl | m
      · exact free5 _ nF
      rcases List.mem_cons.mp m with rfl | m
      · exact free5 _ nT
      rcases List.mem_cons.mp m with rfl | m
      · exact free5 _ nS
      · exact s4.free (fr5 y (by simp only [List.mem_cons] at m ⊢; exact .inr (.inr (.inr m))))
end
end K07
/-! Two outsides that show the same, with a world each. -/
namespace OW
open PySem PySem.Spec PyProof.Rows L2 LB
structure WRel (W V : Wd) : Prop where
  things : V.things = W.things
  toks : V.toks = W.toks
  fences : V.fences.Perm W.fences
  mom : V.mom = W.mom
  nxt : W.nxt ≤ V.nxt
section
variable {kn : Kn} {n : Nat} {O P : Od} {W V : Wd}
theorem fget_perm {fs gs : List (Int × Int)} (nd : (fs.map (·.1)).Nodup) (p : gs.Perm fs) (o : Int) : fget gs o = fget fs o := by
  have ndg : (gs.map (·.1)).Nodup := (p.map (·.1)).nodup_iff.mpr nd
  by_cases h : o ∈ fs.map (·.1)
  · obtain ⟨e, he, rfl⟩ := List.mem_map.mp h
    rw [fget_mem nd he, fget_mem ndg (p.mem_iff.mpr he)]
  · have none_of : ∀ {l : List (Int × Int)}, o ∉ l.map (·.1) → fget l o = 0 := fun {l} q => by
      unfold fget
      cases e : l.find? (fun e => decide (e.1 = o)) with
      | none => rfl
      | some x =>
        have h2 : x.1 = o := by have := List.find?_some e; simpa using this
        exact absurd (by rw [← h2]; exact List.mem_map_of_mem (List.mem_of_find?_eq_some e)) q
    rw [none_of h, none_of (fun q => h ((p.map (·.1)).mem_iff.mp q))]
theorem fput_perm {fs gs : List (Int × Int)} (p : gs.Perm fs) (o r : Int) : (fput gs o r).Perm (fput fs o r) := by
  have e : gs.any (fun e => decide (e.1 = o)) = fs.any (fun e => decide (e.1 = o)) := by
    refine Bool.eq_iff_iff.mpr ?_
    rw [List.any_eq_true, List.any_eq_true]
    exact ⟨fun ⟨x, h, q⟩ => ⟨x, p.mem_iff.mp h, q⟩, fun ⟨x, h, q⟩ => ⟨x, p.mem_iff.mpr h, q⟩⟩
  unfold fput
  rw [e]
  split
  · exact p.map _
  · exact p.append_right _
theorem WRel.old (h : WRel W V) (nd : (W.fences.map (·.1)).Nodup) (m : Mk) : oldB V.fences m = oldB W.fences m := by
  cases m with
  | none => rfl
  | some m =>
    show decide (m.2 < fget V.fences m.1) = decide (m.2 < fget W.fences m.1)
    rw [fget_perm nd h.fences]
theorem WRel.other (h : WRel W V) (nd : (W.fences.map (·.1)).Nodup) {mk : Mk} {one : Int} {ver : Option Int} : otherW V mk one ver = otherW W mk one ver := by
  unfold otherW
  rw [h.old nd, h.things]
theorem WRel.changeEq (h : WRel W V) (nd : (W.fences.map (·.1)).Nodup) {mk : Mk} {one : Int} {ver : Option Int} {f : Str} {v : Option Int} : changeW kn V mk one ver f v = changeW kn W mk one ver f v := by
  unfold changeW
  rw [h.other nd, h.things]
theorem WRel.takeEq (h : WRel W V) (nd : (W.fences.map (·.1)).Nodup) {mk : Mk} {one : Int} {ver : Option Int} : takeW kn V mk one ver = takeW kn W mk one ver := by
  unfold takeW
  rw [h.other nd, h.things]
theorem WRel.makeEq (h : WRel W V) (nd : (W.fences.map (·.1)).Nodup) {mk : Mk} {tok : Option Tk} {kind : Str} {vals : Vals_} : makeW kn V mk tok kind vals = makeW kn W mk tok kind vals := by
  rw [makeW_eq, makeW_eq, h.old nd, h.things, h.toks]
def isMk : Cl → Bool
  | .make _ _ _ _ => true
  | _ => false
theorem WRel.why (h : WRel W V) (nd : (W.fences.map (·.1)).Nodup) (c : Cl) : whyW kn V c = whyW kn W c := by
  cases c with
  | fence m => rfl
  | make m t kind vals =>
    show ansW (makeW kn V (some m) (some t) kind vals) = ansW (makeW kn W (some m) (some t) kind vals)
    rw [h.makeEq nd]
  | change m one ver f v => exact h.changeEq nd
  | take m one ver => exact h.takeEq nd
theorem WRel.step (h : WRel W V) (nd : (W.fences.map (·.1)).Nodup) {c : Cl} (hc : isMk c = false) : WRel (doW kn W c) (doW kn V c) ∧ (doW kn W c).nxt = W.nxt := by
  cases c with
  | fence m =>
    show WRel (doFence W m) (doFence V m) ∧ (doFence W m).nxt = W.nxt
    unfold doFence
    rw [fget_perm nd h.fences]
    split
    · exact ⟨⟨h.things, h.toks, fput_perm h.fences _ _, by show V.mom + 1 = W.mom + 1; rw [h.mom], h.nxt⟩, rfl⟩
    · exact ⟨h, rfl⟩
  | make m t kind vals => cases hc
  | change m one ver f v =>
    show WRel (doChange kn W (some m) one (some ver) f v) (doChange kn V (some m) one (some ver) f v) ∧ (doChange kn W (some m) one (some ver) f v).nxt = W.nxt
    unfold doChange
    rw [h.changeEq nd]
    split
    · exact ⟨⟨by show setT _ _ _ V.things = setT _ _ _ W.things; rw [h.things], h.toks, h.fences, by show V.mom + 1 = W.mom + 1; rw [h.mom], h.nxt⟩, rfl⟩
    · exact ⟨h, rfl⟩
  | take m one ver =>
    show WRel (doTake kn W (some m) one (some ver)) (doTake kn V (some m) one (some ver)) ∧ (doTake kn W (some m) one (some ver)).nxt = W.nxt
    unfold doTake
    rw [h.takeEq nd]
    split
    · exact ⟨⟨by show dropT _ V.things = dropT _ W.things; rw [h.things], h.toks, h.fences, by show V.mom + 1 = W.mom + 1; rw [h.mom], h.nxt⟩, rfl⟩
    · exact ⟨h, rfl⟩
/-- what is made at last -/
theorem WRel.made (h : WRel W V) (nd : (W.fences.map (·.1)).Nodup) {m : Int × Int} {t : Tk} {kind : Str} {vals : Vals_} :
    ((doW kn W (.make m t kind vals)).things = W.things ∧ (doW kn V (.make m t kind vals)).things = W.things) ∨
    ((doW kn W (.make m t kind vals)).things = W.things ++ [newTh W (some t) kind vals] ∧ (doW kn V (.make m t kind vals)).things = W.things ++ [newTh V (some t) kind vals]) := by
  show ((doMake kn W (some m) (some t) kind vals).things = _ ∧ (doMake kn V (some m) (some t) kind vals).things = _) ∨ _
  show _ ∨ ((doMake kn W (some m) (some t) kind vals).things = _ ∧ (doMake kn V (some m) (some t) kind vals).things = _)
  unfold doMake
  rw [h.makeEq nd]
  split
  · exact .inr ⟨rfl, by show V.things ++ _ = _; rw [h.things]⟩
  · exact .inl ⟨rfl, h.things⟩
/-- looks of both -/
theorem look_same (tw : Twin kn n O W) (tv : Twin kn n P V) (h : WRel W V) {fs gs : List (Int × Int)} {sp sq : List Tk} (p1 : fs.Perm O.fences) (s1 : fs.Pairwise leP) (p2 : gs.Perm P.fences) (s2 : gs.Pairwise leP) (q1 : sp.Perm O.spent) (r1 : sp.Pairwise leP) (q2 : sq.Perm P.spent) (r2 : sq.Pairwise leP) :
    lookD P.mom gs P.things sq = lookD O.mom fs O.things sp := by
  have e1 : gs = fs := List.Perm.eq_of_pairwise (le := leP) (fun a b _ _ h1 h2 => leP_anti h1 h2) s2 s1 (p2.trans (by rw [tv.fences, tw.fences] at *; exact h.fences.trans (by exact p1.symm)))
  have e2 : sq = sp := List.Perm.eq_of_pairwise (le := leP) (fun a b _ _ h1 h2 => leP_anti h1 h2) r2 r1 (q2.trans (tv.spentP.trans (by
    have : spentW V = spentW W := by unfold spentW; rw [h.things, h.toks]
    rw [this]
    exact tw.spentP.symm.trans q1.symm)))
  rw [e1, e2, tv.mom, tw.mom, tv.things, tw.things, h.things, h.mom]
/-- the other one, at first -/
theorem twin_of (tw : Twin kn n O W) {P : Od} (h1 : P.things = O.things) (h2 : P.fences.Perm O.fences) (h3 : P.spent.Perm O.spent) (h4 : P.mom = O.mom) (h5 : ∀ t ∈ O.things, t.id ≤ P.grt) (h6 : W.nxt ≤ P.grt + 1) :
    Twin kn n P ⟨W.things, W.toks, P.fences, W.mom, P.grt + 1⟩ ∧ WRel W ⟨W.things, W.toks, P.fences, W.mom, P.grt + 1⟩ := by
  refine ⟨⟨h1.trans tw.things, rfl, h4.trans tw.mom, rfl, fun t => ?_, h3.nodup_iff.mpr tw.ndS, fun e he => ?_, tw.tok2, tw.ids, fun t ht => ?_, tw.good, ?_, tw.kK, ?_, tw.lT, tw.lK, ?_, ?_⟩, ⟨rfl, rfl, ?_, rfl, h6⟩⟩
  · rw [h3.mem_iff]
    exact tw.spent t
  · exact ⟨Int.lt_of_lt_of_le (tw.tok1 e he).1 h6, (tw.tok1 e he).2⟩
  · have := h5 t (by rw [tw.things]; exact ht)
    exact ⟨(tw.low t ht).1, by show t.id < P.grt + 1; omega⟩
  · show (P.fences.map (·.1)).Nodup
    refine (h2.map (·.1)).nodup_iff.mpr ?_
    rw [tw.fences]
    exact tw.kF
  · show 0 < P.grt + 1
    have := tw.nxt
    omega
  · show P.fences.length ≤ n
    rw [h2.length_eq, tw.fences]
    exact tw.lF
  · rw [h3.length_eq]
    exact tw.lS
  · show P.fences.Perm W.fences
    rw [← tw.fences]
    exact h2
/-- ids are fewer than moments; tokens are those of two owners -/
structure Low9 (W : Wd) : Prop where
  nxt : W.nxt ≤ W.mom + 1
  own : ∀ th ∈ W.things, ∀ t, th.tok = some t → t.1 < 9
theorem low9_0 : Low9 newW := ⟨by decide, fun th h => by cases h⟩
theorem Low9.step (h : Low9 W) {c : Cl} (hc : ClTok c) : Low9 (doW kn W c) := by
  cases c with
  | fence m =>
    show Low9 (doFence W m)
    unfold doFence
    split
    · exact ⟨by have := h.nxt; show W.nxt ≤ W.mom + 1 + 1; omega, h.own⟩
    · exact h
  | make m t kind vals =>
    show Low9 (doMake kn W (some m) (some t) kind vals)
    unfold doMake
    split
    · refine ⟨by have := h.nxt; show W.nxt + 1 ≤ W.mom + 1 + 1; omega, fun th ht u hu => ?_⟩
      rcases List.mem_append.mp ht with ht | ht
      · exact h.own th ht u hu
      · have e := List.mem_singleton.mp ht
        have hu : (newTh W (some t) kind vals).tok = some u := by rw [← e]; exact hu
        have hu : some t = some u := hu
        cases hu
        exact hc
    · exact h
  | change m one ver f v =>
    show Low9 (doChange kn W (some m) one (some ver) f v)
    unfold doChange
    split
    · refine ⟨by have := h.nxt; show W.nxt ≤ W.mom + 1 + 1; omega, fun th ht t q => ?_⟩
      obtain ⟨u, hu, _, e2, _⟩ := setT_mem ht
      exact h.own u hu t (e2.trans q)
    · exact h
  | take m one ver =>
    show Low9 (doTake kn W (some m) one (some ver))
    unfold doTake
    split
    · exact ⟨by have := h.nxt; show W.nxt ≤ W.mom + 1 + 1; omega, fun th ht => h.own th (dropT_mem.mp ht).1⟩
    · exact h
/-- of the things with the token t, as the law picks them -/
def isTok (t : Tk) (th : Th) : Bool := decide (th.tok = some t)
theorem picked (h : WRel W V) (l9 : Low9 W) {A B : List Th} {t : Tk} (ht : ¬ t.1 < 9) {kind : Str} {vals : Vals_} (e : (A = W.things ∧ B = W.things) ∨ (A = W.things ++ [newTh W (some t) kind vals] ∧ B = W.things ++ [newTh V (some t) kind vals])) :
    (B.filter (isTok t)).length = (A.filter (isTok t)).length ∧ ∀ th ∈ B.filter (isTok t), W.nxt ≤ th.id := by
  have no : W.things.filter (isTok t) = [] := by
    rw [List.filter_eq_nil_iff]
    intro th hm q
    exact ht (l9.own th hm t (of_decide_eq_true q))
  rcases e with ⟨rfl, rfl⟩ | ⟨rfl, rfl⟩
  · exact ⟨rfl, fun th hm => by rw [no] at hm; cases hm⟩
  · have one : ∀ {U : Wd}, (([newTh U (some t) kind vals] : List Th).filter (isTok t)) = [newTh U (some t) kind vals] := fun {U} => by
      rw [List.filter_cons_of_pos (by exact decide_eq_true rfl), List.filter_nil]
    rw [List.filter_append, List.filter_append, no, one, one]
    refine ⟨rfl, fun th hm => ?_⟩
    rw [List.nil_append, List.mem_singleton] at hm
    rw [hm]
    exact h.nxt
end
end OW
namespace OW
open PySem PySem.Spec PyProof.Rows L2 LB
/-- both outsides, a tape, kinds -/
structure Two (K : PySem.W.Frag) (H : Hp) (t c : Addr) (cs : List Int) (A : LA) (W : Wd) (kd : Addr) (ds : List Addr) (kn : Kn) (C : Addr) (B : OA) (O : Od) (n : Nat) : Prop where
  sc : Sc K H t c cs A W kd ds kn
  ob : Ob K H C B O kn
  tw : Twin kn n O W
  ap1 : ∀ b ∈ B.S, b ≠ t ∧ b ∉ A.S ∧ b ∉ kd :: ds
  ap2 : ∀ b ∈ B.kd :: B.ds, b ≠ t ∧ b ∉ A.S
section
variable {K : PySem.W.Frag} {H H' : Hp} {t c : Addr} {cs : List Int} {A : LA} {W W' : Wd} {kd : Addr} {ds : List Addr} {kn : Kn} {C : Addr} {B : OA} {O O' : Od} {n : Nat}
theorem Two.same (h : Two K H t c cs A W kd ds kn C B O n) (s : Same H H') : Two K H' t c cs A W kd ds kn C B O n := ⟨h.sc.same s, h.ob.same s, h.tw, h.ap1, h.ap2⟩
theorem Two.drawn (h : Two K H t c cs A W kd ds kn C B O n) (ch : Ch [t] H H') (s : Sc K H' t c cs A W kd ds kn) : Two K H' t c cs A W kd ds kn C B O n :=
  ⟨s, h.ob.ch ch (fun a m q => by rw [List.mem_singleton.mp m] at q; exact (h.ap1 t q).1 rfl) (fun a m q => by rw [List.mem_singleton.mp m] at q; exact (h.ap2 t q).1 rfl), h.tw, h.ap1, h.ap2⟩
theorem Two.take (h : Two K H t c cs A W kd ds kn C B O n) {kvs : List (Key × V)} (k : TapeK c cs kvs) : Two K (upd H t (.dK kvs)) t c cs A W kd ds kn C B O n := h.drawn (tape_ch h.sc.tp) (h.sc.take k)
theorem Ob.live (h : Ob K H C B O kn) : ∀ b ∈ B.S, ∃ u, H b = some u ∧ (∀ xs, u ≠ .lst xs) := fun b m => by
  simp only [OA.S, List.mem_cons, List.not_mem_nil, or_false] at m
  rcases m with rfl | rfl | rfl | rfl
  · exact ⟨_, h.at_, fun xs q => by cases q⟩
  · exact ⟨_, h.fences, fun xs q => by cases q⟩
  · obtain ⟨k, a, _⟩ := h.things
    exact ⟨_, a, fun xs q => by cases q⟩
  · exact ⟨_, h.spent, fun xs q => by cases q⟩
theorem Lw.live (h : Lw K H A W) : ∀ b ∈ A.S, ∃ u, H b = some u ∧ (∀ xs, u ≠ .lst xs) := fun b m => by
  simp only [LA.S, List.mem_cons, List.not_mem_nil, or_false] at m
  rcases m with rfl | rfl | rfl | rfl
  · exact ⟨_, h.w, fun xs q => by cases q⟩
  · obtain ⟨k, a, _⟩ := h.things
    exact ⟨_, a, fun xs q => by cases q⟩
  · exact ⟨_, h.toks, fun xs q => by cases q⟩
  · exact ⟨_, h.fences, fun xs q => by cases q⟩
theorem tape_far (T : Tape t c cs H) {S : List Addr} (ch : Ch S H H') (n1 : t ∉ S) (n2 : c ∉ S) : Tape t c cs H' := by
  obtain ⟨⟨kvs, a, b⟩, l, n⟩ := T
  exact ⟨⟨kvs, ch.out _ _ n1 a, b⟩, ch.out _ _ n2 l, n⟩
theorem Sc.far (h : Sc K H t c cs A W kd ds kn) {S : List Addr} (ch : Ch S H H') (n1 : t ∉ S) (n2 : c ∉ S) (n3 : ∀ a ∈ S, a ∉ A.S) (n4 : ∀ a ∈ S, a ∉ kd :: ds) : Sc K H' t c cs A W kd ds kn :=
  ⟨tape_far h.tp ch n1 n2, h.lk.ch ch n3 n4, h.nA, h.nK⟩
/-- the program's outside has changed -/
theorem Two.sc1 (h : Two K H t c cs A W kd ds kn C B O n) (ch : Ch B.S H H') : Sc K H' t c cs A W kd ds kn := by
  refine h.sc.far ch (fun q => (h.ap1 t q).1 rfl) (fun q => ?_) (fun a m => (h.ap1 a m).2.1) (fun a m => (h.ap1 a m).2.2)
  obtain ⟨u, e, ne⟩ := h.ob.live c q
  have := h.sc.tp.ls
  rw [e] at this
  exact ne _ (Option.some.inj this)
/-- then the law's -/
theorem Two.both (h : Two K H t c cs A W kd ds kn C B O n) {H1 H2 : Hp} {m : Nat} (c1 : Ch B.S H H1) (o1 : Ob K H1 C B O' kn) (c2 : Ch A.S H1 H2) (l2 : Lw K H2 A W') (tw : Twin kn m O' W') : Two K H2 t c cs A W' kd ds kn C B O' m := by
  have s1 := h.sc1 c1
  have ca : c ∉ A.S := fun q => by
    obtain ⟨u, e, ne⟩ := s1.lk.lw.live c q
    have := s1.tp.ls
    rw [e] at this
    exact ne _ (Option.some.inj this)
  refine ⟨⟨tape_far s1.tp c2 s1.nA ca, s1.lk.new c2 l2 (tw.ids.imp fun q => Int.ne_of_lt q), s1.nA, s1.nK⟩, o1.ch c2 (fun a m q => (h.ap1 a q).2.1 m) (fun a m q => (h.ap2 a q).2 m), tw, h.ap1, h.ap2⟩
def NonE (kn : Kn) : Prop := ∀ k fs, kfind kn k = some fs → fs ≠ []
/-- and a second outside of the program -/
structure Tri (K : PySem.W.Frag) (H : Hp) (t c : Addr) (cs : List Int) (A : LA) (W : Wd) (kd : Addr) (ds : List Addr) (kn : Kn) (C : Addr) (B : OA) (O : Od) (n : Nat) (B2 : OA) (P : Od) (U : Wd) : Prop where
  two : Two K H t c cs A W kd ds kn C B O n
  ob2 : Ob K H C B2 P kn
  tw2 : Twin kn n P U
  rel : WRel W U
  q1 : ∀ b ∈ B2.S, b ≠ t ∧ b ∉ A.S ∧ b ∉ kd :: ds ∧ b ∉ B.S ∧ b ∉ B.kd :: B.ds
  q2 : ∀ b ∈ B2.kd :: B2.ds, b ≠ t ∧ b ∉ A.S ∧ b ∉ B.S
variable {B2 : OA} {P P' : Od} {U U' : Wd}
theorem Tri.same (h : Tri K H t c cs A W kd ds kn C B O n B2 P U) (s : Same H H') : Tri K H' t c cs A W kd ds kn C B O n B2 P U := ⟨h.two.same s, h.ob2.same s, h.tw2, h.rel, h.q1, h.q2⟩
theorem Tri.drawn (h : Tri K H t c cs A W kd ds kn C B O n B2 P U) (ch : Ch [t] H H') (s : Sc K H' t c cs A W kd ds kn) : Tri K H' t c cs A W kd ds kn C B O n B2 P U :=
  ⟨h.two.drawn ch s, h.ob2.ch ch (fun a m q => by rw [List.mem_singleton.mp m] at q; exact (h.q1 t q).1 rfl) (fun a m q => by rw [List.mem_singleton.mp m] at q; exact (h.q2 t q).1 rfl), h.tw2, h.rel, h.q1, h.q2⟩
theorem Tri.take (h : Tri K H t c cs A W kd ds kn C B O n B2 P U) {kvs : List (Key × V)} (k : TapeK c cs kvs) : Tri K (upd H t (.dK kvs)) t c cs A W kd ds kn C B O n B2 P U := h.drawn (tape_ch h.two.sc.tp) (h.two.sc.take k)
theorem Two.law (h : Two K H t c cs A W kd ds kn C B O n) (c2 : Ch A.S H H') (l2 : Lw K H' A W') (ids : (W'.things.map (·.id)).Nodup) : Sc K H' t c cs A W' kd ds kn ∧ Ob K H' C B O kn := by
  have ca : c ∉ A.S := fun q => by
    obtain ⟨u, e, ne⟩ := h.sc.lk.lw.live c q
    have := h.sc.tp.ls
    rw [e] at this
    exact ne _ (Option.some.inj this)
  exact ⟨⟨tape_far h.sc.tp c2 h.sc.nA ca, h.sc.lk.new c2 l2 ids, h.sc.nA, h.sc.nK⟩, h.ob.ch c2 (fun a m q => (h.ap1 a q).2.1 m) (fun a m q => (h.ap2 a q).2 m)⟩
/-- the law's world has changed, then the second outside, then the first one -/
theorem Tri.all (h : Tri K H t c cs A W kd ds kn C B O n B2 P U) {H1 H2 H3 : Hp} {m : Nat} (c1 : Ch A.S H H1) (l1 : Lw K H1 A W') (c2 : Ch B2.S H1 H2) (o2 : Ob K H2 C B2 P' kn) (c3 : Ch B.S H2 H3) (o3 : Ob K H3 C B O' kn) (tw : Twin kn m O' W') (tv : Twin kn m P' U') (wr : WRel W' U') : Tri K H3 t c cs A W' kd ds kn C B O' m B2 P' U' := by
  obtain ⟨s1, b1⟩ := h.two.law c1 l1 (tw.ids.imp fun q => Int.ne_of_lt q)
  have oo1 := h.ob2.ch c1 (fun a m q => (h.q1 a q).2.1 m) (fun a m q => (h.q2 a q).2.1 m)
  have noc : ∀ {S : List Addr} {Hx : Hp}, (∀ b ∈ S, ∃ u, Hx b = some u ∧ ∀ xs, u ≠ HO.lst xs) → Tape t c cs Hx → c ∉ S := fun live T q => by
    obtain ⟨u, e, ne⟩ := live c q
    have := T.ls
    rw [e] at this
    exact ne _ (Option.some.inj this)
  have s2 := s1.far c2 (fun q => (h.q1 t q).1 rfl) (noc oo1.live s1.tp) (fun a m => (h.q1 a m).2.1) (fun a m => (h.q1 a m).2.2.1)
  have b2 := b1.ch c2 (fun a m q => (h.q1 a m).2.2.2.1 q) (fun a m q => (h.q1 a m).2.2.2.2 q)
  have s3 := s2.far c3 (fun q => (h.two.ap1 t q).1 rfl) (noc b2.live s2.tp) (fun a m => (h.two.ap1 a m).2.1) (fun a m => (h.two.ap1 a m).2.2)
  have o23 := o2.ch c3 (fun a m q => (h.q1 a q).2.2.2.1 m) (fun a m q => (h.q2 a q).2.2 m)
  exact ⟨⟨s3, o3, tw, h.two.ap1, h.two.ap2⟩, o23, tv, wr, h.q1, h.q2⟩
/-- what the second outside sees of the first one's changes -/
theorem Tri.ob2B (h : Tri K H t c cs A W kd ds kn C B O n B2 P U) (c3 : Ch B.S H H') : Ob K H' C B2 P kn := h.ob2.ch c3 (fun a m q => (h.q1 a q).2.2.2.1 m) (fun a m q => (h.q2 a q).2.2 m)
theorem knd_live {kd : Addr} {ds : List Addr} (h : KndAt K H kd ds kn) : ∀ y ∈ kd :: ds, ∃ u, H y = some u := fun y hy => by
  rcases List.mem_cons.mp hy with hy | hy
  · obtain ⟨_, q, _⟩ := h.top
    exact ⟨_, by rw [hy]; exact q⟩
  · obtain ⟨j, hj⟩ := List.mem_iff_getElem?.mp hy
    have hj2 := (List.getElem?_eq_some_iff.mp hj).1
    have hl := h.len
    obtain ⟨fv, q, _⟩ := h.fld j y (kn[j]'(by omega)) hj (List.getElem?_eq_getElem (by omega))
    exact ⟨_, q⟩
/-- a second outside of fresh objects -/
theorem Two.tri (h : Two K H t c cs A W kd ds kn C B O n) (s : Same H H') (ob2 : Ob K H' C B2 P kn) (fr : ∀ y ∈ B2.a :: B2.dF :: B2.dT :: B2.dS :: B2.kd :: B2.ds, H y = none) (tw2 : Twin kn n P U) (rel : WRel W U) : Tri K H' t c cs A W kd ds kn C B O n B2 P U := by
  have no : ∀ {y z : Addr}, H y = none → (∃ u, H z = some u) → y ≠ z := fun {y z} e ⟨u, q⟩ w => by rw [w, q] at e; cases e
  have lt : ∃ u, H t = some u := by obtain ⟨kv, q, _⟩ := h.sc.tp.dc; exact ⟨_, q⟩
  have lA : ∀ z ∈ A.S, ∃ u, H z = some u := fun z m => let ⟨u, e, _⟩ := h.sc.lk.lw.live z m; ⟨u, e⟩
  have lB : ∀ z ∈ B.S, ∃ u, H z = some u := fun z m => let ⟨u, e, _⟩ := h.ob.live z m; ⟨u, e⟩
  have lK := knd_live h.sc.lk.kn
  have lK2 := knd_live h.ob.kn
  have off : ∀ y, H y = none → y ≠ t ∧ y ∉ A.S ∧ y ∉ kd :: ds ∧ y ∉ B.S ∧ y ∉ B.kd :: B.ds := fun y e =>
    ⟨no e lt, fun m => no e (lA y m) rfl, fun m => no e (lK y m) rfl, fun m => no e (lB y m) rfl, fun m => no e (lK2 y m) rfl⟩
  refine ⟨h.same s, ob2, tw2, rel, fun b m => off b (fr b ?_), fun b m => ?_⟩
  · simp only [OA.S, List.mem_cons, List.not_mem_nil, or_false] at m ⊢
    rcases m with rfl | rfl | rfl | rfl <;> simp
  · obtain ⟨a1, a2, _, a4, _⟩ := off b (fr b (by simp only [List.mem_cons] at m ⊢; exact .inr (.inr (.inr (.inr m)))))
    exact ⟨a1, a2, a4⟩
end
end OW
namespace OW
open PySem PySem.Spec PyProof.Rows L2 LB
section
variable {m1 m2 m3 m4 m5 m6 m7 : List Str}
def netF (m1 m2 : List Str) : List FT := [("tag", "", m1), ("zone", "", m2)]
def boxF (m3 m4 : List Str) : List FT := [("at", "net", m3), ("peer", "box", m4), ("size", "", ["empty"])]
def diskF (m5 m6 m7 : List Str) : List FT := [("base", "", m5), ("code", "", m6), ("on", "box", m7)]
theorem kn_cases {k : Str} {fs : List FT} (h : kfind (knOf m1 m2 m3 m4 m5 m6 m7) k = some fs) : fs = netF m1 m2 ∨ fs = boxF m3 m4 ∨ fs = diskF m5 m6 m7 := by
  unfold kfind at h
  cases e : (knOf m1 m2 m3 m4 m5 m6 m7).find? (fun e => decide (e.1 = k)) with
  | none => rw [e] at h; cases h
  | some x =>
    rw [e] at h
    have h : x.2 = fs := Option.some.inj h
    have hm := List.mem_of_find?_eq_some e
    simp only [knOf, List.mem_cons, List.not_mem_nil, or_false] at hm
    rcases hm with rfl | rfl | rfl
    · exact .inl h.symm
    · exact .inr (.inl h.symm)
    · exact .inr (.inr h.symm)
theorem two_srt {a b : Str} (h : ∀ x ∈ [a, b], ∀ y ∈ [a, b], ([x, y] : List Str).Nodup → sortedS [x, y] = true → [x, y] = [a, b]) (nd : ([a, b] : List Str).Nodup) {ys : List Str} (p : ys.Perm [a, b]) (s : sortedS ys = true) : ys = [a, b] := by
  match ys, p.length_eq with
  | [x, y], _ => exact h x (p.mem_iff.mp (by simp)) y (p.mem_iff.mp (by simp)) (p.nodup_iff.mpr nd) s
theorem three_srt {a b c : Str} (h : ∀ x ∈ [a, b, c], ∀ y ∈ [a, b, c], ∀ z ∈ [a, b, c], ([x, y, z] : List Str).Nodup → sortedS [x, y, z] = true → [x, y, z] = [a, b, c]) (nd : ([a, b, c] : List Str).Nodup) {ys : List Str} (p : ys.Perm [a, b, c]) (s : sortedS ys = true) : ys = [a, b, c] := by
  match ys, p.length_eq with
  | [x, y, z], _ => exact h x (p.mem_iff.mp (by simp)) y (p.mem_iff.mp (by simp)) z (p.mem_iff.mp (by simp)) (p.nodup_iff.mpr nd) s
theorem knOk (h3 : ("single" : Str) ∉ m3) (h4 : ("single" : Str) ∉ m4) (h7 : ("single" : Str) ∉ m7) : KnOk (knOf m1 m2 m3 m4 m5 m6 m7) := by
  refine ⟨fun k fs h ys p s => ?_, fun k fs h => ?_, fun k fs h => ?_, fun k fs h f hf hn => ?_, fun k fs h f hf => ?_⟩
  · rcases kn_cases h with rfl | rfl | rfl
    · exact two_srt (a := "tag") (b := "zone") (by decide +kernel) (by decide +kernel) p s
    · exact three_srt (a := "at") (b := "peer") (c := "size") (by decide +kernel) (by decide +kernel) p s
    · exact three_srt (a := "base") (b := "code") (c := "on") (by decide +kernel) (by decide +kernel) p s
  · rcases kn_cases h with rfl | rfl | rfl
    · show 2 < 60; decide
    · show 3 < 60; decide
    · show 3 < 60; decide
  · rcases kn_cases h with rfl | rfl | rfl
    · show ([("tag" : Str), "zone"] : List Str).Nodup; decide +kernel
    · show ([("at" : Str), "peer", "size"] : List Str).Nodup; decide +kernel
    · show ([("base" : Str), "code", "on"] : List Str).Nodup; decide +kernel
  · rcases kn_cases h with rfl | rfl | rfl
    · simp only [netF, List.mem_cons, List.not_mem_nil, or_false] at hf
      rcases hf with rfl | rfl <;> exact absurd rfl hn
    · simp only [boxF, List.mem_cons, List.not_mem_nil, or_false] at hf
      rcases hf with rfl | rfl | rfl
      · exact h3
      · exact h4
      · exact absurd rfl hn
    · simp only [diskF, List.mem_cons, List.not_mem_nil, or_false] at hf
      rcases hf with rfl | rfl | rfl
      · exact absurd rfl hn
      · exact absurd rfl hn
      · exact h7
  · rcases kn_cases h with rfl | rfl | rfl
    · have : ∀ f ∈ ([("tag" : Str), "zone"] : List Str), PyData.strOk f = true := by decide +kernel
      exact this f hf
    · have : ∀ f ∈ ([("at" : Str), "peer", "size"] : List Str), PyData.strOk f = true := by decide +kernel
      exact this f hf
    · have : ∀ f ∈ ([("base" : Str), "code", "on"] : List Str), PyData.strOk f = true := by decide +kernel
      exact this f hf
theorem has3 : Has3 (knOf m1 m2 m3 m4 m5 m6 m7) := fun k hk => by
  simp only [List.mem_cons, List.not_mem_nil, or_false] at hk
  rcases hk with rfl | rfl | rfl
  · exact ⟨netF m1 m2, rfl, List.cons_ne_nil _ _⟩
  · exact ⟨boxF m3 m4, rfl, List.cons_ne_nil _ _⟩
  · exact ⟨diskF m5 m6 m7, rfl, List.cons_ne_nil _ _⟩
theorem nonE : NonE (knOf m1 m2 m3 m4 m5 m6 m7) := fun k fs h => by
  rcases kn_cases h with rfl | rfl | rfl <;> exact List.cons_ne_nil _ _
theorem kn_names : ((knOf m1 m2 m3 m4 m5 m6 m7).map (·.1)).Nodup := by
  show ([("net" : Str), "box", "disk"] : List Str).Nodup
  decide +kernel
theorem kn_fields : ∀ e ∈ knOf m1 m2 m3 m4 m5 m6 m7, (e.2.map (·.1)).Nodup ∧ e.2.length < 60 := fun e he => by
  simp only [knOf, List.mem_cons, List.not_mem_nil, or_false] at he
  rcases he with rfl | rfl | rfl
  · exact ⟨by show ([("tag" : Str), "zone"] : List Str).Nodup; decide +kernel, by show 2 < 60; decide⟩
  · exact ⟨by show ([("at" : Str), "peer", "size"] : List Str).Nodup; decide +kernel, by show 3 < 60; decide⟩
  · exact ⟨by show ([("base" : Str), "code", "on"] : List Str).Nodup; decide +kernel, by show 3 < 60; decide⟩
end
def spLaw (K : PySem.W.Frag) : Sp := fun vs H Q _ => ∃ (a : Addr) (ns : List Int), vs = [.ref a] ∧ SqL K H a (ns.map V.int) ∧ ns.length ≤ 63 ∧ ∀ H', Q (.bl true) H'
end OW
namespace OW
open PySem PySem.Spec PyProof.Rows L2 LB
/-! ### looks are small -/
theorem okD_of_len {n : Nat} {ds : List PyData} (h : ds.length < 60) (q : ∀ d ∈ ds, okD n d) : okD (n + 1) (.tuple ds) := ⟨by omega, q⟩
theorem okD_ii {n : Nat} (e : Int × Int) : okD (n + 1) (iiD e) := okD_of_len (by show 2 < 60; decide) fun d hd => by
  simp only [List.mem_cons, List.not_mem_nil, or_false] at hd
  rcases hd with rfl | rfl <;> (cases n <;> trivial)
theorem okD_fv {n : Nat} (e : Str × Option Int) : okD (n + 1) (fvD e) := okD_of_len (by show 2 < 60; decide) fun d hd => by
  simp only [List.mem_cons, List.not_mem_nil, or_false] at hd
  rcases hd with rfl | rfl
  · cases n <;> trivial
  · cases e.2 <;> (cases n <;> trivial)
theorem okD_th {kn : Kn} (hN : KnOk kn) {t : Th} (h : GoodTh kn t) : okD 3 (thD t) := okD_of_len (by show 6 < 60; decide) fun d hd => by
  simp only [List.mem_cons, List.not_mem_nil, or_false] at hd
  rcases hd with rfl | rfl | rfl | rfl | rfl | rfl
  · trivial
  · trivial
  · obtain ⟨fs, hf, hv⟩ := h
    refine okD_of_len ?_ fun d hd => ?_
    · have := congrArg List.length hv
      rw [List.length_map, List.length_map] at this
      rw [List.length_map, this]
      exact hN.few _ _ hf
    · obtain ⟨e, _, rfl⟩ := List.mem_map.mp hd
      exact okD_fv e
  · trivial
  · trivial
  · cases t.tok with
    | none => exact okD_of_len (by show 0 < 60; decide) fun d hd => by cases hd
    | some t => exact okD_ii t
theorem okD_look {kn : Kn} (hN : KnOk kn) {m : Int} {fs : List (Int × Int)} {ths : List Th} {sp : List Tk} (h1 : fs.length < 60) (h2 : ths.length < 60) (h3 : sp.length < 60) (hg : ∀ t ∈ ths, GoodTh kn t) : okD 5 (lookD m fs ths sp) := okD_of_len (by show 4 < 60; decide) fun d hd => by
  simp only [List.mem_cons, List.not_mem_nil, or_false] at hd
  rcases hd with rfl | rfl | rfl | rfl
  · trivial
  · exact okD_of_len (by rw [List.length_map]; exact h1) fun d hd => by
      obtain ⟨e, _, rfl⟩ := List.mem_map.mp hd
      exact okD_ii e
  · exact okD_of_len (by rw [List.length_map]; exact h2) fun d hd => by
      obtain ⟨e, he, rfl⟩ := List.mem_map.mp hd
      exact okD_th hN (hg e he)
  · exact okD_of_len (by rw [List.length_map]; exact h3) fun d hd => by
      obtain ⟨e, _, rfl⟩ := List.mem_map.mp hd
      exact okD_ii e
theorem okD_ans {n : Nat} (why : Str) : okD (n + 1) (ansD why) := by
  unfold ansD
  split
  · exact okD_of_len (by show 1 < 60; decide) fun d hd => by rw [List.mem_singleton.mp hd]; cases n <;> trivial
  · exact okD_of_len (by show 2 < 60; decide) fun d hd => by
      simp only [List.mem_cons, List.not_mem_nil, or_false] at hd
      rcases hd with rfl | rfl <;> (cases n <;> trivial)
theorem okD_up : ∀ {n : Nat} {d : PyData}, okD n d → okD (n + 1) d
  | _, .none, _ => trivial
  | _, .bool _, _ => trivial
  | _, .int _, _ => trivial
  | _, .str _, _ => trivial
  | 0, .list _, h => h.elim
  | 0, .tuple _, h => h.elim
  | n + 1, .list ds, h => ⟨h.1, fun d hd => okD_up (n := n) (h.2 d hd)⟩
  | n + 1, .tuple ds, h => ⟨h.1, fun d hd => okD_up (n := n) (h.2 d hd)⟩
  | 0, .dict _, h => h.elim
  | n + 1, .dict _, h => h.elim
theorem ans_dp {K : PySem.W.Frag} {H : Hp} {v : V} {why : Str} (h : AnsAt K H v why) : Dp K H v (ansD why) := by
  obtain ⟨a, rfl, s⟩ := h
  unfold ansV at s
  unfold ansD
  split
  · rename_i q
    rw [if_pos q] at s
    exact .tup s (.cons (.str _) .nil)
  · rename_i q
    rw [if_neg q] at s
    exact .tup s (.cons (.str _) (.cons (.str _) .nil))
theorem ok_look {kn : Kn} {n : Nat} {O : Od} {W : Wd} (tw : Twin kn n O W) (hn : n < 60) (hN : KnOk kn) {fs : List (Int × Int)} {sp : List Tk} (p : fs.Perm O.fences) (q : sp.Perm O.spent) : okD 5 (lookD O.mom fs O.things sp) := by
  have ook := tw.ook hn hN
  have l1 := ook.w.lenF
  have l2 := ook.lenS
  have l3 := ook.w.lenT
  exact okD_look hN (by rw [p.length_eq]; exact l1) l3 (by rw [q.length_eq]; exact l2) ook.w.good
/-- thing[5] == (9, 0) -/
theorem tok_eq {K : PySem.W.Frag} {H : Hp} {p : Addr} {th : Th} {i : Nat} {σ : L2.St} {R : Bool → Hp → Prop} (hA : ThAt K H p th) (hi : σ[i]? = some (some (.ref p))) (k : ∀ H', Same H H' → R (isTok (9, 0) th) H') :
    tTest (tOp (rEqD K) (tOp (rIxT K) (tVar i) (tC (.int 5))) (tTup (tCons (tC (.int 9)) (tCons (tC (.int 0)) tNil)))) σ H R := by
  obtain ⟨va, ta, st, hV, hT⟩ := hA
  refine ⟨_, hi, p, _, _, _, rfl, rfl, st, atI_nat (j := 5) rfl, by show 2 ≤ sizeLine; decide, fun q nq => ?_⟩
  have s := same_upd (o := HO.tup [V.int 9, .int 0]) nq
  have sh : SeqAt.shaped (tokD th.tok) = true := by cases th.tok <;> rfl
  refine ⟨tokD th.tok, .tuple [.int 9, .int 0], dp_mono s _ _ (tok_dp hT), .tup (.of upd_same) (.cons (.int _) (.cons (.int _) .nil)), sh, by rfl, _, rfl, ?_⟩
  have e : PyData.eqv (tokD th.tok) (.tuple [.int 9, .int 0]) = isTok (9, 0) th := by
    unfold isTok
    cases th.tok with
    | none => rfl
    | some u =>
      have : PyData.eqv (tokD (some u)) (.tuple [.int 9, .int 0]) = (u.1 == 9 && (u.2 == 0 && true)) := by simp [tokD, PyData.eqv, PyData.eqvAll]
      rw [this]
      refine Bool.eq_iff_iff.mpr ?_
      simp only [Bool.and_eq_true, beq_iff_eq, and_true, decide_eq_true_eq, Option.some.injEq]
      exact ⟨fun ⟨a, b⟩ => Prod.ext a b, fun q => by rw [q]; exact ⟨rfl, rfl⟩⟩
  rw [e]
  exact k _ s
theorem filter_snoc {f : Th → Bool} {ths : List Th} {i : Nat} {th : Th} (h : ths[i]? = some th) : (ths.take (i + 1)).filter f = (ths.take i).filter f ++ (if f th = true then [th] else []) := by
  rw [List.take_add_one, h, List.filter_append]
  congr 1
  show List.filter f [th] = _
  split
  · rename_i q; rw [List.filter_cons_of_pos q]; rfl
  · rename_i q; rw [List.filter_cons_of_neg q]; rfl
theorem cl_fit {K : PySem.W.Frag} {H : Hp} {kn : Kn} {a : Addr} {c : Cl} (h : ClAt K H kn a c) : ClFit kn c := by
  cases c with
  | make m t kind vals =>
    obtain ⟨_, _, _, fs, _, _, _, _, hf, _⟩ := h
    exact ⟨fs, hf⟩
  | _ => trivial
end OW
namespace K07
open PySem PySem.Spec PyProof.Rows L2 LB OW
theorem pe_c0 {X : Cx} {k j : Nat} {x : Str} {sp : Sp} {dvs : List V} {p pos : Pos} (c : C8.Cal X.prog X.w X.K X.mg X.base k x sp dvs) (hr : Room j X.A) (hk : k ≤ j) (hg : Gl X x) (hdb : (x == ("__debug__" : Str)) = false := by decide) : PE X (.Call (.Name x p) [] [] pos) (tCall sp dvs C8.E0 tNil) := by
  obtain ⟨f, fd, ps, ds, F, hm, kp, b, d⟩ := c.ex
  exact pe_call0 F (hr.mono hk) hg hm kp b d pass0 hdb
structure OTxt2 (P : Program) (w : World) (K : PySem.W.Frag) (mg : Str → Option Value) (C pC pD pN : Addr) (eC eD : Array DictEntry) (nC nD : Nat) : Prop extends OTxt P w K mg C pC pD pN eC eD nC nD where
  b_range : mg "range" = none
section
variable {P : Program} {w : World} {K : PySem.W.Frag} {mg : Str → Option Value} {base : Heap} {C pC pD pN CI LE : Addr} {eC eD : Array DictEntry} {nC nD : Nat}
theorem ok_law {f : Addr} {fd : FuncData} (F : Fun K "law" "law" s_law f fd) (T : OTxt2 P w K mg C pC pD pN eC eD nC nD) (c__law_tape : C8.Cal P w K mg base 1 "_law_tape" (spTape K) []) (c__law_take : C8.Cal P w K mg base 1 "_law_take" spTake [])
    (c__law_kinds : C8.Cal P w K mg base 3 "_law_kinds" (spKinds K) []) (c__law_kind_dict : C8.Cal P w K mg base 1 "_law_kind_dict" (spKindDict K) []) (c__law_new_world : C8.Cal P w K mg base 1 "_law_new_world" (spNewW K) []) (c__law_any_call : C8.Cal P w K mg base 4 "_law_any_call" (spAnyCall K) []) (c__law_any_values : C8.Cal P w K mg base 3 "_law_any_values" (spAnyVs K) [])
    (c__law_do : C8.Cal P w K mg base 5 "_law_do" (spLDo K) []) (c_outside_of : C8.Cal P w K mg base 4 "outside_of" (spOutsideOf K C) []) (c__law_same : C8.Cal P w K mg base 14 "_law_same" (spSame K 6) [])
    {f0 f1 f2 f3 : Addr} {fd0 fd1 fd2 fd3 : FuncData} (MK_Outside : Mk K C f0) (G_Outside___init__ : FnOk P w K mg base CX0 2 f0 fd0 ["self", "kinds"] (spOInit K C)) (b_Outside___init__ : Binds K fd0 ["self", "kinds"] [])
    (m_do : Meth K C "do" f1) (G_do : FnOk P w K mg base CX0 8 f1 fd1 ["self", "call"] (spODo K C)) (b_do : Binds K fd1 ["self", "call"] []) (m_look : Meth K C "look" f2) (G_look : FnOk P w K mg base CX0 1 f2 fd2 ["self"] (spOLook2 K C)) (b_look : Binds K fd2 ["self"] [])
    (m_calls : Meth K C "calls" f3) (G_calls : FnOk P w K mg base CX0 1 f3 fd3 ["self"] (spCalls K C)) (b_calls : Binds K fd3 ["self"] []) :
    FnOk P w K mg base CX0 15 f fd ["script"] (OW.spLaw K) := by
  refine F.ok sc_law (fun vs H Q E h => ?_) (fun cdv A outer s H vs Q E hr h => ?_)
  · obtain ⟨a, ns, rfl, _⟩ := h
    rfl
  · obtain ⟨a, ns, rfl, hS, hlen, k⟩ := h
    have hu := hu_of hr
    refine ⟨_, (pss_cons (ps_set (i := 1) sc_law.nd rfl (Or.inl rfl) (C8.pe_c c__law_tape hr (by first | decide | omega) rfl (pa_cons (pv 0) pa_nil)))
    (pss_cons (ps_set (i := 2) sc_law.nd rfl (Or.inl rfl) (C8.pe_c c__law_kind_dict hr (by first | decide | omega) rfl (pa_cons (C8.pe_c c__law_kinds hr (by first | decide | omega) rfl (pa_cons (pv 1) pa_nil)) pa_nil)))
    (pss_cons (ps_set (i := 3) sc_law.nd rfl (Or.inl rfl) (pe_make MK_Outside G_Outside___init__ (hr.mono (by decide)) (by rfl) T.g_Outside b_Outside___init__ .nil pass0 (pa_cons (pv 2) pa_nil)))
    (pss_cons (ps_set (i := 4) sc_law.nd rfl (Or.inl rfl) (pe_c0 c__law_new_world hr (by decide) rfl))
    (pss_cons (ps_for PassesOwn.never rfl (pi_range1 (by rfl) T.b_range (pa_cons (C8.pe_c c__law_take hr (by first | decide | omega) rfl (pa_cons (pv 1) (pa_cons pe_int pa_nil))) pa_nil)) (pg_name (i := 5) sc_law.nd rfl (Or.inl rfl))
      (pss_cons (ps_set (i := 6) sc_law.nd rfl (Or.inl rfl) (C8.pe_c c__law_any_call hr (by first | decide | omega) rfl (pa_cons (pv 1) (pa_cons (pv 2) (pa_cons (pv 4) pa_nil)))))
      (pss_cons (ps_expr (pe_meth (pv 3) T.cl m_do G_do (hr.mono (by decide)) b_do .nil pass0 (pa_cons (pv 6) pa_nil)))
      (pss_one (ps_expr (C8.pe_c c__law_do hr (by first | decide | omega) rfl (pa_cons (pv 2) (pa_cons (pv 4) (pa_cons (pv 6) pa_nil)))))))))
    (pss_cons (ps_set (i := 7) sc_law.nd rfl (Or.inl rfl) (C8.pe_c c_outside_of hr (by first | decide | omega) rfl (pa_cons (pv 2) (pa_cons (pe_meth0 (pv 3) T.cl m_look G_look (hr.mono (by decide)) b_look .nil pass0) pa_nil))))
    (pss_cons (ps_if (pt_not (pt_val (C8.pe_c c__law_same hr (by first | decide | omega) rfl (pa_cons (pe_lst (pa_cons (pe_meth0 (pv 7) T.cl m_look G_look (hr.mono (by decide)) b_look .nil pass0) (pa_cons (pe_meth0 (pv 7) T.cl m_calls G_calls (hr.mono (by decide)) b_calls .nil pass0) pa_nil))) (pa_cons (pe_lst (pa_cons (pe_meth0 (pv 3) T.cl m_look G_look (hr.mono (by decide)) b_look .nil pass0) (pa_cons pe_int pa_nil))) pa_nil)))))
      (pss_one (ps_ret pe_bl))
      pss_nil)
    (pss_cons (ps_for PassesOwn.never rfl (pi_range1 (by rfl) T.b_range (pa_cons (C8.pe_c c__law_take hr (by first | decide | omega) rfl (pa_cons (pv 1) (pa_cons pe_int pa_nil))) pa_nil)) (pg_name (i := 5) sc_law.nd rfl (Or.inl rfl))
      (pss_cons (ps_set (i := 6) sc_law.nd rfl (Or.inl rfl) (C8.pe_c c__law_any_call hr (by first | decide | omega) rfl (pa_cons (pv 1) (pa_cons (pv 2) (pa_cons (pv 4) pa_nil)))))
      (pss_one (ps_if (pt_cmpR op_ne (pe_ix ix_tup (pv 6) pe_int (fun _ _ => rfl)) pe_str (nomark _))
        (pss_cons (ps_expr (C8.pe_c c__law_do hr (by first | decide | omega) rfl (pa_cons (pv 2) (pa_cons (pv 4) (pa_cons (pv 6) pa_nil)))))
        (pss_one (ps_if (PW.pt (pw_or (pt_not (pt_val (C8.pe_c c__law_same hr (by first | decide | omega) rfl (pa_cons (pe_meth (pv 7) T.cl m_do G_do (hr.mono (by decide)) b_do .nil pass0 (pa_cons (pv 6) pa_nil)) (pa_cons (pe_meth (pv 3) T.cl m_do G_do (hr.mono (by decide)) b_do .nil pass0 (pa_cons (pv 6) pa_nil)) pa_nil))))) (pw_or1 (pt_not (pt_val (C8.pe_c c__law_same hr (by first | decide | omega) rfl (pa_cons (pe_meth0 (pv 7) T.cl m_look G_look (hr.mono (by decide)) b_look .nil pass0) (pa_cons (pe_meth0 (pv 3) T.cl m_look G_look (hr.mono (by decide)) b_look .nil pass0) pa_nil))))))))
          (pss_one (ps_ret pe_bl))
          pss_nil)))
        pss_nil))))
    (pss_cons (ps_set (i := 6) sc_law.nd rfl (Or.inl rfl) (pe_tup (pa_cons pe_str (pa_cons (pe_tup (pa_cons pe_int (pa_cons pe_int pa_nil))) (pa_cons (pe_tup (pa_cons pe_int (pa_cons pe_int pa_nil))) (pa_cons pe_str (pa_cons (C8.pe_c c__law_any_values hr (by first | decide | omega) rfl (pa_cons (pv 1) (pa_cons (pv 2) (pa_cons (pv 4) (pa_cons pe_str pa_nil))))) pa_nil)))))))
    (pss_cons (ps_set (i := 8) sc_law.nd rfl (Or.inr rfl) (pe_dget hu (pv 4) pe_str (fun _ _ => rfl)))
    (pss_cons (ps_if (pt_not (pt_val (C8.pe_c c__law_same hr (by first | decide | omega) rfl (pa_cons (pe_meth (pv 7) T.cl m_do G_do (hr.mono (by decide)) b_do .nil pass0 (pa_cons (pv 6) pa_nil)) (pa_cons (pe_meth (pv 3) T.cl m_do G_do (hr.mono (by decide)) b_do .nil pass0 (pa_cons (pv 6) pa_nil)) pa_nil)))))
      (pss_one (ps_ret pe_bl))
      pss_nil)
    (pss_cons (ps_setLc (i := 9) rfl sc_law.nd rfl rfl (sw_true rfl rfl rfl (by decide +kernel)) (own := [("thing", 10)]) (pi_tup (pe_ix ix_tup (pe_meth0 (pv 7) T.cl m_look G_look (hr.mono (by decide)) b_look .nil pass0) pe_int (fun _ _ => rfl))) (blkOk_by (own := [("thing", 10)]) (N := N_law) (sc := defScope s_law) (by decide +kernel)) (fun _ _ _ _ _ => (pg_name (i := 10) sc_law.nd rfl (Or.inl rfl))) (fun _ _ _ _ _ => (pts_one (pt_cmpR (op_eqD hr.units : OpR _ (compareOp .Eq) (rEqD K)) (pe_ix (ix_tup : IxR _ (rIxT K)) (pv 10) pe_int (fun _ _ => rfl)) (pe_tup (pa_cons pe_int (pa_cons pe_int pa_nil))) (nomark _)))) (fun _ _ _ _ _ => (pv 10)))
    (pss_one (ps_ret (pe_and (pe_cmpR op_eq (pe_callB call_len_seq (by rfl) T.b_len (by decide +kernel) (pa_cons (pv 9) pa_nil)) (pe_callB call_len_seq (by rfl) T.b_len (by decide +kernel) (pa_cons (pe_lc (own := [("thing", 10)]) rfl sc_law.nd (pi_tup (pe_ix ix_tup (pe_meth0 (pv 3) T.cl m_look G_look (hr.mono (by decide)) b_look .nil pass0) pe_int (fun _ _ => rfl))) (blkOk_by (own := [("thing", 10)]) (N := N_law) (sc := defScope s_law) (by decide +kernel)) (fun _ _ _ _ _ => (pg_name (i := 10) sc_law.nd rfl (Or.inl rfl))) (fun _ _ _ _ _ => (pts_one (pt_cmpR (op_eqD hr.units : OpR _ (compareOp .Eq) (rEqD K)) (pe_ix (ix_tup : IxR _ (rIxT K)) (pv 10) pe_int (fun _ _ => rfl)) (pe_tup (pa_cons pe_int (pa_cons pe_int pa_nil))) (nomark _)))) (fun _ _ _ _ _ => pe_int)) pa_nil)) (nomark _)) (pe_one (pe_callB (cr_all rfl) (by rfl) T.b_all (by decide +kernel) (pa_cons (pe_lc (own := [("thing", 10)]) rfl sc_law.nd (pi_list (pv 9)) (blkOk_by (own := [("thing", 10)]) (N := N_law) (sc := defScope s_law) (by decide +kernel)) (fun _ _ _ _ _ => (pg_name (i := 10) sc_law.nd rfl (Or.inl rfl))) (fun _ _ _ _ _ => pts_nil) (fun _ _ _ _ _ => (pe_cmpR op_ge (pe_ix (ix_tup : IxR _ (rIxT K)) (pv 10) pe_int (fun _ _ => rfl)) (pv 8) (nomark _)))) pa_nil)))))))))))))))))), ?_⟩
    refine ⟨_, rfl, a, ns, rfl, hS, hlen, fun t c cs H1 s1 nt nc W1 => ?_⟩
    refine ⟨_, rfl, t, c, cs, rfl, W1, fun ka m1 m2 m3 m4 m5 m6 m7 H2 c2 W2 hKs n3 n4 n7 => ?_⟩
    have hN := knOk (m1 := m1) (m2 := m2) (m3 := m3) (m4 := m4) (m5 := m5) (m6 := m6) (m7 := m7) n3 n4 n7
    have h3 : Has3 (knOf m1 m2 m3 m4 m5 m6 m7) := has3
    have hne : NonE (knOf m1 m2 m3 m4 m5 m6 m7) := nonE
    refine ⟨ka, knOf m1 m2 m3 m4 m5 m6 m7, rfl, hKs, kn_names, by show 3 < 60; decide, kn_fields, fun kd ds H3 s3 hK3 nd3 fr3 => ?_⟩
    have hnn : ((knOf m1 m2 m3 m4 m5 m6 m7).map (·.1)).Nodup := kn_names
    have hlk : (knOf m1 m2 m3 m4 m5 m6 m7).length < 60 := by show 3 < 60; decide
    generalize knOf m1 m2 m3 m4 m5 m6 m7 = kn at hN h3 hne hK3 hnn hlk
    have W3 := tape_same W2 s3
    have tK : t ∉ kd :: ds := fun m => by
      have e := fr3 t m
      obtain ⟨kv, q, _⟩ := W2.dc
      rw [e] at q
      cases q
    have hkn : kd ∉ ds := (List.nodup_cons.mp nd3).1
    clear hKs s3 fr3 W2 c2
    -- Outside(kinds)
    refine ⟨_, rfl, fun x dx nx ndx hdx => ?_⟩
    have s4 : Same H3 (upd (upd H3 dx (.own x)) x (.ins C dx [])) := (same_upd ndx).trans (same_upd (by rw [upd_ne (fun q => hdx q.symm)]; exact nx))
    have hx4 := upd_same (H := upd H3 dx (.own x)) (a := x) (o := HO.ins C dx [])
    generalize upd (upd H3 dx (.own x)) x (.ins C dx []) = H4 at s4 hx4
    refine ⟨x, dx, kd, ds, kn, rfl, hx4, hK3.same s4, hkn, hnn, hlk, fun B H5 eBa eBd c5 oB fr5 => ⟨rfl, ?_⟩⟩
    subst eBa
    have s5 : Same H3 H5 := fun b o e => c5.out b o (fun m => by rw [List.mem_singleton.mp m, nx] at e; cases e) (s4 _ _ e)
    have fr5' : ∀ y ∈ B.a :: B.dF :: B.dT :: B.dS :: B.kd :: B.ds, H3 y = none := fun y hy => by
      rcases List.mem_cons.mp hy with rfl | hy
      · exact nx
      · exact s4.free (fr5 y hy)
    have liveK : ∀ y ∈ kd :: ds, ∃ u, H3 y = some u := fun y hy => by
      rcases List.mem_cons.mp hy with hy | hy
      · obtain ⟨_, q, _⟩ := hK3.top
        exact ⟨_, by rw [hy]; exact q⟩
      · obtain ⟨j, hj⟩ := List.mem_iff_getElem?.mp hy
        have hj2 := (List.getElem?_eq_some_iff.mp hj).1
        have hl := hK3.len
        obtain ⟨fv, q, _⟩ := hK3.fld j y (kn[j]'(by omega)) hj (List.getElem?_eq_getElem (by omega))
        exact ⟨_, q⟩
    have tl : ∃ u, H3 t = some u := by obtain ⟨kv, q, _⟩ := W3.dc; exact ⟨_, q⟩
    have subB : ∀ y ∈ B.S, y ∈ B.a :: B.dF :: B.dT :: B.dS :: B.kd :: B.ds := fun y hy => by
      simp only [OA.S, List.mem_cons, List.not_mem_nil, or_false] at hy ⊢
      rcases hy with rfl | rfl | rfl | rfl <;> simp
    have subB2 : ∀ y ∈ B.kd :: B.ds, y ∈ B.a :: B.dF :: B.dT :: B.dS :: B.kd :: B.ds := fun y hy => by
      simp only [List.mem_cons] at hy ⊢
      rcases hy with rfl | hy
      · simp
      · simp [hy]
    have far3 : ∀ y ∈ B.a :: B.dF :: B.dT :: B.dS :: B.kd :: B.ds, y ≠ t ∧ y ∉ kd :: ds := fun y hy => by
      have e := fr5' y hy
      refine ⟨fun q => ?_, fun m => ?_⟩
      · obtain ⟨u, q2⟩ := tl
        rw [← q, e] at q2
        cases q2
      · obtain ⟨u, q2⟩ := liveK y m
        rw [e] at q2
        cases q2
    -- the law's world
    refine ⟨rfl, fun LA0 H6 s6 lw6 ndA frA => ?_⟩
    have oB6 := oB.same s6
    have W6 := tape_same W3 (s5.trans s6)
    have hK6 := hK3.same (s5.trans s6)
    have liveB : ∀ y ∈ B.kd :: B.ds, ∃ u, H5 y = some u := fun y hy => by
      rcases List.mem_cons.mp hy with hy | hy
      · obtain ⟨_, q, _⟩ := oB.kn.top
        exact ⟨_, by rw [hy]; exact q⟩
      · obtain ⟨j, hj⟩ := List.mem_iff_getElem?.mp hy
        have hj2 := (List.getElem?_eq_some_iff.mp hj).1
        have hl := oB.kn.len
        obtain ⟨fv, q, _⟩ := oB.kn.fld j y (kn[j]'(by omega)) hj (List.getElem?_eq_getElem (by omega))
        exact ⟨_, q⟩
    have nA : ∀ y, (∃ u, H5 y = some u) → y ∉ LA0.S := fun y ⟨u, e⟩ m => by
      rw [frA y m] at e
      cases e
    have tA : t ∉ LA0.S := nA t (by obtain ⟨u, q⟩ := tl; exact ⟨u, s5 _ _ q⟩)
    have S6 : Two K H6 t c cs LA0 newW kd ds kn C B newO 0 := by
      refine ⟨⟨W6, ⟨lw6, hK6, ndA, fun y m q => ?_, List.nodup_nil⟩, tA, tK⟩, oB6, twin0 kn, fun b m => ⟨(far3 b (subB b m)).1, ?_, (far3 b (subB b m)).2⟩, fun b m => ⟨(far3 b (subB2 b m)).1, nA b (liveB b m)⟩⟩
      · obtain ⟨u, e⟩ := liveK y q
        exact nA y ⟨u, s5 _ _ e⟩ m
      · obtain ⟨u, e, _⟩ := oB.live b m
        exact nA b ⟨u, e⟩
    clear lw6 ndA frA W6 hK6 oB6 liveB nA tA far3 subB subB2 tl liveK fr5' fr5 s5 c5 oB s4 hx4 tK W3 hK3 nd3 nx ndx hdx s6
    -- the first loop
    refine ⟨_, rfl, t, c, cs, 17, rfl, S6.sc.tp, by decide, by decide, fun r kvs h0 h1 hk => ?_⟩
    have S7 := S6.take hk
    generalize upd H6 t (.dK kvs) = H7 at S7
    refine ⟨_, rfl, by omega, by omega, for_range (n := r.toNat) (fun i σ H' => ∃ (e5 e6 : Option V) (W : Wd) (O : Od), σ = [some (.ref a), some (.ref t), some (.ref kd), some (.ref B.a), some (.ref LA0.w), e5, e6, none, none, none, none] ∧ Two K H' t c cs LA0 W kd ds kn C B O i ∧ Low9 W)
      ⟨none, none, newW, newO, rfl, S7, low9_0⟩ ?_ ?_⟩
    · rintro i σ H8 hi ⟨e5, e6, W, O, rfl, S8, l9⟩
      have hi2 : i < 50 := by omega
      have wok := S8.tw.wok (Nat.lt_of_lt_of_le hi2 (by decide))
      have ook := S8.tw.ook (Nat.lt_of_lt_of_le hi2 (by decide)) hN
      refine ⟨_, rfl, _, rfl, _, rfl, t, c, cs, LA0, W, kd, ds, kn, rfl, S8.sc, wok, hN, h3, fun q cl hcl H10 c10 S10' hCl => ?_⟩
      have S10 := S8.drawn c10 S10'
      refine ⟨_, rfl, B.a, B.dx, _, rfl, S10.ob.at_, lk_no (by decide +kernel), _, rfl, B, O, kn, q, cl, rfl, S10.ob, ook, hCl, fun v1 H11 c11 o11 a11 => ?_⟩
      have sc11 := S10.sc1 c11
      refine ⟨_, rfl, _, rfl, _, rfl, LA0, W, kd, ds, kn, q, cl, rfl, sc11.lk, hN, wok, hCl.kp c11.kp, fun v2 H12 c12 l12 a12 => ?_⟩
      obtain ⟨tw, ew, ec⟩ := S10.tw.do (cl_fit hCl)
      exact ⟨some (.int (0 + (i : Int))), some (.ref q), doW kn W cl, oDo kn O cl, rfl, S10.both c11 o11 c12 l12 tw, l9.step hcl⟩
    rintro σ H8 ⟨e5, e6, W, O, rfl, S8, l9⟩
    have hn1 : r.toNat < 17 := by omega
    obtain ⟨n0, en0⟩ : ∃ n0, n0 = r.toNat := ⟨_, rfl⟩
    rw [← en0] at S8 hn1
    have ook := S8.tw.ook (show n0 < 60 by omega) hN
    -- the second outside
    refine ⟨_, rfl, _, rfl, B.a, B.dx, _, rfl, S8.ob.at_, lk_no (by decide +kernel), B, O, kn, rfl, S8.ob, ook, fun lv H9 fs sp s9 p9 q9 p9' q9' la => ?_⟩
    have S9 := S8.same s9
    have sn : Seen fs O.things sp := ⟨(p9.map (·.1)).nodup_iff.mpr ook.w.kF, ook.w.nd, p9'.nodup_iff.mpr S8.tw.ndS, by rw [p9.length_eq]; exact ook.w.lenF, ook.w.lenT, by rw [p9'.length_eq]; exact ook.lenS⟩
    refine ⟨kd, ds, kn, lv, O.mom, fs, O.things, sp, rfl, S9.sc.lk.kn, hkn, hnn, hlk, la, sn, fun B2 g H10 s10 ob2 fr2 hm hi => ?_⟩
    obtain ⟨tv, rel⟩ := twin_of S8.tw (P := ⟨O.things, sp, fs, O.mom, g, 0⟩) rfl p9 p9' rfl hi (by have := l9.nxt; have := S8.tw.mom; show W.nxt ≤ g + 1; omega)
    have R0 : Tri K H10 t c cs LA0 W kd ds kn C B O n0 B2 ⟨O.things, sp, fs, O.mom, g, 0⟩ _ := S9.tri s10 ob2 fr2 tv rel
    clear la sn s9 s10 ob2 fr2 S8 S9 ook
    obtain ⟨PP, ePP⟩ : ∃ PP : Od, PP = ⟨O.things, sp, fs, O.mom, g, 0⟩ := ⟨_, rfl⟩
    have cPP : PP.calls = 0 := by rw [ePP]
    rw [← ePP] at R0
    generalize (⟨W.things, W.toks, PP.fences, W.mom, PP.grt + 1⟩ : Wd) = U0 at R0
    clear tv rel hm hi p9 q9 p9' q9' ePP
    -- both looks, before anything is done
    have ook := R0.two.tw.ook (show n0 < 60 by omega) hN
    have ook2 := R0.tw2.ook (show n0 < 60 by omega) hN
    refine ⟨_, rfl, B2.a, B2.dx, _, rfl, R0.ob2.at_, lk_no (by decide +kernel), B2, PP, kn, rfl, R0.ob2, ook2, fun lv1 H11 fs1 sp1 s11 p11 q11 p11' q11' la1 => ?_⟩
    have R1 := R0.same s11
    refine ⟨_, rfl, B2.a, B2.dx, _, rfl, R1.ob2.at_, lk_no (by decide +kernel), B2, PP, kn, rfl, R1.ob2, by show 2 ≤ sizeLine; decide, fun l1 n1 => ?_⟩
    rw [cPP]
    have s12 := same_upd (o := HO.lst [lv1, .int 0]) n1
    have dl1 : Dp K (upd H11 l1 (.lst [lv1, .int 0])) (.ref l1) (.list [lookD PP.mom fs1 PP.things sp1, .int 0]) := .lst (SqL.of upd_same) (.cons (dp_mono s12 _ _ la1.dp) (.cons (.int _) .nil))
    have R2 := R1.same s12
    generalize upd H11 l1 (.lst [lv1, .int 0]) = H12 at dl1 R2
    refine ⟨_, rfl, B.a, B.dx, _, rfl, R2.two.ob.at_, lk_no (by decide +kernel), B, O, kn, rfl, R2.two.ob, ook, fun lv2 H13 fs2 sp2 s13 p13 q13 p13' q13' la2 => ⟨by show 2 ≤ sizeLine; decide, fun l2 n2 => ?_⟩⟩
    have s14 := same_upd (o := HO.lst [lv2, .int 0]) n2
    have R4 := R2.same (s13.trans s14)
    have e1 := look_same R0.two.tw R0.tw2 R0.rel p13 q13 p11 q11 p13' q13' p11' q11'
    have dl2 : Dp K (upd H13 l2 (.lst [lv2, .int 0])) (.ref l2) (.list [lookD PP.mom fs1 PP.things sp1, .int 0]) := .lst (SqL.of upd_same) (.cons (by rw [e1]; exact dp_mono s14 _ _ la2.dp) (.cons (.int _) .nil))
    have ok6 : okD 6 (.list [lookD PP.mom fs1 PP.things sp1, .int 0]) := by
      refine ⟨by show 2 ≤ 1000000; decide, fun d hd => ?_⟩
      simp only [List.mem_cons, List.not_mem_nil, or_false] at hd
      rcases hd with rfl | rfl
      · exact ok_look R0.tw2 (by omega) hN p11 p11'
      · trivial
    refine ⟨.ref l1, .ref l2, _, rfl, dp_mono (s13.trans s14) _ _ dl1, dl2, ok6, _, rfl, iteF ?_⟩
    clear dl1 dl2 ok6 e1 la1 la2 p11 p11' q11 q11' p13 p13' q13 q13' s14 s13 s12 s11 n1 n2 ook ook2 R0 R1 R2
    generalize upd H13 l2 (.lst [lv2, .int 0]) = H14 at R4
    -- the second loop
    refine ⟨_, rfl, t, c, cs, 11, rfl, R4.two.sc.tp, by decide, by decide, fun r2 kvs h20 h21 hk => ?_⟩
    have R5 := R4.take hk
    generalize upd H14 t (.dK kvs) = H15 at R5
    refine ⟨_, rfl, by omega, by omega, for_range (n := r2.toNat) (fun i σ H' => ∃ (e5 e6 : Option V) (W : Wd) (O PP : Od) (U : Wd), σ = [some (.ref a), some (.ref t), some (.ref kd), some (.ref B.a), some (.ref LA0.w), e5, e6, some (.ref B2.a), none, none, none] ∧ Tri K H' t c cs LA0 W kd ds kn C B O (n0 + i) B2 PP U ∧ Low9 W)
      ⟨e5, e6, W, O, PP, U0, rfl, R5, l9⟩ ?_ ?_⟩
    · clear R4 R5 l9 cPP
      rintro i σ H16 hi ⟨e5, e6, W, O, PP, U, rfl, R6, l9⟩
      have hi2 : n0 + i < 50 := by omega
      have wok := R6.two.tw.wok (show n0 + i < 60 by omega)
      have ook := R6.two.tw.ook (show n0 + i < 60 by omega) hN
      have ook2 := R6.tw2.ook (show n0 + i < 60 by omega) hN
      refine ⟨_, rfl, _, rfl, _, rfl, t, c, cs, LA0, W, kd, ds, kn, rfl, R6.two.sc, wok, hN, h3, fun q cl hcl H17 c17 S17 hCl => ?_⟩
      have R7 := R6.drawn c17 S17
      obtain ⟨xs, sxs, hxs, _⟩ := cl_data hCl
      obtain ⟨wv, wr, rfl, hwv, _⟩ := ds_cons hxs
      obtain rfl := dp_str hwv
      refine ⟨_, rfl, q, _, _, _, rfl, rfl, sxs, atI_nat (j := 0) rfl, rfl, _, rfl, ?_⟩
      show (if (!decide (V.str (clW cl) = V.str "make")) = true then _ else _ : Prop)
      rw [deq]
      have em : decide (clW cl = ("make" : Str)) = isMk cl := by
        cases cl with
        | fence m => show decide (("fence" : Str) = "make") = false; decide +kernel
        | make m t kind vals => show decide (("make" : Str) = "make") = true; decide +kernel
        | change m one ver f v => show decide (("change" : Str) = "make") = false; decide +kernel
        | take m one ver => show decide (("take" : Str) = "make") = false; decide +kernel
      rw [em]
      cases hmk : isMk cl with
      | true => exact iteF ⟨some (.int (0 + (i : Int))), some (.ref q), W, O, PP, U, rfl, ⟨⟨R7.two.sc, R7.two.ob, R7.two.tw.up, R7.two.ap1, R7.two.ap2⟩, R7.ob2, R7.tw2.up, R7.rel, R7.q1, R7.q2⟩, l9⟩
      | false =>
        refine iteT ?_
        refine ⟨_, rfl, _, rfl, _, rfl, LA0, W, kd, ds, kn, q, cl, rfl, R7.two.sc.lk, hN, wok, hCl, fun v0 H18 c18 l18 _ => ?_⟩
        have nd : (W.fences.map (·.1)).Nodup := R7.two.tw.kF
        obtain ⟨tw, ew, _⟩ := R7.two.tw.do (cl_fit hCl)
        obtain ⟨tv, ev, _⟩ := R7.tw2.do (cl_fit hCl)
        obtain ⟨wr', enx⟩ := R7.rel.step (kn := kn) nd hmk
        have ewhy : oWhy kn PP cl = oWhy kn O cl := by rw [ev, ew, R7.rel.why nd]
        have ob18 := R7.ob2.ch c18 (fun a m q => (R7.q1 a q).2.1 m) (fun a m q => (R7.q2 a q).2.1 m)
        obtain ⟨_, bb18⟩ := R7.two.law c18 l18 (tw.ids.imp fun q => Int.ne_of_lt q)
        refine ⟨_, rfl, B2.a, B2.dx, _, rfl, ob18.at_, lk_no (by decide +kernel), _, rfl, B2, PP, kn, q, cl, rfl, ob18, ook2, hCl.kp c18.kp, fun v1 H19 c19 o19 a19 => ?_⟩
        have bb19 := bb18.ch c19 (fun a m q => (R7.q1 a m).2.2.2.1 q) (fun a m q => (R7.q1 a m).2.2.2.2 q)
        refine ⟨_, rfl, B.a, B.dx, _, rfl, bb19.at_, lk_no (by decide +kernel), _, rfl, B, O, kn, q, cl, rfl, bb19, ook, (hCl.kp c18.kp).kp c19.kp, fun v3 H20 c20 o20 a20 => ?_⟩
        have R8 := R7.all c18 l18 c19 o19 c20 o20 tw tv wr'
        rw [ewhy] at a19
        refine ⟨v1, v3, ansD (oWhy kn O cl), rfl, ans_dp (a19.kp c20.kp), ans_dp a20, okD_ans _, _, rfl, iteF ?_⟩
        have hi3 : n0 + i + 1 < 60 := by omega
        have ook3 := R8.two.tw.ook hi3 hN
        have ook4 := R8.tw2.ook hi3 hN
        refine ⟨_, rfl, B2.a, B2.dx, _, rfl, R8.ob2.at_, lk_no (by decide +kernel), B2, _, kn, rfl, R8.ob2, ook4, fun lv1 H21 fs1 sp1 s21 p11 q11 p11' q11' la1 => ?_⟩
        have R9 := R8.same s21
        refine ⟨_, rfl, B.a, B.dx, _, rfl, R9.two.ob.at_, lk_no (by decide +kernel), B, _, kn, rfl, R9.two.ob, ook3, fun lv2 H22 fs2 sp2 s22 p13 q13 p13' q13' la2 => ?_⟩
        have e1 := look_same R8.two.tw R8.tw2 R8.rel p13 q13 p11 q11 p13' q13' p11' q11'
        refine ⟨lv1, lv2, _, rfl, dp_mono s22 _ _ la1.dp, by rw [e1]; exact la2.dp, okD_up (ok_look R8.tw2 hi3 hN p11 p11'), _, rfl, iteF ?_⟩
        exact ⟨some (.int (0 + (i : Int))), some (.ref q), doW kn W cl, oDo kn O cl, oDo kn PP cl, doW kn U cl, rfl, R9.same s22, l9.step hcl⟩
    clear R4 R5 l9 cPP
    rintro σ H16 ⟨e5, e6, W, O, PP, U, rfl, R6, l9⟩
    have hn2 : n0 + r2.toNat < 40 := by omega
    generalize n0 + r2.toNat = n at R6 hn2
    have wok := R6.two.tw.wok (show n < 60 by omega)
    have ook := R6.two.tw.ook (show n < 60 by omega) hN
    have ook2 := R6.tw2.ook (show n < 60 by omega) hN
    have nd : (W.fences.map (·.1)).Nodup := R6.two.tw.kF
    obtain ⟨nf, hnf, _⟩ := h3 "net" (by simp)
    -- the last call
    refine ⟨by show 2 ≤ sizeLine; decide, fun ma nma => ⟨by show 2 ≤ sizeLine; decide, fun ta nta => ?_⟩⟩
    have s1 := same_upd (o := HO.tup [V.int 9, .int 1]) nma
    have s2 := same_upd (o := HO.tup [V.int 9, .int 0]) nta
    have hma := s2 _ _ (upd_same (H := H16) (a := ma) (o := HO.tup [V.int 9, .int 1]))
    have hta := upd_same (H := upd H16 ma (.tup [V.int 9, .int 1])) (a := ta) (o := HO.tup [V.int 9, .int 0])
    have R7 := R6.same (s1.trans s2)
    generalize upd (upd H16 ma (.tup [V.int 9, .int 1])) ta (.tup [V.int 9, .int 0]) = H17 at R7 hma hta
    refine ⟨_, rfl, _, rfl, _, rfl, t, c, cs, LA0, W, kd, ds, kn, "net", nf, rfl, R7.two.sc, wok, hN, hnf, fun va vals H18 c18 S18 hvn hV => ⟨by show 5 ≤ sizeLine; decide, fun q nq => ?_⟩⟩
    have R8 := R7.drawn c18 S18
    have s3 := same_upd (o := HO.tup [V.str "make", .ref ma, .ref ta, .str "net", .ref va]) nq
    have lv0 : vals.length < 60 := by
      have := congrArg List.length hvn
      rw [List.length_map, List.length_map] at this
      have := hN.few _ _ hnf
      omega
    have hCl : ClAt K (upd H18 q (.tup [V.str "make", .ref ma, .ref ta, .str "net", .ref va])) kn q (.make (9, 1) (9, 0) "net" vals) :=
      ⟨ma, ta, va, nf, .of upd_same, .of (s3 _ _ (c18.kp ma (.tup [V.int 9, .int 1]) trivial hma)), s3 _ _ (c18.kp ta (.tup [V.int 9, .int 0]) trivial hta), vals_kp hV (.of_same s3), hnf, lv0, hasF_of hvn⟩
    have R9 := R8.same s3
    generalize upd H18 q (.tup [V.str "make", .ref ma, .ref ta, .str "net", .ref va]) = H19 at R9 hCl
    obtain ⟨cl, ecl⟩ : ∃ cl : Cl, cl = .make (9, 1) (9, 0) "net" vals := ⟨_, rfl⟩
    rw [← ecl] at hCl
    refine ⟨_, rfl, LA0.w, _, rfl, R9.two.sc.lk.lw.r.g_next, ?_⟩
    obtain ⟨tw, ew, _⟩ := R9.two.tw.do (cl_fit hCl)
    obtain ⟨tv, ev, _⟩ := R9.tw2.do (cl_fit hCl)
    have ewhy : oWhy kn PP cl = oWhy kn O cl := by rw [ev, ew, R9.rel.why nd]
    refine ⟨_, rfl, B2.a, B2.dx, _, rfl, R9.ob2.at_, lk_no (by decide +kernel), _, rfl, B2, PP, kn, q, cl, rfl, R9.ob2, ook2, hCl, fun v1 H20 c20 o20 a20 => ?_⟩
    have b20 := R9.two.ob.ch c20 (fun a m q => (R9.q1 a m).2.2.2.1 q) (fun a m q => (R9.q1 a m).2.2.2.2 q)
    refine ⟨_, rfl, B.a, B.dx, _, rfl, b20.at_, lk_no (by decide +kernel), _, rfl, B, O, kn, q, cl, rfl, b20, ook, hCl.kp c20.kp, fun v3 H21 c21 o21 a21 => ?_⟩
    have p21 := o20.ch c21 (fun a m q => (R9.q1 a q).2.2.2.1 m) (fun a m q => (R9.q2 a q).2.2 m)
    rw [ewhy] at a20
    refine ⟨v1, v3, ansD (oWhy kn O cl), rfl, ans_dp (a20.kp c21.kp), ans_dp a21, okD_ans _, _, rfl, iteF ?_⟩
    have hn3 : n + 1 < 60 := by omega
    have ook3 := tw.ook hn3 hN
    have ook4 := tv.ook hn3 hN
    have pick := picked R9.rel l9 (A := (doW kn W cl).things) (B := (doW kn U cl).things) (t := (9, 0)) (kind := "net") (vals := vals) (by decide) (by rw [ecl]; exact R9.rel.made nd)
    rw [← tw.things, ← tv.things] at pick
    have lP := ook4.w.lenT
    have lO := ook3.w.lenT
    have lP : (oDo kn PP cl).things.length < 60 := lP
    have lO : (oDo kn O cl).things.length < 60 := lO
    generalize oDo kn PP cl = P3 at *
    generalize oDo kn O cl = O3 at *
    -- the things with the token, in the second one
    refine ⟨_, rfl, B2.a, B2.dx, _, rfl, p21.at_, lk_no (by decide +kernel), B2, P3, kn, rfl, p21, ook4, fun lv1 H22 fs1 sp1 s22 _ _ _ _ ⟨ra, xa, xb, xc, ps, as, ts, eqr, g1, g2, g3, g4, g5, g6, g7⟩ => ?_⟩
    subst eqr
    have p22 := p21.same s22
    have o22 := o21.same s22
    refine ⟨ra, _, _, _, rfl, rfl, g1, atI_nat (j := 2) rfl, xb, rfl, ⟨_, g4⟩, fun D hD => lc_tup (K := K) (a := xb) (xs := as.map V.ref) (fun i H' => Same H22 H' ∧ ∃ bs : List Addr, H' D = some (.lst (bs.map V.ref)) ∧ Paired (fun a t => ThAt K H' a t) bs ((P3.things.take i).filter (isTok (9, 0))))
      ⟨same_upd hD, [], upd_same, .nil⟩ (fun i H' _ ⟨s, _⟩ => same_seqT s g4) ?_ ?_⟩
    · rintro i y H23 hy ⟨s23, bs, hd, hP⟩
      obtain ⟨p, hp, rfl⟩ : ∃ p, as[i]? = some p ∧ V.ref p = y := by
        rw [List.getElem?_map] at hy
        cases e : as[i]? with
        | none => rw [e] at hy; cases hy
        | some n => rw [e] at hy; exact ⟨n, rfl, Option.some.inj hy⟩
      obtain ⟨th, ht, hA⟩ := par_at g5 hp
      have hA23 := th_kp hA (.of_same s23)
      refine ⟨rfl, tok_eq hA23 rfl fun H24 s24 => ?_⟩
      have hd24 := s24 _ _ hd
      have hP24 := par_imp (fun _ _ q => th_kp q (.of_same s24)) hP
      have hi2 := (List.getElem?_eq_some_iff.mp ht).1
      have lb : bs.length < 60 := by
        rw [hP.length]
        refine Nat.lt_of_le_of_lt (List.length_filter_le _ _) ?_
        rw [List.length_take]
        omega
      cases hq : isTok (9, 0) th with
      | false =>
        refine iteF ⟨s23.trans s24, bs, hd24, ?_⟩
        rw [filter_snoc ht, if_neg (by rw [hq]; simp), List.append_nil]
        exact hP24
      | true =>
        refine iteT ⟨_, rfl, _, hd24, by rw [List.length_map]; exact Nat.lt_trans lb (by decide), fun b o e => ?_, bs ++ [p], ?_, ?_⟩
        · rw [upd_ne (ne_of_none e hD)]
          exact s24 _ _ (s23 _ _ e)
        · rw [upd_same, List.map_append]; rfl
        · rw [filter_snoc ht, if_pos hq]
          have kp : Kp H24 (upd H24 D (.lst (bs.map V.ref ++ [.ref p]))) := .put hd24 (fun z => z)
          exact par_snoc (par_imp (fun _ _ q => th_kp q kp) hP24) (th_kp (th_kp hA23 (.of_same s24)) kp)
    · rintro H23 ⟨s23, bs, hd, hP⟩
      rw [List.length_map, g5.length, List.take_length] at hP
      have o23 := o22.same s23
      have lbs := hP.length
      refine ⟨_, rfl, D, _, rfl, .inl (SqL.of hd), ?_⟩
      refine ⟨_, rfl, B.a, B.dx, _, rfl, o23.at_, lk_no (by decide +kernel), B, O3, kn, rfl, o23, ook3, fun lv2 H24 fs2 sp2 s24 _ _ _ _ ⟨rb, ya, yb, yc, ps2, as2, ts2, eqr2, k1, k2, k3, k4, k5, k6, k7⟩ => ?_⟩
      subst eqr2
      have hd24 := s24 _ _ hd
      have hP24 := par_imp (fun _ _ q => th_kp q (.of_same s24)) hP
      refine ⟨rb, _, _, _, rfl, rfl, k1, atI_nat (j := 2) rfl, yb, rfl, ⟨_, k4⟩, fun D2 hD2 => lc_tup (K := K) (a := yb) (xs := as2.map V.ref) (fun i H' => Same H24 H' ∧ H' D2 = some (.lst (List.replicate ((O3.things.take i).filter (isTok (9, 0))).length (V.int 1))))
        ⟨same_upd hD2, upd_same⟩ (fun i H' _ ⟨s, _⟩ => same_seqT s k4) ?_ ?_⟩
      · rintro i y H25 hy ⟨s25, hd2⟩
        obtain ⟨p, hp, rfl⟩ : ∃ p, as2[i]? = some p ∧ V.ref p = y := by
          rw [List.getElem?_map] at hy
          cases e : as2[i]? with
          | none => rw [e] at hy; cases hy
          | some n => rw [e] at hy; exact ⟨n, rfl, Option.some.inj hy⟩
        obtain ⟨th, ht, hA⟩ := par_at k5 hp
        have hA25 := th_kp hA (.of_same s25)
        refine ⟨rfl, tok_eq hA25 rfl fun H26 s26 => ?_⟩
        have hd26 := s26 _ _ hd2
        have lb : ((O3.things.take i).filter (isTok (9, 0))).length < 60 := by
          refine Nat.lt_of_le_of_lt (List.length_filter_le _ _) ?_
          rw [List.length_take]
          omega
        cases hq : isTok (9, 0) th with
        | false =>
          refine iteF ⟨s25.trans s26, ?_⟩
          rw [filter_snoc ht, if_neg (by rw [hq]; simp), List.append_nil]
          exact hd26
        | true =>
          refine iteT ⟨_, hd26, by rw [List.length_replicate]; exact Nat.lt_trans lb (by decide), fun b o e => ?_, ?_⟩
          · rw [upd_ne (ne_of_none e hD2)]
            exact s26 _ _ (s25 _ _ e)
          · rw [upd_same, filter_snoc ht, if_pos hq, List.length_append]
            exact congrArg (fun l => some (HO.lst l)) List.replicate_succ'.symm
      · rintro H25 ⟨s25, hd2⟩
        rw [List.length_map, k5.length, List.take_length] at hd2
        refine ⟨D2, _, rfl, .inl (SqL.of hd2), ?_⟩
        have hd25 := s25 _ _ hd24
        have hP25 := par_imp (fun _ _ q => th_kp q (.of_same s25)) hP24
        refine ⟨rfl, _, rfl, ?_⟩
        show (if decide (V.int ((bs.map V.ref).length : Int) = V.int ((List.replicate ((O3.things.filter (isTok (9, 0))).length) (V.int 1)).length : Int)) = true then _ else _ : Prop)
        rw [List.length_map, List.length_replicate, lbs, pick.1, decide_eq_true rfl]
        refine iteT ?_
        refine ⟨_, rfl, D, rfl, ⟨_, SqL.of hd25⟩, fun D3 hD3 => lc_list (K := K) (a := D) (xs := bs.map V.ref) (fun i H' => Same H25 H' ∧ H' D3 = some (.lst ((List.replicate i true).map V.bl)))
          ⟨same_upd hD3, upd_same⟩ (fun i H' _ ⟨s, _⟩ => SqL.of (s _ _ hd25)) ?_ ?_⟩
        · rintro i y H26 hy ⟨s26, hd3⟩
          obtain ⟨p, hp, rfl⟩ : ∃ p, bs[i]? = some p ∧ V.ref p = y := by
            rw [List.getElem?_map] at hy
            cases e : bs[i]? with
            | none => rw [e] at hy; cases hy
            | some n => rw [e] at hy; exact ⟨n, rfl, Option.some.inj hy⟩
          obtain ⟨th, ht, hA⟩ := par_at hP25 hp
          obtain ⟨wa, ua, st, _⟩ := th_kp hA (.of_same s26)
          have big := pick.2 th (List.mem_of_getElem? ht)
          have hi2 := (List.getElem?_eq_some_iff.mp hp).1
          have lb : bs.length < 60 := by
            rw [lbs]
            exact Nat.lt_of_le_of_lt (List.length_filter_le _ _) lP
          refine ⟨rfl, _, rfl, p, _, _, _, rfl, rfl, st, atI_nat (j := 0) rfl, _, rfl, _, _, rfl, rfl, _, hd3, by rw [List.length_map, List.length_replicate]; exact Nat.lt_trans (show i < 60 by omega) (by decide), fun b o e => ?_, ?_⟩
          · rw [upd_ne (ne_of_none e hD3)]
            exact s26 _ _ e
          · show upd H26 D3 (.lst ((List.replicate i true).map V.bl ++ [V.bl (decide (W.nxt ≤ th.id))])) D3 = _
            rw [upd_same, decide_eq_true big, List.replicate_succ', List.map_append]
            rfl
        · rintro H26 ⟨s26, hd3⟩
          refine ⟨D3, _, rfl, SqL.of hd3, ?_⟩
          have e : ∀ m : Nat, (List.replicate m true).all id = true := fun m => by rw [List.all_replicate]; simp
          rw [e]
          exact k _
end
end K07
namespace K07
open PySem PySem.Spec PyProof.Rows L2 LB
section
variable {P : Program} {w : World} {K : PySem.W.Frag} {mg : Str → Option Value} {base : Heap}
theorem ok__law_tape {f : Addr} {fd : FuncData} (F : Fun K "_law_tape" "_law_tape" s__law_tape f fd) (T : Blt mg) : FnOk P w K mg base CX0 1 f fd ["script"] (spTape K) := by
  refine F.ok sc__law_tape (fun vs H Q E h => ?_) (fun cdv A outer s H vs Q E hr h => ?_)
  · obtain ⟨a, ns, rfl, _⟩ := h
    rfl
  · obtain ⟨a, ns, rfl, hS, hlen, k⟩ := h
    refine ⟨_, (pss_cons (ps_setLc (i := 1) rfl sc__law_tape.nd rfl rfl (sw_true rfl rfl rfl (by decide +kernel)) (own := [("cell", 3)]) (pi_list (pv 0)) (blkOk_by (own := [("cell", 3)]) (N := N__law_tape) (sc := defScope s__law_tape) (by decide +kernel)) (fun _ _ _ _ _ => (pg_name (i := 3) sc__law_tape.nd rfl (Or.inl rfl))) (fun _ _ _ _ _ => pts_nil) (fun _ _ _ _ _ => (pe_callB call_abs (by rfl) T.b_abs (by decide +kernel) (pa_cons (pe_callTy call_int1 (by rfl) T.b_int (by decide +kernel) (pa_cons (pv 3) pa_nil)) pa_nil))))
    (pss_cons (ps_set (i := 2) sc__law_tape.nd rfl (Or.inl rfl) pe_int)
    (pss_cons (ps_for PassesOwn.never rfl (pi_list (pv 1)) (pg_name (i := 3) sc__law_tape.nd rfl (Or.inl rfl))
      (pss_one (ps_set (i := 2) sc__law_tape.nd rfl (Or.inl rfl) (pe_op op_mod (pe_callTy call_int1 (by rfl) T.b_int (by decide +kernel) (pa_cons (pe_op op_add (pe_op op_mul (pv 2) pe_int) (pv 3)) pa_nil)) pe_int))))
    (pss_one (ps_ret (pe_disp (pps_cons pe_str (pv 1) (pps_cons pe_str pe_int (pps_cons pe_str pe_int (pps_cons pe_str (pv 2) (pps_cons pe_str pe_int pps_nil))))) (by rfl) (by rfl) (fun z => by cases z) (by decide))))))), ?_⟩
    refine ⟨_, rfl, a, rfl, ⟨_, hS⟩, fun D hD => lc_list (K := K) (a := a) (xs := ns.map V.int) (fun i H' => Same H H' ∧ H' D = some (.lst ((ns.take i).map fun n => V.int (absI n)))) ⟨same_upd hD, by rw [upd_same]; rfl⟩ (fun i H' _ h => h.1.seq hS) ?_ ?_⟩
    · rintro i x H1 hx ⟨s1, hd⟩
      obtain ⟨n, hn, rfl⟩ : ∃ n, ns[i]? = some n ∧ V.int n = x := by
        rw [List.getElem?_map] at hx
        cases e : ns[i]? with
        | none => rw [e] at hx; cases hx
        | some n => rw [e] at hx; exact ⟨n, rfl, Option.some.inj hx⟩
      have hi := (List.getElem?_eq_some_iff.mp hn).1
      refine ⟨rfl, _, rfl, .inl ⟨_, rfl, _, rfl, _, hd, ?_, ?_, ?_⟩⟩
      · rw [List.length_map, List.length_take]
        exact Nat.lt_of_le_of_lt (show min i ns.length ≤ 100 by omega) (by decide)
      · exact fun b o e => by
          rw [upd_ne (ne_of_none e hD)]
          exact s1 b o e
      · rw [upd_same, List.take_add_one, hn, List.map_append]
        rfl
    · rintro H1 ⟨s1, hd⟩
      rw [List.length_map, List.take_length] at hd
      have hd' : H1 D = some (.lst ((ns.map absI).map V.int)) := by rw [hd, List.map_map]; rfl
      -- seed
      refine ⟨_, rfl, D, rfl, ⟨_, SqL.of hd'⟩, for_list (K := K) (a := D) (xs := (ns.map absI).map V.int) (fun i σ H' => H' = H1 ∧ ∃ (s : Int) (e3 : Option V), σ = [some (.ref a), some (.ref D), some (.int s), e3] ∧ 0 ≤ s ∧ s < 2147483647)
        ⟨rfl, 7, none, rfl, by decide, by decide⟩ (fun i σ H' _ h => by rw [h.1]; exact SqL.of hd') ?_ ?_⟩
      · rintro i x σ H2 hx ⟨rfl, s, e3, rfl, h0, h1⟩
        obtain ⟨n, hn, rfl⟩ : ∃ n, (ns.map absI)[i]? = some n ∧ V.int n = x := by
          rw [List.getElem?_map] at hx
          cases e : (ns.map absI)[i]? with
          | none => rw [e] at hx; cases hx
          | some n => rw [e] at hx; exact ⟨n, rfl, Option.some.inj hx⟩
        refine ⟨_, rfl, _, _, rfl, rfl, .inl ⟨by omega, by omega⟩, _, rfl, _, _, rfl, rfl, .inl ⟨_, rfl, _, _, rfl, rfl, (by show (0 : Int) < 2147483647; decide), ?_⟩⟩
        exact ⟨rfl, _, _, rfl, Int.emod_nonneg _ (by decide), Int.emod_lt_of_pos _ (by decide)⟩
      · rintro σ H2 ⟨rfl, s, e3, rfl, h0, h1⟩
        refine fun t nt => ⟨_, rfl, _, rfl, upd_same, tapeK D 0 0 s 0, rfl, by show 5 ≤ 15; decide, ?_⟩
        rw [p_new, upd_upd]
        have nD : D ≠ t := ne_of_none hd' nt
        refine k t D (ns.map absI) _ (s1.trans (same_upd nt)) (s1.free nt) hD ⟨⟨_, upd_same, 0, 0, s, 0, rfl, by decide, by omega, by decide, h0, h1⟩, by rw [upd_ne nD]; exact hd', fun x hx => ?_⟩
        obtain ⟨y, _, rfl⟩ := List.mem_map.mp hx
        unfold absI
        split <;> omega
theorem ok__law_take {f : Addr} {fd : FuncData} (F : Fun K "_law_take" "_law_take" s__law_take f fd) (T : Blt mg) : FnOk P w K mg base CX0 1 f fd ["tape", "many"] spTake := by
  refine F.ok sc__law_take (fun vs H Q E h => ?_) (fun cdv A outer s H vs Q E hr h => ?_)
  · obtain ⟨t, c, cs, many, rfl, _⟩ := h
    rfl
  · obtain ⟨t, c, cs, many, rfl, W, hm0, hm1, k⟩ := h
    have hu := hu_of hr
    refine ⟨_, (C8.pss_cut (ps_if (PW.pt (pw_and (pt_cmpR op_eq (pe_dget hu (pv 0) pe_str (fun _ _ => rfl)) pe_int (nomark _)) (pw_and1 (pt_cmpR op_lt (pe_dget hu (pv 0) pe_str (fun _ _ => rfl)) (pe_callB call_len_seq (by rfl) T.b_len (by decide +kernel) (pa_cons (pe_dget hu (pv 0) pe_str (fun _ _ => rfl)) pa_nil)) (nomark _)))))
      (pss_cons (ps_dput hu (pv 0) pe_str (pe_ix ix_list (pe_dget hu (pv 0) pe_str (fun _ _ => rfl)) (pe_dget hu (pv 0) pe_str (fun _ _ => rfl)) (fun _ _ => rfl)) rfl)
      (pss_one (ps_dput hu (pv 0) pe_str (pe_op op_add (pe_dget hu (pv 0) pe_str (fun _ _ => rfl)) pe_int) rfl)))
      pss_nil)
    (pss_cons (ps_if (pt_cmpR op_gt (pe_dget hu (pv 0) pe_str (fun _ _ => rfl)) pe_int (nomark _))
      (pss_cons (ps_set (i := 2) sc__law_take.nd rfl (Or.inl rfl) (pe_op op_modN (pe_callTy call_int1 (by rfl) T.b_int (by decide +kernel) (pa_cons (pe_dget hu (pv 0) pe_str (fun _ _ => rfl)) pa_nil)) (pv 1)))
      (pss_cons (ps_dput hu (pv 0) pe_str (pe_op op_fdivN (pe_dget hu (pv 0) pe_str (fun _ _ => rfl)) (pv 1)) rfl)
      (pss_one (ps_ret (pv 2)))))
      pss_nil)
    (pss_cons (ps_dput hu (pv 0) pe_str (pe_op op_add (pe_dget hu (pv 0) pe_str (fun _ _ => rfl)) pe_int) rfl)
    (pss_cons (ps_set (i := 3) sc__law_take.nd rfl (Or.inl rfl) (pe_op op_mod (pe_callTy call_int1 (by rfl) T.b_int (by decide +kernel) (pa_cons (pe_op op_add (pe_op op_mul (pe_dget hu (pv 0) pe_str (fun _ _ => rfl)) pe_int) (pe_op op_mul (pe_dget hu (pv 0) pe_str (fun _ _ => rfl)) pe_int)) pa_nil)) pe_int))
    (pss_cons (ps_set (i := 3) sc__law_take.nd rfl (Or.inl rfl) (pe_op op_mod (pe_callTy call_int1 (by rfl) T.b_int (by decide +kernel) (pa_cons (pe_op op_add (pe_op op_add (pe_op op_mul (pv 3) (pv 3)) (pe_op op_mul (pe_dget hu (pv 0) pe_str (fun _ _ => rfl)) pe_int)) pe_int) pa_nil)) pe_int))
    (pss_one (ps_ret (pe_op op_modN (pe_callTy call_int1 (by rfl) T.b_int (by decide +kernel) (pa_cons (pv 3) pa_nil)) (pv 1))))))))), ?_⟩
    obtain ⟨kvs, ht, a, l, s, z, rfl, ha0, ha1, hl0, hs0, hs1⟩ := W.dc
    refine ⟨fun σ' H' => σ' = [some (.ref t), some (.int many), none, none] ∧ ∃ (a l s z : Int), H' = upd H t (.dK (tapeK c a l s z)) ∧ 0 ≤ a ∧ a ≤ cs.length ∧ 0 ≤ l ∧ 0 ≤ s ∧ s < 2147483647, ?_, ?_⟩
    · have stay : ∃ (a' l' s' z' : Int), H = upd H t (.dK (tapeK c a' l' s' z')) ∧ 0 ≤ a' ∧ a' ≤ cs.length ∧ 0 ≤ l' ∧ 0 ≤ s' ∧ s' < 2147483647 := ⟨a, l, s, z, (upd_id ht).symm, ha0, ha1, hl0, hs0, hs1⟩
      refine ⟨_, rfl, t, _, rfl, dg_left ht, rfl, _, rfl, ite2 (fun h1 => ?_) (fun h1 => iteF ⟨rfl, stay⟩)⟩
      refine ⟨_, rfl, t, _, rfl, dg_at ht, _, rfl, t, _, rfl, dg_cells ht, c, _, rfl, .inl (SqL.of W.ls), _, _, rfl, rfl, _, rfl, ite2 (fun h2 => ?_) (fun h2 => ⟨rfl, stay⟩)⟩
      have h2 : a < (cs.length : Int) := by
        rw [List.length_map] at h2
        simpa using h2
      obtain ⟨x, hx⟩ : ∃ x, cs[a.toNat]? = some x := ⟨_, List.getElem?_eq_getElem (by omega)⟩
      have hx2 : (cs.map V.int)[a.toNat]? = some (.int x) := by rw [List.getElem?_map, hx]; rfl
      have hxn : 0 ≤ x := W.nn x (List.mem_of_getElem? hx)
      refine ⟨_, rfl, t, _, rfl, dg_cells ht, _, rfl, t, _, rfl, dg_at ht, c, _, _, _, rfl, rfl, SqL.of W.ls, at_of (by omega : a = (a.toNat : Int)) hx2, _, rfl, t, _, rfl, dp_left ht, ?_⟩
      refine ⟨_, rfl, t, _, rfl, dg_at upd_same, _, _, rfl, rfl, _, rfl, t, _, rfl, dp_at upd_same, rfl, a + 1, x, s, z, upd_upd, by omega, by omega, hxn, hs0, hs1⟩
    · rintro σ' H' ⟨rfl, a, l, s, z, rfl, ha0, ha1, hl0, hs0, hs1⟩
      refine ⟨_, rfl, t, _, rfl, dg_left upd_same, _, _, rfl, rfl, _, rfl, ite2 (fun h1 => ?_) (fun h1 => ?_)⟩
      · have h1 : 0 < l := by simpa using h1
        refine ⟨_, rfl, t, _, rfl, dg_left upd_same, .inl ⟨_, rfl, _, rfl, _, _, rfl, rfl, by omega, ?_⟩⟩
        refine ⟨_, rfl, t, _, rfl, dg_left upd_same, _, rfl, _, _, rfl, rfl, ⟨by omega, by omega⟩, _, rfl, t, _, rfl, dp_left upd_same, _, rfl, ?_⟩
        rw [upd_upd]
        show Q (V.int (Int.fmod l many)) (upd H t (.dK (tapeK c a (Int.fdiv l many) s z)))
        rw [Int.fmod_eq_emod_of_nonneg _ (by omega), Int.fdiv_eq_ediv_of_nonneg _ (by omega)]
        exact k _ _ (Int.emod_nonneg _ (by omega)) (Int.emod_lt_of_pos _ hm0) ⟨a, l / many, s, z, rfl, ha0, ha1, Int.ediv_nonneg hl0 (by omega), hs0, hs1⟩
      · refine ⟨_, rfl, t, _, rfl, dg_salt upd_same, _, _, rfl, rfl, _, rfl, t, _, rfl, dp_salt upd_same, ?_⟩
        refine ⟨_, rfl, t, _, rfl, dg_seed upd_same, _, _, rfl, rfl, .inl ⟨by omega, by omega⟩, _, rfl, t, _, rfl, dg_salt upd_same, _, _, rfl, rfl, .inr ⟨by decide, by decide⟩, _, _, rfl, rfl, .inl ⟨_, rfl, _, _, rfl, rfl, (by show (0 : Int) < 2147483647; decide), ?_⟩⟩
        have b1 := Int.emod_nonneg (s * 48271 + (z + 1) * 69621) (show (2147483647 : Int) ≠ 0 by decide)
        have b2 := Int.emod_lt_of_pos (s * 48271 + (z + 1) * 69621) (show (0 : Int) < 2147483647 by decide)
        refine ⟨_, rfl, _, rfl, _, _, rfl, rfl, .inl ⟨by omega, by omega⟩, _, rfl, t, _, rfl, dg_salt upd_same, _, _, rfl, rfl, .inr ⟨by decide, by decide⟩, _, _, rfl, rfl, _, _, rfl, rfl, .inl ⟨_, rfl, _, _, rfl, rfl, (by show (0 : Int) < 2147483399; decide), ?_⟩⟩
        refine ⟨_, rfl, .inl ⟨_, rfl, _, rfl, _, _, rfl, rfl, by omega, ?_⟩⟩
        rw [upd_upd]
        show Q (V.int (Int.fmod _ many)) _
        rw [Int.fmod_eq_emod_of_nonneg _ (by omega)]
        exact k _ _ (Int.emod_nonneg _ (by omega)) (Int.emod_lt_of_pos _ hm0) ⟨a, l, s, z + 1, rfl, ha0, ha1, hl0, hs0, hs1⟩
theorem ok__law_is_integer {f : Addr} {fd : FuncData} (F : Fun K "_law_is_integer" "_law_is_integer" s__law_is_integer f fd) (T : Blt mg) : FnOk P w K mg base CX0 1 f fd ["actual"] (spIsInt K) := by
  refine F.ok sc__law_is_integer (fun vs H Q E h => ?_) (fun cdv A outer s H vs Q E hr h => ?_)
  · obtain ⟨i, rfl, _⟩ := h
    rfl
  · obtain ⟨i, rfl, k⟩ := h
    refine ⟨_, (pss_one (ps_ret (pe_and (pe_callB call_isi (by rfl) T.b_isinstance (by decide +kernel) (pa_cons (pv 0) (pa_cons (pe_bltn (v := .ty "int") (by rfl) T.b_int (by decide +kernel) rfl) pa_nil))) (pe_one (pe_not (pe_callB call_isi (by rfl) T.b_isinstance (by decide +kernel) (pa_cons (pv 0) (pa_cons (pe_bltn (v := .ty "bool") (by rfl) T.b_bool (by decide +kernel) rfl) pa_nil)))))))), ?_⟩
    refine isi_val rfl (.base (.int i)) (b := true) (by decide +kernel) ⟨_, rfl, iteT ?_⟩
    exact isi_val rfl (.base (.int i)) (b := false) (by decide +kernel) ⟨_, rfl, k⟩
theorem ok__law_same_items {n : Nat} {f : Addr} {fd : FuncData} (F : Fun K "_law_same_items" "_law_same_items" s__law_same_items f fd) (T : Blt mg) {k0 : Nat} (c__law_same : C8.Cal P w K mg base k0 "_law_same" (spSame K n) []) :
    FnOk P w K mg base CX0 (k0 + 1) f fd ["actual", "expected"] (spItems K (n + 1)) := by
  refine F.ok sc__law_same_items (fun vs H Q E h => ?_) (fun cdv A outer s H vs Q E hr h => ?_)
  · obtain ⟨a, b, xs, ys, ds, rfl, _⟩ := h
    rfl
  · obtain ⟨a, b, xs, ys, ds, rfl, ha, hb, hx, hy, _, hlen, hds, k⟩ := h
    have lx : xs.length = ds.length := dpAll_len hx
    have ly : ys.length = ds.length := dpAll_len hy
    refine ⟨_, (pss_cons (ps_if (pt_cmpR op_ne (pe_callB call_len_seq (by rfl) T.b_len (by decide +kernel) (pa_cons (pv 0) pa_nil)) (pe_callB call_len_seq (by rfl) T.b_len (by decide +kernel) (pa_cons (pv 1) pa_nil)) (nomark _))
      (pss_one (ps_ret pe_bl))
      pss_nil)
    (pss_cons (ps_for PassesOwn.never rfl (pi_range1 (by rfl) T.b_range (pa_cons (pe_callB call_len_seq (by rfl) T.b_len (by decide +kernel) (pa_cons (pv 1) pa_nil)) pa_nil)) (pg_name (i := 2) sc__law_same_items.nd rfl (Or.inl rfl))
      (pss_one (ps_if (pt_not (pt_val (C8.pe_c c__law_same hr (by first | decide | omega) rfl (pa_cons (pe_ix ix_seq (pv 0) (pv 2) (fun _ _ => rfl)) (pa_cons (pe_ix ix_seq (pv 1) (pv 2) (fun _ _ => rfl)) pa_nil)))))
        (pss_one (ps_ret pe_bl))
        pss_nil)))
    (pss_one (ps_ret pe_bl)))), ?_⟩
    refine ⟨_, rfl, _, _, rfl, ha, _, rfl, _, _, rfl, hb, rfl, _, rfl, ?_⟩
    rw [lx, ly, dec_self]
    refine iteF ?_
    refine ⟨_, rfl, _, _, rfl, hb, _, rfl, by omega, by omega, ?_⟩
    rw [ly]
    refine for_range (n := ds.length) (fun i σ H' => H' = H ∧ ∃ e2, σ = [some (.ref a), some (.ref b), e2]) ⟨rfl, none, rfl⟩ ?_ ?_
    · rintro i σ H1 hi ⟨rfl, e2, rfl⟩
      rw [Int.zero_add]
      obtain ⟨x, d, hxi, hdi, hxd⟩ := dpAll_get hx (by omega : i < xs.length)
      obtain ⟨y, d', hyi, hdi', hyd⟩ := dpAll_get hy (by omega : i < ys.length)
      have ed : d = d' := Option.some.inj (hdi.symm.trans hdi')
      subst ed
      refine ⟨_, rfl, _, rfl, ix_x ha hxi ⟨_, rfl, _, rfl, ix_x hb hyi ?_⟩⟩
      exact ⟨x, y, d, rfl, hxd, hyd, hds d (List.mem_of_getElem? hdi), _, rfl, iteF ⟨rfl, _, rfl⟩⟩
    · rintro σ H1 ⟨rfl, e2, rfl⟩
      exact k
theorem ok__law_same {n : Nat} {f : Addr} {fd : FuncData} (F : Fun K "_law_same" "_law_same" s__law_same f fd) (T : Blt mg) {k0 : Nat} (hk : 1 ≤ k0) (c__law_same_items : C8.Cal P w K mg base k0 "_law_same_items" (spItems K n) []) (c__law_is_integer : C8.Cal P w K mg base 1 "_law_is_integer" (spIsInt K) []) :
    FnOk P w K mg base CX0 (k0 + 1) f fd ["actual", "expected"] (spSame K n) := by
  refine F.ok sc__law_same (fun vs H Q E h => ?_) (fun cdv A outer s H vs Q E hr h => ?_)
  · obtain ⟨x, y, d, rfl, _⟩ := h
    rfl
  · obtain ⟨x, y, d, rfl, hx, hy, hd, k⟩ := h
    have tx := ty_d hx
    have ty := ty_d hy
    refine ⟨_, (pss_cons (ps_if (pt_cmpR op_isN (pv 1) pe_non (nomark _))
      (pss_one (ps_ret (pe_cmpR op_isN (pv 0) pe_non (nomark _))))
      pss_nil)
    (pss_cons (ps_if (pt_val (pe_callB call_isi (by rfl) T.b_isinstance (by decide +kernel) (pa_cons (pv 1) (pa_cons (pe_bltn (v := .ty "bool") (by rfl) T.b_bool (by decide +kernel) rfl) pa_nil))))
      (pss_one (ps_ret (pe_and (pe_callB call_isi (by rfl) T.b_isinstance (by decide +kernel) (pa_cons (pv 0) (pa_cons (pe_bltn (v := .ty "bool") (by rfl) T.b_bool (by decide +kernel) rfl) pa_nil))) (pe_one (pe_cmpR op_eq (pv 0) (pv 1) (nomark _))))))
      pss_nil)
    (pss_cons (ps_if (pt_val (pe_callB call_isi (by rfl) T.b_isinstance (by decide +kernel) (pa_cons (pv 1) (pa_cons (pe_bltn (v := .ty "int") (by rfl) T.b_int (by decide +kernel) rfl) pa_nil))))
      (pss_one (ps_ret (pe_and (C8.pe_c c__law_is_integer hr (by first | decide | omega) rfl (pa_cons (pv 0) pa_nil)) (pe_one (pe_cmpR op_eq (pv 0) (pv 1) (nomark _))))))
      pss_nil)
    (pss_cons (ps_if (pt_val (pe_callB call_isi (by rfl) T.b_isinstance (by decide +kernel) (pa_cons (pv 1) (pa_cons (pe_bltn (v := .ty "str") (by rfl) T.b_str (by decide +kernel) rfl) pa_nil))))
      (pss_one (ps_ret (pe_and (pe_callB call_isi (by rfl) T.b_isinstance (by decide +kernel) (pa_cons (pv 0) (pa_cons (pe_bltn (v := .ty "str") (by rfl) T.b_str (by decide +kernel) rfl) pa_nil))) (pe_one (pe_cmpR op_eq (pv 0) (pv 1) (nomark _))))))
      pss_nil)
    (pss_cons (ps_if (pt_val (pe_callB call_isi (by rfl) T.b_isinstance (by decide +kernel) (pa_cons (pv 1) (pa_cons (pe_bltn (v := .ty "tuple") (by rfl) T.b_tuple (by decide +kernel) rfl) pa_nil))))
      (pss_one (ps_ret (pe_and (pe_callB call_isi (by rfl) T.b_isinstance (by decide +kernel) (pa_cons (pv 0) (pa_cons (pe_bltn (v := .ty "tuple") (by rfl) T.b_tuple (by decide +kernel) rfl) pa_nil))) (pe_one (C8.pe_c c__law_same_items hr (by first | decide | omega) rfl (pa_cons (pv 0) (pa_cons (pv 1) pa_nil)))))))
      pss_nil)
    (pss_cons (ps_if (pt_val (pe_callB call_isi (by rfl) T.b_isinstance (by decide +kernel) (pa_cons (pv 1) (pa_cons (pe_bltn (v := .ty "list") (by rfl) T.b_list (by decide +kernel) rfl) pa_nil))))
      (pss_one (ps_ret (pe_and (pe_callB call_isi (by rfl) T.b_isinstance (by decide +kernel) (pa_cons (pv 0) (pa_cons (pe_bltn (v := .ty "list") (by rfl) T.b_list (by decide +kernel) rfl) pa_nil))) (pe_one (C8.pe_c c__law_same_items hr (by first | decide | omega) rfl (pa_cons (pv 0) (pa_cons (pv 1) pa_nil)))))))
      pss_nil)
    pss_never)))))), ?_⟩
    refine ⟨_, rfl, rfl, _, rfl, ?_⟩
    cases d with
    | none =>
      cases hx
      cases hy
      exact iteT ⟨_, rfl, rfl, k⟩
    | bool b =>
      have tx : TyX K H x (.type "bool") := tx
      have ty : TyX K H y (.type "bool") := ty
      cases hx
      cases hy
      refine iteF (isi_test rfl ty (b := true) (by decide +kernel) (iteT (isi_val rfl tx (b := true) (by decide +kernel) ⟨_, rfl, iteT ⟨_, rfl, _, rfl, rfl, ?_⟩⟩)))
      rw [dec_self]
      exact k
    | int i =>
      have tx : TyX K H x (.type "int") := tx
      have ty : TyX K H y (.type "int") := ty
      cases hx
      cases hy
      refine iteF (isi_test rfl ty (b := false) (by decide +kernel) (iteF (isi_test rfl ty (b := true) (by decide +kernel) (iteT ⟨_, rfl, i, rfl, _, rfl, iteT ⟨_, rfl, _, rfl, rfl, ?_⟩⟩))))
      rw [dec_self]
      exact k
    | str z =>
      have tx : TyX K H x (.type "str") := tx
      have ty : TyX K H y (.type "str") := ty
      cases hx
      cases hy
      refine iteF (isi_test rfl ty (b := false) (by decide +kernel) (iteF (isi_test rfl ty (b := false) (by decide +kernel) (iteF (isi_test rfl ty (b := true) (by decide +kernel) (iteT (isi_val rfl tx (b := true) (by decide +kernel) ⟨_, rfl, iteT ⟨_, rfl, _, rfl, rfl, ?_⟩⟩)))))))
      rw [dec_self]
      exact k
    | tuple ds =>
      have tx : TyX K H x (.type "tuple") := tx
      have ty : TyX K H y (.type "tuple") := ty
      cases hx with
      | tup hx1 hx2 =>
      cases hy with
      | tup hy1 hy2 =>
      refine iteF (isi_test rfl ty (b := false) (by decide +kernel) (iteF (isi_test rfl ty (b := false) (by decide +kernel) (iteF (isi_test rfl ty (b := false) (by decide +kernel) (iteF (isi_test rfl ty (b := true) (by decide +kernel) (iteT (isi_val rfl tx (b := true) (by decide +kernel) ⟨_, rfl, iteT ⟨_, rfl, _, rfl, ?_⟩⟩)))))))))
      cases n with
      | zero => exact hd.elim
      | succ n => exact ⟨_, _, _, _, ds, rfl, .inr hx1, .inr hy1, hx2, hy2, Nat.succ_pos _, hd.1, hd.2, k⟩
    | list ds =>
      have tx : TyX K H x (.type "list") := tx
      have ty : TyX K H y (.type "list") := ty
      cases hx with
      | lst hx1 hx2 =>
      cases hy with
      | lst hy1 hy2 =>
      refine iteF (isi_test rfl ty (b := false) (by decide +kernel) (iteF (isi_test rfl ty (b := false) (by decide +kernel) (iteF (isi_test rfl ty (b := false) (by decide +kernel) (iteF (isi_test rfl ty (b := false) (by decide +kernel) (iteF (isi_test rfl ty (b := true) (by decide +kernel) (iteT (isi_val rfl tx (b := true) (by decide +kernel) ⟨_, rfl, iteT ⟨_, rfl, _, rfl, ?_⟩⟩)))))))))))
      cases n with
      | zero => exact hd.elim
      | succ n => exact ⟨_, _, _, _, ds, rfl, .inl hx1, .inl hy1, hx2, hy2, Nat.succ_pos _, hd.1, hd.2, k⟩
    | dict _ => cases hx
/-- both, at any depth -/
theorem cal_same {f1 f2 f3 : Addr} {fd1 fd2 fd3 : FuncData} (F1 : Fun K "_law_is_integer" "_law_is_integer" s__law_is_integer f1 fd1) (g1 : mg "_law_is_integer" = some (.ref f1)) (b1 : Binds K fd1 ["actual"] [])
    (F2 : Fun K "_law_same_items" "_law_same_items" s__law_same_items f2 fd2) (g2 : mg "_law_same_items" = some (.ref f2)) (b2 : Binds K fd2 ["actual", "expected"] [])
    (F3 : Fun K "_law_same" "_law_same" s__law_same f3 fd3) (g3 : mg "_law_same" = some (.ref f3)) (b3 : Binds K fd3 ["actual", "expected"] []) (T : Blt mg) : ∀ n, C8.Cal P w K mg base (2 * n + 2) "_law_same" (spSame K n) []
  | 0 => by
    have c1 : C8.Cal P w K mg base 1 "_law_is_integer" (spIsInt K) [] := cal F1 g1 b1 (ok__law_is_integer F1 T)
    have c2 : C8.Cal P w K mg base 1 "_law_same_items" (spItems K 0) [] := cal F2 g2 b2 (F2.ok sc__law_same_items (fun vs H Q E h => by
      obtain ⟨_, _, _, _, _, _, _, _, _, _, h, _⟩ := h
      exact absurd h (Nat.lt_irrefl _)) (fun cdv A outer s H vs Q E hr h => by
      obtain ⟨_, _, _, _, _, _, _, _, _, _, h, _⟩ := h
      exact absurd h (Nat.lt_irrefl _)))
    exact cal F3 g3 b3 (ok__law_same F3 T (Nat.le_refl _) c2 c1)
  | n + 1 => by
    have c1 : C8.Cal P w K mg base 1 "_law_is_integer" (spIsInt K) [] := cal F1 g1 b1 (ok__law_is_integer F1 T)
    have c0 := cal_same F1 g1 b1 F2 g2 b2 F3 g3 b3 T n
    have c2 : C8.Cal P w K mg base (2 * n + 2 + 1) "_law_same_items" (spItems K (n + 1)) [] := cal F2 g2 b2 (ok__law_same_items F2 T c0)
    exact cal F3 g3 b3 (ok__law_same F3 T (by omega) c2 c1)

end
end K07
namespace K07
open PySem PySem.Spec PyProof.Rows L2 LB OW
theorem all_mk {l : PySem.W.OpenLaw} {w : World} {K : PySem.W.Frag} {h : Heap} {mg : Str → Option Value} {fa : Addr} (X : K.In h) (G : h.Ns mainGlobals mg) (hfa : mg "law" = some (.ref fa))
    {f0 : Addr} {od0 an0 : Option Addr} {sl0 : Array (Option Value)} {oc0 kV0 dc0 pm0 cd0 ct0 : Value}
    (a0 : PySem.W.nsIn K mainGlobals "is_call" = some (some (.ref f0))) (l0 : K.lookup f0 = some ⟨oc0, od0, .func (PySem.W.fnOf "is_call" "is_call" (defArgs s_is_call) (defBody s_is_call) (defScope s_is_call) .none kV0 dc0 pm0 an0 cd0 ct0), sl0⟩) (c0 : PySem.W.codeIn K cd0 "is_call" = true) (k0 : PySem.W.keepIn K (.ref f0) = true)
    {f1 : Addr} {od1 an1 : Option Addr} {sl1 : Array (Option Value)} {oc1 kV1 dc1 pm1 cd1 ct1 : Value}
    (a1 : PySem.W.nsIn K mainGlobals "_begins_with_word" = some (some (.ref f1))) (l1 : K.lookup f1 = some ⟨oc1, od1, .func (PySem.W.fnOf "_begins_with_word" "_begins_with_word" (defArgs s__begins_with_word) (defBody s__begins_with_word) (defScope s__begins_with_word) .none kV1 dc1 pm1 an1 cd1 ct1), sl1⟩) (c1 : PySem.W.codeIn K cd1 "_begins_with_word" = true) (k1 : PySem.W.keepIn K (.ref f1) = true)
    {f2 : Addr} {od2 an2 : Option Addr} {sl2 : Array (Option Value)} {oc2 kV2 dc2 pm2 cd2 ct2 : Value}
    (a2 : PySem.W.nsIn K mainGlobals "_have_forms" = some (some (.ref f2))) (l2 : K.lookup f2 = some ⟨oc2, od2, .func (PySem.W.fnOf "_have_forms" "_have_forms" (defArgs s__have_forms) (defBody s__have_forms) (defScope s__have_forms) .none kV2 dc2 pm2 an2 cd2 ct2), sl2⟩) (c2 : PySem.W.codeIn K cd2 "_have_forms" = true) (k2 : PySem.W.keepIn K (.ref f2) = true)
    {f3 : Addr} {od3 an3 : Option Addr} {sl3 : Array (Option Value)} {oc3 kV3 dc3 pm3 cd3 ct3 : Value}
    (a3 : PySem.W.nsIn K mainGlobals "_has_form" = some (some (.ref f3))) (l3 : K.lookup f3 = some ⟨oc3, od3, .func (PySem.W.fnOf "_has_form" "_has_form" (defArgs s__has_form) (defBody s__has_form) (defScope s__has_form) .none kV3 dc3 pm3 an3 cd3 ct3), sl3⟩) (c3 : PySem.W.codeIn K cd3 "_has_form" = true) (k3 : PySem.W.keepIn K (.ref f3) = true)
    {f4 : Addr} {od4 an4 : Option Addr} {sl4 : Array (Option Value)} {oc4 kV4 dc4 pm4 cd4 ct4 : Value}
    (a4 : PySem.W.nsIn K mainGlobals "_is_tuple_of" = some (some (.ref f4))) (l4 : K.lookup f4 = some ⟨oc4, od4, .func (PySem.W.fnOf "_is_tuple_of" "_is_tuple_of" (defArgs s__is_tuple_of) (defBody s__is_tuple_of) (defScope s__is_tuple_of) .none kV4 dc4 pm4 an4 cd4 ct4), sl4⟩) (c4 : PySem.W.codeIn K cd4 "_is_tuple_of" = true) (k4 : PySem.W.keepIn K (.ref f4) = true)
    {f5 : Addr} {od5 an5 : Option Addr} {sl5 : Array (Option Value)} {oc5 kV5 dc5 pm5 cd5 ct5 : Value}
    (a5 : PySem.W.nsIn K mainGlobals "_is_integer" = some (some (.ref f5))) (l5 : K.lookup f5 = some ⟨oc5, od5, .func (PySem.W.fnOf "_is_integer" "_is_integer" (defArgs s__is_integer) (defBody s__is_integer) (defScope s__is_integer) .none kV5 dc5 pm5 an5 cd5 ct5), sl5⟩) (c5 : PySem.W.codeIn K cd5 "_is_integer" = true) (k5 : PySem.W.keepIn K (.ref f5) = true)
    {f6 : Addr} {od6 an6 : Option Addr} {sl6 : Array (Option Value)} {oc6 kV6 dc6 pm6 cd6 ct6 : Value}
    (a6 : PySem.W.nsIn K mainGlobals "_fits" = some (some (.ref f6))) (l6 : K.lookup f6 = some ⟨oc6, od6, .func (PySem.W.fnOf "_fits" "_fits" (defArgs s__fits) (defBody s__fits) (defScope s__fits) .none kV6 dc6 pm6 an6 cd6 ct6), sl6⟩) (c6 : PySem.W.codeIn K cd6 "_fits" = true) (k6 : PySem.W.keepIn K (.ref f6) = true)
    {f7 : Addr} {od7 an7 : Option Addr} {sl7 : Array (Option Value)} {oc7 kV7 dc7 pm7 cd7 ct7 : Value}
    (a7 : PySem.W.nsIn K mainGlobals "outside_of" = some (some (.ref f7))) (l7 : K.lookup f7 = some ⟨oc7, od7, .func (PySem.W.fnOf "outside_of" "outside_of" (defArgs s_outside_of) (defBody s_outside_of) (defScope s_outside_of) .none kV7 dc7 pm7 an7 cd7 ct7), sl7⟩) (c7 : PySem.W.codeIn K cd7 "outside_of" = true) (k7 : PySem.W.keepIn K (.ref f7) = true)
    {f8 : Addr} {od8 an8 : Option Addr} {sl8 : Array (Option Value)} {oc8 kV8 dc8 pm8 cd8 ct8 : Value}
    (a8 : PySem.W.nsIn K mainGlobals "_law_tape" = some (some (.ref f8))) (l8 : K.lookup f8 = some ⟨oc8, od8, .func (PySem.W.fnOf "_law_tape" "_law_tape" (defArgs s__law_tape) (defBody s__law_tape) (defScope s__law_tape) .none kV8 dc8 pm8 an8 cd8 ct8), sl8⟩) (c8 : PySem.W.codeIn K cd8 "_law_tape" = true) (k8 : PySem.W.keepIn K (.ref f8) = true)
    {f9 : Addr} {od9 an9 : Option Addr} {sl9 : Array (Option Value)} {oc9 kV9 dc9 pm9 cd9 ct9 : Value}
    (a9 : PySem.W.nsIn K mainGlobals "_law_take" = some (some (.ref f9))) (l9 : K.lookup f9 = some ⟨oc9, od9, .func (PySem.W.fnOf "_law_take" "_law_take" (defArgs s__law_take) (defBody s__law_take) (defScope s__law_take) .none kV9 dc9 pm9 an9 cd9 ct9), sl9⟩) (c9 : PySem.W.codeIn K cd9 "_law_take" = true) (k9 : PySem.W.keepIn K (.ref f9) = true)
    {f10 : Addr} {od10 an10 : Option Addr} {sl10 : Array (Option Value)} {oc10 kV10 dc10 pm10 cd10 ct10 : Value}
    (a10 : PySem.W.nsIn K mainGlobals "_law_is_integer" = some (some (.ref f10))) (l10 : K.lookup f10 = some ⟨oc10, od10, .func (PySem.W.fnOf "_law_is_integer" "_law_is_integer" (defArgs s__law_is_integer) (defBody s__law_is_integer) (defScope s__law_is_integer) .none kV10 dc10 pm10 an10 cd10 ct10), sl10⟩) (c10 : PySem.W.codeIn K cd10 "_law_is_integer" = true) (k10 : PySem.W.keepIn K (.ref f10) = true)
    {f11 : Addr} {od11 an11 : Option Addr} {sl11 : Array (Option Value)} {oc11 kV11 dc11 pm11 cd11 ct11 : Value}
    (a11 : PySem.W.nsIn K mainGlobals "_law_same_items" = some (some (.ref f11))) (l11 : K.lookup f11 = some ⟨oc11, od11, .func (PySem.W.fnOf "_law_same_items" "_law_same_items" (defArgs s__law_same_items) (defBody s__law_same_items) (defScope s__law_same_items) .none kV11 dc11 pm11 an11 cd11 ct11), sl11⟩) (c11 : PySem.W.codeIn K cd11 "_law_same_items" = true) (k11 : PySem.W.keepIn K (.ref f11) = true)
    {f12 : Addr} {od12 an12 : Option Addr} {sl12 : Array (Option Value)} {oc12 kV12 dc12 pm12 cd12 ct12 : Value}
    (a12 : PySem.W.nsIn K mainGlobals "_law_same" = some (some (.ref f12))) (l12 : K.lookup f12 = some ⟨oc12, od12, .func (PySem.W.fnOf "_law_same" "_law_same" (defArgs s__law_same) (defBody s__law_same) (defScope s__law_same) .none kV12 dc12 pm12 an12 cd12 ct12), sl12⟩) (c12 : PySem.W.codeIn K cd12 "_law_same" = true) (k12 : PySem.W.keepIn K (.ref f12) = true)
    {f13 : Addr} {od13 an13 : Option Addr} {sl13 : Array (Option Value)} {oc13 kV13 dc13 pm13 cd13 ct13 : Value}
    (a13 : PySem.W.nsIn K mainGlobals "_law_marks" = some (some (.ref f13))) (l13 : K.lookup f13 = some ⟨oc13, od13, .func (PySem.W.fnOf "_law_marks" "_law_marks" (defArgs s__law_marks) (defBody s__law_marks) (defScope s__law_marks) .none kV13 dc13 pm13 an13 cd13 ct13), sl13⟩) (c13 : PySem.W.codeIn K cd13 "_law_marks" = true) (k13 : PySem.W.keepIn K (.ref f13) = true)
    {f14 : Addr} {od14 an14 : Option Addr} {sl14 : Array (Option Value)} {oc14 kV14 dc14 pm14 cd14 ct14 : Value}
    (a14 : PySem.W.nsIn K mainGlobals "_law_kinds" = some (some (.ref f14))) (l14 : K.lookup f14 = some ⟨oc14, od14, .func (PySem.W.fnOf "_law_kinds" "_law_kinds" (defArgs s__law_kinds) (defBody s__law_kinds) (defScope s__law_kinds) .none kV14 dc14 pm14 an14 cd14 ct14), sl14⟩) (c14 : PySem.W.codeIn K cd14 "_law_kinds" = true) (k14 : PySem.W.keepIn K (.ref f14) = true)
    {f15 : Addr} {od15 an15 : Option Addr} {sl15 : Array (Option Value)} {oc15 kV15 dc15 pm15 cd15 ct15 : Value}
    (a15 : PySem.W.nsIn K mainGlobals "_law_kind_dict" = some (some (.ref f15))) (l15 : K.lookup f15 = some ⟨oc15, od15, .func (PySem.W.fnOf "_law_kind_dict" "_law_kind_dict" (defArgs s__law_kind_dict) (defBody s__law_kind_dict) (defScope s__law_kind_dict) .none kV15 dc15 pm15 an15 cd15 ct15), sl15⟩) (c15 : PySem.W.codeIn K cd15 "_law_kind_dict" = true) (k15 : PySem.W.keepIn K (.ref f15) = true)
    {f16 : Addr} {od16 an16 : Option Addr} {sl16 : Array (Option Value)} {oc16 kV16 dc16 pm16 cd16 ct16 : Value}
    (a16 : PySem.W.nsIn K mainGlobals "_law_new_world" = some (some (.ref f16))) (l16 : K.lookup f16 = some ⟨oc16, od16, .func (PySem.W.fnOf "_law_new_world" "_law_new_world" (defArgs s__law_new_world) (defBody s__law_new_world) (defScope s__law_new_world) .none kV16 dc16 pm16 an16 cd16 ct16), sl16⟩) (c16 : PySem.W.codeIn K cd16 "_law_new_world" = true) (k16 : PySem.W.keepIn K (.ref f16) = true)
    {f17 : Addr} {od17 an17 : Option Addr} {sl17 : Array (Option Value)} {oc17 kV17 dc17 pm17 cd17 ct17 : Value}
    (a17 : PySem.W.nsIn K mainGlobals "_law_form" = some (some (.ref f17))) (l17 : K.lookup f17 = some ⟨oc17, od17, .func (PySem.W.fnOf "_law_form" "_law_form" (defArgs s__law_form) (defBody s__law_form) (defScope s__law_form) .none kV17 dc17 pm17 an17 cd17 ct17), sl17⟩) (c17 : PySem.W.codeIn K cd17 "_law_form" = true) (k17 : PySem.W.keepIn K (.ref f17) = true)
    {f18 : Addr} {od18 an18 : Option Addr} {sl18 : Array (Option Value)} {oc18 kV18 dc18 pm18 cd18 ct18 : Value}
    (a18 : PySem.W.nsIn K mainGlobals "_law_why_value" = some (some (.ref f18))) (l18 : K.lookup f18 = some ⟨oc18, od18, .func (PySem.W.fnOf "_law_why_value" "_law_why_value" (defArgs s__law_why_value) (defBody s__law_why_value) (defScope s__law_why_value) .none kV18 dc18 pm18 an18 cd18 ct18), sl18⟩) (c18 : PySem.W.codeIn K cd18 "_law_why_value" = true) (k18 : PySem.W.keepIn K (.ref f18) = true)
    {f19 : Addr} {od19 an19 : Option Addr} {sl19 : Array (Option Value)} {oc19 kV19 dc19 pm19 cd19 ct19 : Value}
    (a19 : PySem.W.nsIn K mainGlobals "_law_first_why" = some (some (.ref f19))) (l19 : K.lookup f19 = some ⟨oc19, od19, .func (PySem.W.fnOf "_law_first_why" "_law_first_why" (defArgs s__law_first_why) (defBody s__law_first_why) (defScope s__law_first_why) .none kV19 dc19 pm19 an19 cd19 ct19), sl19⟩) (c19 : PySem.W.codeIn K cd19 "_law_first_why" = true) (k19 : PySem.W.keepIn K (.ref f19) = true)
    {f20 : Addr} {od20 an20 : Option Addr} {sl20 : Array (Option Value)} {oc20 kV20 dc20 pm20 cd20 ct20 : Value}
    (a20 : PySem.W.nsIn K mainGlobals "_law_needed" = some (some (.ref f20))) (l20 : K.lookup f20 = some ⟨oc20, od20, .func (PySem.W.fnOf "_law_needed" "_law_needed" (defArgs s__law_needed) (defBody s__law_needed) (defScope s__law_needed) .none kV20 dc20 pm20 an20 cd20 ct20), sl20⟩) (c20 : PySem.W.codeIn K cd20 "_law_needed" = true) (k20 : PySem.W.keepIn K (.ref f20) = true)
    {f21 : Addr} {od21 an21 : Option Addr} {sl21 : Array (Option Value)} {oc21 kV21 dc21 pm21 cd21 ct21 : Value}
    (a21 : PySem.W.nsIn K mainGlobals "_law_make_why" = some (some (.ref f21))) (l21 : K.lookup f21 = some ⟨oc21, od21, .func (PySem.W.fnOf "_law_make_why" "_law_make_why" (defArgs s__law_make_why) (defBody s__law_make_why) (defScope s__law_make_why) .none kV21 dc21 pm21 an21 cd21 ct21), sl21⟩) (c21 : PySem.W.codeIn K cd21 "_law_make_why" = true) (k21 : PySem.W.keepIn K (.ref f21) = true)
    {f22 : Addr} {od22 an22 : Option Addr} {sl22 : Array (Option Value)} {oc22 kV22 dc22 pm22 cd22 ct22 : Value}
    (a22 : PySem.W.nsIn K mainGlobals "_law_other_why" = some (some (.ref f22))) (l22 : K.lookup f22 = some ⟨oc22, od22, .func (PySem.W.fnOf "_law_other_why" "_law_other_why" (defArgs s__law_other_why) (defBody s__law_other_why) (defScope s__law_other_why) .none kV22 dc22 pm22 an22 cd22 ct22), sl22⟩) (c22 : PySem.W.codeIn K cd22 "_law_other_why" = true) (k22 : PySem.W.keepIn K (.ref f22) = true)
    {f23 : Addr} {od23 an23 : Option Addr} {sl23 : Array (Option Value)} {oc23 kV23 dc23 pm23 cd23 ct23 : Value}
    (a23 : PySem.W.nsIn K mainGlobals "_law_change_why" = some (some (.ref f23))) (l23 : K.lookup f23 = some ⟨oc23, od23, .func (PySem.W.fnOf "_law_change_why" "_law_change_why" (defArgs s__law_change_why) (defBody s__law_change_why) (defScope s__law_change_why) .none kV23 dc23 pm23 an23 cd23 ct23), sl23⟩) (c23 : PySem.W.codeIn K cd23 "_law_change_why" = true) (k23 : PySem.W.keepIn K (.ref f23) = true)
    {f24 : Addr} {od24 an24 : Option Addr} {sl24 : Array (Option Value)} {oc24 kV24 dc24 pm24 cd24 ct24 : Value}
    (a24 : PySem.W.nsIn K mainGlobals "_law_do_make" = some (some (.ref f24))) (l24 : K.lookup f24 = some ⟨oc24, od24, .func (PySem.W.fnOf "_law_do_make" "_law_do_make" (defArgs s__law_do_make) (defBody s__law_do_make) (defScope s__law_do_make) .none kV24 dc24 pm24 an24 cd24 ct24), sl24⟩) (c24 : PySem.W.codeIn K cd24 "_law_do_make" = true) (k24 : PySem.W.keepIn K (.ref f24) = true)
    {f25 : Addr} {od25 an25 : Option Addr} {sl25 : Array (Option Value)} {oc25 kV25 dc25 pm25 cd25 ct25 : Value}
    (a25 : PySem.W.nsIn K mainGlobals "_law_do_change" = some (some (.ref f25))) (l25 : K.lookup f25 = some ⟨oc25, od25, .func (PySem.W.fnOf "_law_do_change" "_law_do_change" (defArgs s__law_do_change) (defBody s__law_do_change) (defScope s__law_do_change) .none kV25 dc25 pm25 an25 cd25 ct25), sl25⟩) (c25 : PySem.W.codeIn K cd25 "_law_do_change" = true) (k25 : PySem.W.keepIn K (.ref f25) = true)
    {f26 : Addr} {od26 an26 : Option Addr} {sl26 : Array (Option Value)} {oc26 kV26 dc26 pm26 cd26 ct26 : Value}
    (a26 : PySem.W.nsIn K mainGlobals "_law_do_take" = some (some (.ref f26))) (l26 : K.lookup f26 = some ⟨oc26, od26, .func (PySem.W.fnOf "_law_do_take" "_law_do_take" (defArgs s__law_do_take) (defBody s__law_do_take) (defScope s__law_do_take) .none kV26 dc26 pm26 an26 cd26 ct26), sl26⟩) (c26 : PySem.W.codeIn K cd26 "_law_do_take" = true) (k26 : PySem.W.keepIn K (.ref f26) = true)
    {f27 : Addr} {od27 an27 : Option Addr} {sl27 : Array (Option Value)} {oc27 kV27 dc27 pm27 cd27 ct27 : Value}
    (a27 : PySem.W.nsIn K mainGlobals "_law_do" = some (some (.ref f27))) (l27 : K.lookup f27 = some ⟨oc27, od27, .func (PySem.W.fnOf "_law_do" "_law_do" (defArgs s__law_do) (defBody s__law_do) (defScope s__law_do) .none kV27 dc27 pm27 an27 cd27 ct27), sl27⟩) (c27 : PySem.W.codeIn K cd27 "_law_do" = true) (k27 : PySem.W.keepIn K (.ref f27) = true)
    {f28 : Addr} {od28 an28 : Option Addr} {sl28 : Array (Option Value)} {oc28 kV28 dc28 pm28 cd28 ct28 : Value}
    (a28 : PySem.W.nsIn K mainGlobals "_law_any_value" = some (some (.ref f28))) (l28 : K.lookup f28 = some ⟨oc28, od28, .func (PySem.W.fnOf "_law_any_value" "_law_any_value" (defArgs s__law_any_value) (defBody s__law_any_value) (defScope s__law_any_value) .none kV28 dc28 pm28 an28 cd28 ct28), sl28⟩) (c28 : PySem.W.codeIn K cd28 "_law_any_value" = true) (k28 : PySem.W.keepIn K (.ref f28) = true)
    {f29 : Addr} {od29 an29 : Option Addr} {sl29 : Array (Option Value)} {oc29 kV29 dc29 pm29 cd29 ct29 : Value}
    (a29 : PySem.W.nsIn K mainGlobals "_law_any_values" = some (some (.ref f29))) (l29 : K.lookup f29 = some ⟨oc29, od29, .func (PySem.W.fnOf "_law_any_values" "_law_any_values" (defArgs s__law_any_values) (defBody s__law_any_values) (defScope s__law_any_values) .none kV29 dc29 pm29 an29 cd29 ct29), sl29⟩) (c29 : PySem.W.codeIn K cd29 "_law_any_values" = true) (k29 : PySem.W.keepIn K (.ref f29) = true)
    {f30 : Addr} {od30 an30 : Option Addr} {sl30 : Array (Option Value)} {oc30 kV30 dc30 pm30 cd30 ct30 : Value}
    (a30 : PySem.W.nsIn K mainGlobals "_law_any_id" = some (some (.ref f30))) (l30 : K.lookup f30 = some ⟨oc30, od30, .func (PySem.W.fnOf "_law_any_id" "_law_any_id" (defArgs s__law_any_id) (defBody s__law_any_id) (defScope s__law_any_id) .none kV30 dc30 pm30 an30 cd30 ct30), sl30⟩) (c30 : PySem.W.codeIn K cd30 "_law_any_id" = true) (k30 : PySem.W.keepIn K (.ref f30) = true)
    {f31 : Addr} {od31 an31 : Option Addr} {sl31 : Array (Option Value)} {oc31 kV31 dc31 pm31 cd31 ct31 : Value}
    (a31 : PySem.W.nsIn K mainGlobals "_law_any_call" = some (some (.ref f31))) (l31 : K.lookup f31 = some ⟨oc31, od31, .func (PySem.W.fnOf "_law_any_call" "_law_any_call" (defArgs s__law_any_call) (defBody s__law_any_call) (defScope s__law_any_call) .none kV31 dc31 pm31 an31 cd31 ct31), sl31⟩) (c31 : PySem.W.codeIn K cd31 "_law_any_call" = true) (k31 : PySem.W.keepIn K (.ref f31) = true)
    {f32 : Addr} {od32 an32 : Option Addr} {sl32 : Array (Option Value)} {oc32 kV32 dc32 pm32 cd32 ct32 : Value}
    (a32 : PySem.W.nsIn K mainGlobals "law" = some (some (.ref f32))) (l32 : K.lookup f32 = some ⟨oc32, od32, .func (PySem.W.fnOf "law" "law" (defArgs s_law) (defBody s_law) (defScope s_law) .none kV32 dc32 pm32 an32 cd32 ct32), sl32⟩) (c32 : PySem.W.codeIn K cd32 "law" = true) (k32 : PySem.W.keepIn K (.ref f32) = true)
    {C : Addr}
    {f_Outside___init__ : Addr} {od_Outside___init__ an_Outside___init__ : Option Addr} {sl_Outside___init__ : Array (Option Value)} {oc_Outside___init__ kV_Outside___init__ dc_Outside___init__ pm_Outside___init__ cd_Outside___init__ ct_Outside___init__ : Value}
    (a_Outside___init__ : PySem.W.findIn K (.ref C) "__init__" = some (some (.ref f_Outside___init__))) (i_Outside___init__ : PySem.W.isFn K (.ref f_Outside___init__) = true) (l_Outside___init__ : K.lookup f_Outside___init__ = some ⟨oc_Outside___init__, od_Outside___init__, .func (PySem.W.fnOf "__init__" "Outside.__init__" (defArgs s_Outside___init__) (defBody s_Outside___init__) (defScope s_Outside___init__) .none kV_Outside___init__ dc_Outside___init__ pm_Outside___init__ an_Outside___init__ cd_Outside___init__ ct_Outside___init__), sl_Outside___init__⟩) (c_Outside___init__ : PySem.W.codeIn K cd_Outside___init__ "Outside.__init__" = true) (k_Outside___init__ : PySem.W.keepIn K (.ref f_Outside___init__) = true)
    {f_Outside__begin : Addr} {od_Outside__begin an_Outside__begin : Option Addr} {sl_Outside__begin : Array (Option Value)} {oc_Outside__begin kV_Outside__begin dc_Outside__begin pm_Outside__begin cd_Outside__begin ct_Outside__begin : Value}
    (a_Outside__begin : PySem.W.findIn K (.ref C) "_begin" = some (some (.ref f_Outside__begin))) (i_Outside__begin : PySem.W.isFn K (.ref f_Outside__begin) = true) (l_Outside__begin : K.lookup f_Outside__begin = some ⟨oc_Outside__begin, od_Outside__begin, .func (PySem.W.fnOf "_begin" "Outside._begin" (defArgs s_Outside__begin) (defBody s_Outside__begin) (defScope s_Outside__begin) .none kV_Outside__begin dc_Outside__begin pm_Outside__begin an_Outside__begin cd_Outside__begin ct_Outside__begin), sl_Outside__begin⟩) (c_Outside__begin : PySem.W.codeIn K cd_Outside__begin "Outside._begin" = true) (k_Outside__begin : PySem.W.keepIn K (.ref f_Outside__begin) = true)
    {f_Outside_do : Addr} {od_Outside_do an_Outside_do : Option Addr} {sl_Outside_do : Array (Option Value)} {oc_Outside_do kV_Outside_do dc_Outside_do pm_Outside_do cd_Outside_do ct_Outside_do : Value}
    (a_Outside_do : PySem.W.findIn K (.ref C) "do" = some (some (.ref f_Outside_do))) (i_Outside_do : PySem.W.isFn K (.ref f_Outside_do) = true) (l_Outside_do : K.lookup f_Outside_do = some ⟨oc_Outside_do, od_Outside_do, .func (PySem.W.fnOf "do" "Outside.do" (defArgs s_Outside_do) (defBody s_Outside_do) (defScope s_Outside_do) .none kV_Outside_do dc_Outside_do pm_Outside_do an_Outside_do cd_Outside_do ct_Outside_do), sl_Outside_do⟩) (c_Outside_do : PySem.W.codeIn K cd_Outside_do "Outside.do" = true) (k_Outside_do : PySem.W.keepIn K (.ref f_Outside_do) = true)
    {f_Outside_look : Addr} {od_Outside_look an_Outside_look : Option Addr} {sl_Outside_look : Array (Option Value)} {oc_Outside_look kV_Outside_look dc_Outside_look pm_Outside_look cd_Outside_look ct_Outside_look : Value}
    (a_Outside_look : PySem.W.findIn K (.ref C) "look" = some (some (.ref f_Outside_look))) (i_Outside_look : PySem.W.isFn K (.ref f_Outside_look) = true) (l_Outside_look : K.lookup f_Outside_look = some ⟨oc_Outside_look, od_Outside_look, .func (PySem.W.fnOf "look" "Outside.look" (defArgs s_Outside_look) (defBody s_Outside_look) (defScope s_Outside_look) .none kV_Outside_look dc_Outside_look pm_Outside_look an_Outside_look cd_Outside_look ct_Outside_look), sl_Outside_look⟩) (c_Outside_look : PySem.W.codeIn K cd_Outside_look "Outside.look" = true) (k_Outside_look : PySem.W.keepIn K (.ref f_Outside_look) = true)
    {f_Outside_calls : Addr} {od_Outside_calls an_Outside_calls : Option Addr} {sl_Outside_calls : Array (Option Value)} {oc_Outside_calls kV_Outside_calls dc_Outside_calls pm_Outside_calls cd_Outside_calls ct_Outside_calls : Value}
    (a_Outside_calls : PySem.W.findIn K (.ref C) "calls" = some (some (.ref f_Outside_calls))) (i_Outside_calls : PySem.W.isFn K (.ref f_Outside_calls) = true) (l_Outside_calls : K.lookup f_Outside_calls = some ⟨oc_Outside_calls, od_Outside_calls, .func (PySem.W.fnOf "calls" "Outside.calls" (defArgs s_Outside_calls) (defBody s_Outside_calls) (defScope s_Outside_calls) .none kV_Outside_calls dc_Outside_calls pm_Outside_calls an_Outside_calls cd_Outside_calls ct_Outside_calls), sl_Outside_calls⟩) (c_Outside_calls : PySem.W.codeIn K cd_Outside_calls "Outside.calls" = true) (k_Outside_calls : PySem.W.keepIn K (.ref f_Outside_calls) = true)
    {f_Outside__answer_to : Addr} {od_Outside__answer_to an_Outside__answer_to : Option Addr} {sl_Outside__answer_to : Array (Option Value)} {oc_Outside__answer_to kV_Outside__answer_to dc_Outside__answer_to pm_Outside__answer_to cd_Outside__answer_to ct_Outside__answer_to : Value}
    (a_Outside__answer_to : PySem.W.findIn K (.ref C) "_answer_to" = some (some (.ref f_Outside__answer_to))) (i_Outside__answer_to : PySem.W.isFn K (.ref f_Outside__answer_to) = true) (l_Outside__answer_to : K.lookup f_Outside__answer_to = some ⟨oc_Outside__answer_to, od_Outside__answer_to, .func (PySem.W.fnOf "_answer_to" "Outside._answer_to" (defArgs s_Outside__answer_to) (defBody s_Outside__answer_to) (defScope s_Outside__answer_to) .none kV_Outside__answer_to dc_Outside__answer_to pm_Outside__answer_to an_Outside__answer_to cd_Outside__answer_to ct_Outside__answer_to), sl_Outside__answer_to⟩) (c_Outside__answer_to : PySem.W.codeIn K cd_Outside__answer_to "Outside._answer_to" = true) (k_Outside__answer_to : PySem.W.keepIn K (.ref f_Outside__answer_to) = true)
    {f_Outside__raise_fence : Addr} {od_Outside__raise_fence an_Outside__raise_fence : Option Addr} {sl_Outside__raise_fence : Array (Option Value)} {oc_Outside__raise_fence kV_Outside__raise_fence dc_Outside__raise_fence pm_Outside__raise_fence cd_Outside__raise_fence ct_Outside__raise_fence : Value}
    (a_Outside__raise_fence : PySem.W.findIn K (.ref C) "_raise_fence" = some (some (.ref f_Outside__raise_fence))) (i_Outside__raise_fence : PySem.W.isFn K (.ref f_Outside__raise_fence) = true) (l_Outside__raise_fence : K.lookup f_Outside__raise_fence = some ⟨oc_Outside__raise_fence, od_Outside__raise_fence, .func (PySem.W.fnOf "_raise_fence" "Outside._raise_fence" (defArgs s_Outside__raise_fence) (defBody s_Outside__raise_fence) (defScope s_Outside__raise_fence) .none kV_Outside__raise_fence dc_Outside__raise_fence pm_Outside__raise_fence an_Outside__raise_fence cd_Outside__raise_fence ct_Outside__raise_fence), sl_Outside__raise_fence⟩) (c_Outside__raise_fence : PySem.W.codeIn K cd_Outside__raise_fence "Outside._raise_fence" = true) (k_Outside__raise_fence : PySem.W.keepIn K (.ref f_Outside__raise_fence) = true)
    {f_Outside__was_used : Addr} {od_Outside__was_used an_Outside__was_used : Option Addr} {sl_Outside__was_used : Array (Option Value)} {oc_Outside__was_used kV_Outside__was_used dc_Outside__was_used pm_Outside__was_used cd_Outside__was_used ct_Outside__was_used : Value}
    (a_Outside__was_used : PySem.W.findIn K (.ref C) "_was_used" = some (some (.ref f_Outside__was_used))) (i_Outside__was_used : PySem.W.isFn K (.ref f_Outside__was_used) = true) (l_Outside__was_used : K.lookup f_Outside__was_used = some ⟨oc_Outside__was_used, od_Outside__was_used, .func (PySem.W.fnOf "_was_used" "Outside._was_used" (defArgs s_Outside__was_used) (defBody s_Outside__was_used) (defScope s_Outside__was_used) .none kV_Outside__was_used dc_Outside__was_used pm_Outside__was_used an_Outside__was_used cd_Outside__was_used ct_Outside__was_used), sl_Outside__was_used⟩) (c_Outside__was_used : PySem.W.codeIn K cd_Outside__was_used "Outside._was_used" = true) (k_Outside__was_used : PySem.W.keepIn K (.ref f_Outside__was_used) = true)
    {f_Outside__make : Addr} {od_Outside__make an_Outside__make : Option Addr} {sl_Outside__make : Array (Option Value)} {oc_Outside__make kV_Outside__make dc_Outside__make pm_Outside__make cd_Outside__make ct_Outside__make : Value}
    (a_Outside__make : PySem.W.findIn K (.ref C) "_make" = some (some (.ref f_Outside__make))) (i_Outside__make : PySem.W.isFn K (.ref f_Outside__make) = true) (l_Outside__make : K.lookup f_Outside__make = some ⟨oc_Outside__make, od_Outside__make, .func (PySem.W.fnOf "_make" "Outside._make" (defArgs s_Outside__make) (defBody s_Outside__make) (defScope s_Outside__make) .none kV_Outside__make dc_Outside__make pm_Outside__make an_Outside__make cd_Outside__make ct_Outside__make), sl_Outside__make⟩) (c_Outside__make : PySem.W.codeIn K cd_Outside__make "Outside._make" = true) (k_Outside__make : PySem.W.keepIn K (.ref f_Outside__make) = true)
    {f_Outside__change : Addr} {od_Outside__change an_Outside__change : Option Addr} {sl_Outside__change : Array (Option Value)} {oc_Outside__change kV_Outside__change dc_Outside__change pm_Outside__change cd_Outside__change ct_Outside__change : Value}
    (a_Outside__change : PySem.W.findIn K (.ref C) "_change" = some (some (.ref f_Outside__change))) (i_Outside__change : PySem.W.isFn K (.ref f_Outside__change) = true) (l_Outside__change : K.lookup f_Outside__change = some ⟨oc_Outside__change, od_Outside__change, .func (PySem.W.fnOf "_change" "Outside._change" (defArgs s_Outside__change) (defBody s_Outside__change) (defScope s_Outside__change) .none kV_Outside__change dc_Outside__change pm_Outside__change an_Outside__change cd_Outside__change ct_Outside__change), sl_Outside__change⟩) (c_Outside__change : PySem.W.codeIn K cd_Outside__change "Outside._change" = true) (k_Outside__change : PySem.W.keepIn K (.ref f_Outside__change) = true)
    {f_Outside__take : Addr} {od_Outside__take an_Outside__take : Option Addr} {sl_Outside__take : Array (Option Value)} {oc_Outside__take kV_Outside__take dc_Outside__take pm_Outside__take cd_Outside__take ct_Outside__take : Value}
    (a_Outside__take : PySem.W.findIn K (.ref C) "_take" = some (some (.ref f_Outside__take))) (i_Outside__take : PySem.W.isFn K (.ref f_Outside__take) = true) (l_Outside__take : K.lookup f_Outside__take = some ⟨oc_Outside__take, od_Outside__take, .func (PySem.W.fnOf "_take" "Outside._take" (defArgs s_Outside__take) (defBody s_Outside__take) (defScope s_Outside__take) .none kV_Outside__take dc_Outside__take pm_Outside__take an_Outside__take cd_Outside__take ct_Outside__take), sl_Outside__take⟩) (c_Outside__take : PySem.W.codeIn K cd_Outside__take "Outside._take" = true) (k_Outside__take : PySem.W.keepIn K (.ref f_Outside__take) = true)
    {f_Outside__why_not_make : Addr} {od_Outside__why_not_make an_Outside__why_not_make : Option Addr} {sl_Outside__why_not_make : Array (Option Value)} {oc_Outside__why_not_make kV_Outside__why_not_make dc_Outside__why_not_make pm_Outside__why_not_make cd_Outside__why_not_make ct_Outside__why_not_make : Value}
    (a_Outside__why_not_make : PySem.W.findIn K (.ref C) "_why_not_make" = some (some (.ref f_Outside__why_not_make))) (i_Outside__why_not_make : PySem.W.isFn K (.ref f_Outside__why_not_make) = true) (l_Outside__why_not_make : K.lookup f_Outside__why_not_make = some ⟨oc_Outside__why_not_make, od_Outside__why_not_make, .func (PySem.W.fnOf "_why_not_make" "Outside._why_not_make" (defArgs s_Outside__why_not_make) (defBody s_Outside__why_not_make) (defScope s_Outside__why_not_make) .none kV_Outside__why_not_make dc_Outside__why_not_make pm_Outside__why_not_make an_Outside__why_not_make cd_Outside__why_not_make ct_Outside__why_not_make), sl_Outside__why_not_make⟩) (c_Outside__why_not_make : PySem.W.codeIn K cd_Outside__why_not_make "Outside._why_not_make" = true) (k_Outside__why_not_make : PySem.W.keepIn K (.ref f_Outside__why_not_make) = true)
    {f_Outside__why_not_change : Addr} {od_Outside__why_not_change an_Outside__why_not_change : Option Addr} {sl_Outside__why_not_change : Array (Option Value)} {oc_Outside__why_not_change kV_Outside__why_not_change dc_Outside__why_not_change pm_Outside__why_not_change cd_Outside__why_not_change ct_Outside__why_not_change : Value}
    (a_Outside__why_not_change : PySem.W.findIn K (.ref C) "_why_not_change" = some (some (.ref f_Outside__why_not_change))) (i_Outside__why_not_change : PySem.W.isFn K (.ref f_Outside__why_not_change) = true) (l_Outside__why_not_change : K.lookup f_Outside__why_not_change = some ⟨oc_Outside__why_not_change, od_Outside__why_not_change, .func (PySem.W.fnOf "_why_not_change" "Outside._why_not_change" (defArgs s_Outside__why_not_change) (defBody s_Outside__why_not_change) (defScope s_Outside__why_not_change) .none kV_Outside__why_not_change dc_Outside__why_not_change pm_Outside__why_not_change an_Outside__why_not_change cd_Outside__why_not_change ct_Outside__why_not_change), sl_Outside__why_not_change⟩) (c_Outside__why_not_change : PySem.W.codeIn K cd_Outside__why_not_change "Outside._why_not_change" = true) (k_Outside__why_not_change : PySem.W.keepIn K (.ref f_Outside__why_not_change) = true)
    {f_Outside__why_not_reach : Addr} {od_Outside__why_not_reach an_Outside__why_not_reach : Option Addr} {sl_Outside__why_not_reach : Array (Option Value)} {oc_Outside__why_not_reach kV_Outside__why_not_reach dc_Outside__why_not_reach pm_Outside__why_not_reach cd_Outside__why_not_reach ct_Outside__why_not_reach : Value}
    (a_Outside__why_not_reach : PySem.W.findIn K (.ref C) "_why_not_reach" = some (some (.ref f_Outside__why_not_reach))) (i_Outside__why_not_reach : PySem.W.isFn K (.ref f_Outside__why_not_reach) = true) (l_Outside__why_not_reach : K.lookup f_Outside__why_not_reach = some ⟨oc_Outside__why_not_reach, od_Outside__why_not_reach, .func (PySem.W.fnOf "_why_not_reach" "Outside._why_not_reach" (defArgs s_Outside__why_not_reach) (defBody s_Outside__why_not_reach) (defScope s_Outside__why_not_reach) .none kV_Outside__why_not_reach dc_Outside__why_not_reach pm_Outside__why_not_reach an_Outside__why_not_reach cd_Outside__why_not_reach ct_Outside__why_not_reach), sl_Outside__why_not_reach⟩) (c_Outside__why_not_reach : PySem.W.codeIn K cd_Outside__why_not_reach "Outside._why_not_reach" = true) (k_Outside__why_not_reach : PySem.W.keepIn K (.ref f_Outside__why_not_reach) = true)
    {f_Outside__why_not_bear : Addr} {od_Outside__why_not_bear an_Outside__why_not_bear : Option Addr} {sl_Outside__why_not_bear : Array (Option Value)} {oc_Outside__why_not_bear kV_Outside__why_not_bear dc_Outside__why_not_bear pm_Outside__why_not_bear cd_Outside__why_not_bear ct_Outside__why_not_bear : Value}
    (a_Outside__why_not_bear : PySem.W.findIn K (.ref C) "_why_not_bear" = some (some (.ref f_Outside__why_not_bear))) (i_Outside__why_not_bear : PySem.W.isFn K (.ref f_Outside__why_not_bear) = true) (l_Outside__why_not_bear : K.lookup f_Outside__why_not_bear = some ⟨oc_Outside__why_not_bear, od_Outside__why_not_bear, .func (PySem.W.fnOf "_why_not_bear" "Outside._why_not_bear" (defArgs s_Outside__why_not_bear) (defBody s_Outside__why_not_bear) (defScope s_Outside__why_not_bear) .none kV_Outside__why_not_bear dc_Outside__why_not_bear pm_Outside__why_not_bear an_Outside__why_not_bear cd_Outside__why_not_bear ct_Outside__why_not_bear), sl_Outside__why_not_bear⟩) (c_Outside__why_not_bear : PySem.W.codeIn K cd_Outside__why_not_bear "Outside._why_not_bear" = true) (k_Outside__why_not_bear : PySem.W.keepIn K (.ref f_Outside__why_not_bear) = true)
    {f_Outside__lives : Addr} {od_Outside__lives an_Outside__lives : Option Addr} {sl_Outside__lives : Array (Option Value)} {oc_Outside__lives kV_Outside__lives dc_Outside__lives pm_Outside__lives cd_Outside__lives ct_Outside__lives : Value}
    (a_Outside__lives : PySem.W.findIn K (.ref C) "_lives" = some (some (.ref f_Outside__lives))) (i_Outside__lives : PySem.W.isFn K (.ref f_Outside__lives) = true) (l_Outside__lives : K.lookup f_Outside__lives = some ⟨oc_Outside__lives, od_Outside__lives, .func (PySem.W.fnOf "_lives" "Outside._lives" (defArgs s_Outside__lives) (defBody s_Outside__lives) (defScope s_Outside__lives) .none kV_Outside__lives dc_Outside__lives pm_Outside__lives an_Outside__lives cd_Outside__lives ct_Outside__lives), sl_Outside__lives⟩) (c_Outside__lives : PySem.W.codeIn K cd_Outside__lives "Outside._lives" = true) (k_Outside__lives : PySem.W.keepIn K (.ref f_Outside__lives) = true)
    {f_Outside__is_borne : Addr} {od_Outside__is_borne an_Outside__is_borne : Option Addr} {sl_Outside__is_borne : Array (Option Value)} {oc_Outside__is_borne kV_Outside__is_borne dc_Outside__is_borne pm_Outside__is_borne cd_Outside__is_borne ct_Outside__is_borne : Value}
    (a_Outside__is_borne : PySem.W.findIn K (.ref C) "_is_borne" = some (some (.ref f_Outside__is_borne))) (i_Outside__is_borne : PySem.W.isFn K (.ref f_Outside__is_borne) = true) (l_Outside__is_borne : K.lookup f_Outside__is_borne = some ⟨oc_Outside__is_borne, od_Outside__is_borne, .func (PySem.W.fnOf "_is_borne" "Outside._is_borne" (defArgs s_Outside__is_borne) (defBody s_Outside__is_borne) (defScope s_Outside__is_borne) .none kV_Outside__is_borne dc_Outside__is_borne pm_Outside__is_borne an_Outside__is_borne cd_Outside__is_borne ct_Outside__is_borne), sl_Outside__is_borne⟩) (c_Outside__is_borne : PySem.W.codeIn K cd_Outside__is_borne "Outside._is_borne" = true) (k_Outside__is_borne : PySem.W.keepIn K (.ref f_Outside__is_borne) = true)
    {f_Outside__is_needed : Addr} {od_Outside__is_needed an_Outside__is_needed : Option Addr} {sl_Outside__is_needed : Array (Option Value)} {oc_Outside__is_needed kV_Outside__is_needed dc_Outside__is_needed pm_Outside__is_needed cd_Outside__is_needed ct_Outside__is_needed : Value}
    (a_Outside__is_needed : PySem.W.findIn K (.ref C) "_is_needed" = some (some (.ref f_Outside__is_needed))) (i_Outside__is_needed : PySem.W.isFn K (.ref f_Outside__is_needed) = true) (l_Outside__is_needed : K.lookup f_Outside__is_needed = some ⟨oc_Outside__is_needed, od_Outside__is_needed, .func (PySem.W.fnOf "_is_needed" "Outside._is_needed" (defArgs s_Outside__is_needed) (defBody s_Outside__is_needed) (defScope s_Outside__is_needed) .none kV_Outside__is_needed dc_Outside__is_needed pm_Outside__is_needed an_Outside__is_needed cd_Outside__is_needed ct_Outside__is_needed), sl_Outside__is_needed⟩) (c_Outside__is_needed : PySem.W.codeIn K cd_Outside__is_needed "Outside._is_needed" = true) (k_Outside__is_needed : PySem.W.keepIn K (.ref f_Outside__is_needed) = true)
    {f_Outside__needs_of : Addr} {od_Outside__needs_of an_Outside__needs_of : Option Addr} {sl_Outside__needs_of : Array (Option Value)} {oc_Outside__needs_of kV_Outside__needs_of dc_Outside__needs_of pm_Outside__needs_of cd_Outside__needs_of ct_Outside__needs_of : Value}
    (a_Outside__needs_of : PySem.W.findIn K (.ref C) "_needs_of" = some (some (.ref f_Outside__needs_of))) (i_Outside__needs_of : PySem.W.isFn K (.ref f_Outside__needs_of) = true) (l_Outside__needs_of : K.lookup f_Outside__needs_of = some ⟨oc_Outside__needs_of, od_Outside__needs_of, .func (PySem.W.fnOf "_needs_of" "Outside._needs_of" (defArgs s_Outside__needs_of) (defBody s_Outside__needs_of) (defScope s_Outside__needs_of) .none kV_Outside__needs_of dc_Outside__needs_of pm_Outside__needs_of an_Outside__needs_of cd_Outside__needs_of ct_Outside__needs_of), sl_Outside__needs_of⟩) (c_Outside__needs_of : PySem.W.codeIn K cd_Outside__needs_of "Outside._needs_of" = true) (k_Outside__needs_of : PySem.W.keepIn K (.ref f_Outside__needs_of) = true)
    (aC : PySem.W.nsIn K mainGlobals "Outside" = some (some (.ref C))) (pg : PySem.W.plainGet K C Str.empty = true) (hd : PySem.W.hasDictIn K C = true) (po : PySem.W.plainOver K C = true) (sa : PySem.W.findIn K (.ref C) "__setattr__" = some (some (.builtin "object.__setattr__"))) (mk : PySem.W.makesIn K C = true) (kc : PySem.W.keepIn K (.ref C) = true)
    (nk : PySem.W.findIn K (.ref C) "_kinds" = some none) (nm : PySem.W.findIn K (.ref C) "_moment" = some none) (nf : PySem.W.findIn K (.ref C) "_fences" = some none) (nt : PySem.W.findIn K (.ref C) "_things" = some none) (ns : PySem.W.findIn K (.ref C) "_spent" = some none) (ng : PySem.W.findIn K (.ref C) "_greatest_id" = some none) (nc : PySem.W.findIn K (.ref C) "_calls" = some none)
    (zabs : PySem.W.nsIn K mainGlobals "abs" = some none)
    {pC : Addr} {eC : Array DictEntry} {nC : Nat} (aCd : PySem.W.nsIn K mainGlobals "CALLS" = some (some (.ref pC))) (xCd : K.lookup pC = some { cls := .type "dict", data := .dict eC nC }) (yCd : PySem.W.KeysLit w.params eC.toList) (zCd : (pC == sysModules) = false)
    {pCc_fence : Addr} {dCc_fence : Option Addr} {uCc_fence : List Value} {nCc_fence : Nat} {qCc_fence : Array (Option Value)} (wCc_fence : PySem.W.nsIn K pC "fence" = some (some (.ref pCc_fence))) (xCc_fence : K.lookup pCc_fence = some ⟨.type "tuple", dCc_fence, .seq uCc_fence.toArray nCc_fence, qCc_fence⟩) (vCc_fence : Vals [.str "pair"] uCc_fence) (lCc_fence : uCc_fence.length ≤ sizeLine)
    {pCc_make : Addr} {dCc_make : Option Addr} {uCc_make : List Value} {nCc_make : Nat} {qCc_make : Array (Option Value)} (wCc_make : PySem.W.nsIn K pC "make" = some (some (.ref pCc_make))) (xCc_make : K.lookup pCc_make = some ⟨.type "tuple", dCc_make, .seq uCc_make.toArray nCc_make, qCc_make⟩) (vCc_make : Vals [.str "pair", .str "pair", .str "anything", .str "values"] uCc_make) (lCc_make : uCc_make.length ≤ sizeLine)
    {pCc_change : Addr} {dCc_change : Option Addr} {uCc_change : List Value} {nCc_change : Nat} {qCc_change : Array (Option Value)} (wCc_change : PySem.W.nsIn K pC "change" = some (some (.ref pCc_change))) (xCc_change : K.lookup pCc_change = some ⟨.type "tuple", dCc_change, .seq uCc_change.toArray nCc_change, qCc_change⟩) (vCc_change : Vals [.str "pair", .str "integer", .str "integer", .str "string", .str "value"] uCc_change) (lCc_change : uCc_change.length ≤ sizeLine)
    {pCc_take : Addr} {dCc_take : Option Addr} {uCc_take : List Value} {nCc_take : Nat} {qCc_take : Array (Option Value)} (wCc_take : PySem.W.nsIn K pC "take" = some (some (.ref pCc_take))) (xCc_take : K.lookup pCc_take = some ⟨.type "tuple", dCc_take, .seq uCc_take.toArray nCc_take, qCc_take⟩) (vCc_take : Vals [.str "pair", .str "integer", .str "integer"] uCc_take) (lCc_take : uCc_take.length ≤ sizeLine)
    (wst : PySem.W.nsIn K pC "stay" = some none)
    {pD : Addr} {eD : Array DictEntry} {nD : Nat} (aDd : PySem.W.nsIn K mainGlobals "DEEDS" = some (some (.ref pD))) (xDd : K.lookup pD = some { cls := .type "dict", data := .dict eD nD }) (yDd : PySem.W.KeysLit w.params eD.toList) (zDd : (pD == sysModules) = false)
    {pDd_make : Addr} {dDd_make : Option Addr} {uDd_make : List Value} {nDd_make : Nat} {qDd_make : Array (Option Value)} (wDd_make : PySem.W.nsIn K pD "make" = some (some (.ref pDd_make))) (xDd_make : K.lookup pDd_make = some ⟨.type "tuple", dDd_make, .seq uDd_make.toArray nDd_make, qDd_make⟩) (vDd_make : Vals [.str "anything", .str "values"] uDd_make) (lDd_make : uDd_make.length ≤ sizeLine)
    {pDd_change : Addr} {dDd_change : Option Addr} {uDd_change : List Value} {nDd_change : Nat} {qDd_change : Array (Option Value)} (wDd_change : PySem.W.nsIn K pD "change" = some (some (.ref pDd_change))) (xDd_change : K.lookup pDd_change = some ⟨.type "tuple", dDd_change, .seq uDd_change.toArray nDd_change, qDd_change⟩) (vDd_change : Vals [.str "integer", .str "string", .str "value"] uDd_change) (lDd_change : uDd_change.length ≤ sizeLine)
    {pDd_take : Addr} {dDd_take : Option Addr} {uDd_take : List Value} {nDd_take : Nat} {qDd_take : Array (Option Value)} (wDd_take : PySem.W.nsIn K pD "take" = some (some (.ref pDd_take))) (xDd_take : K.lookup pDd_take = some ⟨.type "tuple", dDd_take, .seq uDd_take.toArray nDd_take, qDd_take⟩) (vDd_take : Vals [.str "integer"] uDd_take) (lDd_take : uDd_take.length ≤ sizeLine)
    (z_len : PySem.W.nsIn K mainGlobals "len" = some none)
    (z_range : PySem.W.nsIn K mainGlobals "range" = some none)
    (z_int : PySem.W.nsIn K mainGlobals "int" = some none)
    (z_str : PySem.W.nsIn K mainGlobals "str" = some none)
    (z_bool : PySem.W.nsIn K mainGlobals "bool" = some none)
    (z_tuple : PySem.W.nsIn K mainGlobals "tuple" = some none)
    (z_list : PySem.W.nsIn K mainGlobals "list" = some none)
    (z_dict : PySem.W.nsIn K mainGlobals "dict" = some none)
    (z_isinstance : PySem.W.nsIn K mainGlobals "isinstance" = some none)
    (z_max : PySem.W.nsIn K mainGlobals "max" = some none)
    (z_all : PySem.W.nsIn K mainGlobals "all" = some none)
    (z_any : PySem.W.nsIn K mainGlobals "any" = some none)
    (z_zip : PySem.W.nsIn K mainGlobals "zip" = some none)
    (z_sorted : PySem.W.nsIn K mainGlobals "sorted" = some none)
    {t_NUMBERS : Tok} (y_NUMBERS : PySem.W.nsIn K mainGlobals "NUMBERS" = some (some (.int 4294967296 t_NUMBERS)))
    {p_DONE : Addr} {d_DONE : Option Addr} {u_DONE : List Value} {n_DONE : Nat} {q_DONE : Array (Option Value)} (y_DONE : PySem.W.nsIn K mainGlobals "DONE" = some (some (.ref p_DONE))) (x_DONE : K.lookup p_DONE = some ⟨.type "tuple", d_DONE, .seq u_DONE.toArray n_DONE, q_DONE⟩) (v_DONE : Vals [.str "done"] u_DONE) (w_DONE : u_DONE.length ≤ sizeLine)
    : ∃ fd : FuncData, (∀ (s : Shared) (v : Value), BindsTo s fd ⟨[v], []⟩ [("script", v)]) ∧ ∀ base : Heap, K.In base → base.Ns mainGlobals mg → FnOk l.prog w K mg base CX0 15 fa fd ["script"] (spLaw K) := by
  have e := hfa.symm.trans (PySem.W.mg_of X G a32)
  cases e
  have F_is_call := fun_mk (st := s_is_call) l0 c0 k0
  have b_is_call := F_is_call.binds (ps := ["call"]) fun _ _ _ _ _ _ us hl => match us, hl with | [_], _ => rfl
  have g_is_call := PySem.W.mg_of X G a0
  have F__begins_with_word := fun_mk (st := s__begins_with_word) l1 c1 k1
  have b__begins_with_word := F__begins_with_word.binds (ps := ["row"]) fun _ _ _ _ _ _ us hl => match us, hl with | [_], _ => rfl
  have g__begins_with_word := PySem.W.mg_of X G a1
  have F__have_forms := fun_mk (st := s__have_forms) l2 c2 k2
  have b__have_forms := F__have_forms.binds (ps := ["parts", "forms"]) fun _ _ _ _ _ _ us hl => match us, hl with | [_, _], _ => rfl
  have g__have_forms := PySem.W.mg_of X G a2
  have F__has_form := fun_mk (st := s__has_form) l3 c3 k3
  have b__has_form := F__has_form.binds (ps := ["part", "form"]) fun _ _ _ _ _ _ us hl => match us, hl with | [_, _], _ => rfl
  have g__has_form := PySem.W.mg_of X G a3
  have F__is_tuple_of := fun_mk (st := s__is_tuple_of) l4 c4 k4
  have b__is_tuple_of := F__is_tuple_of.binds (ps := ["part", "forms"]) fun _ _ _ _ _ _ us hl => match us, hl with | [_, _], _ => rfl
  have g__is_tuple_of := PySem.W.mg_of X G a4
  have F__is_integer := fun_mk (st := s__is_integer) l5 c5 k5
  have b__is_integer := F__is_integer.binds (ps := ["part"]) fun _ _ _ _ _ _ us hl => match us, hl with | [_], _ => rfl
  have g__is_integer := PySem.W.mg_of X G a5
  have F__fits := fun_mk (st := s__fits) l6 c6 k6
  have b__fits := F__fits.binds (ps := ["value", "form"]) fun _ _ _ _ _ _ us hl => match us, hl with | [_, _], _ => rfl
  have g__fits := PySem.W.mg_of X G a6
  have F_outside_of := fun_mk (st := s_outside_of) l7 c7 k7
  have b_outside_of := F_outside_of.binds (ps := ["kinds", "look"]) fun _ _ _ _ _ _ us hl => match us, hl with | [_, _], _ => rfl
  have g_outside_of := PySem.W.mg_of X G a7
  have F__law_tape := fun_mk (st := s__law_tape) l8 c8 k8
  have b__law_tape := F__law_tape.binds (ps := ["script"]) fun _ _ _ _ _ _ us hl => match us, hl with | [_], _ => rfl
  have g__law_tape := PySem.W.mg_of X G a8
  have F__law_take := fun_mk (st := s__law_take) l9 c9 k9
  have b__law_take := F__law_take.binds (ps := ["tape", "many"]) fun _ _ _ _ _ _ us hl => match us, hl with | [_, _], _ => rfl
  have g__law_take := PySem.W.mg_of X G a9
  have F__law_is_integer := fun_mk (st := s__law_is_integer) l10 c10 k10
  have b__law_is_integer := F__law_is_integer.binds (ps := ["actual"]) fun _ _ _ _ _ _ us hl => match us, hl with | [_], _ => rfl
  have g__law_is_integer := PySem.W.mg_of X G a10
  have F__law_same_items := fun_mk (st := s__law_same_items) l11 c11 k11
  have b__law_same_items := F__law_same_items.binds (ps := ["actual", "expected"]) fun _ _ _ _ _ _ us hl => match us, hl with | [_, _], _ => rfl
  have g__law_same_items := PySem.W.mg_of X G a11
  have F__law_same := fun_mk (st := s__law_same) l12 c12 k12
  have b__law_same := F__law_same.binds (ps := ["actual", "expected"]) fun _ _ _ _ _ _ us hl => match us, hl with | [_, _], _ => rfl
  have g__law_same := PySem.W.mg_of X G a12
  have F__law_marks := fun_mk (st := s__law_marks) l13 c13 k13
  have b__law_marks := F__law_marks.binds (ps := ["tape", "options"]) fun _ _ _ _ _ _ us hl => match us, hl with | [_, _], _ => rfl
  have g__law_marks := PySem.W.mg_of X G a13
  have F__law_kinds := fun_mk (st := s__law_kinds) l14 c14 k14
  have b__law_kinds := F__law_kinds.binds (ps := ["tape"]) fun _ _ _ _ _ _ us hl => match us, hl with | [_], _ => rfl
  have g__law_kinds := PySem.W.mg_of X G a14
  have F__law_kind_dict := fun_mk (st := s__law_kind_dict) l15 c15 k15
  have b__law_kind_dict := F__law_kind_dict.binds (ps := ["kinds"]) fun _ _ _ _ _ _ us hl => match us, hl with | [_], _ => rfl
  have g__law_kind_dict := PySem.W.mg_of X G a15
  have F__law_new_world := fun_mk (st := s__law_new_world) l16 c16 k16
  have b__law_new_world := F__law_new_world.binds (ps := []) fun _ _ _ _ _ _ us hl => match us, hl with | [], _ => rfl
  have g__law_new_world := PySem.W.mg_of X G a16
  have F__law_form := fun_mk (st := s__law_form) l17 c17 k17
  have b__law_form := F__law_form.binds (ps := ["kinds", "kind", "field", "value"]) fun _ _ _ _ _ _ us hl => match us, hl with | [_, _, _, _], _ => rfl
  have g__law_form := PySem.W.mg_of X G a17
  have F__law_why_value := fun_mk (st := s__law_why_value) l18 c18 k18
  have b__law_why_value := F__law_why_value.binds (ps := ["kinds", "w", "kind", "field", "value", "own"]) fun _ _ _ _ _ _ us hl => match us, hl with | [_, _, _, _, _, _], _ => rfl
  have g__law_why_value := PySem.W.mg_of X G a18
  have F__law_first_why := fun_mk (st := s__law_first_why) l19 c19 k19
  have b__law_first_why := F__law_first_why.binds (ps := ["kinds", "w", "kind", "values", "own"]) fun _ _ _ _ _ _ us hl => match us, hl with | [_, _, _, _, _], _ => rfl
  have g__law_first_why := PySem.W.mg_of X G a19
  have F__law_needed := fun_mk (st := s__law_needed) l20 c20 k20
  have b__law_needed := F__law_needed.binds (ps := ["kinds", "w", "one"]) fun _ _ _ _ _ _ us hl => match us, hl with | [_, _, _], _ => rfl
  have g__law_needed := PySem.W.mg_of X G a20
  have F__law_make_why := fun_mk (st := s__law_make_why) l21 c21 k21
  have b__law_make_why := F__law_make_why.binds (ps := ["kinds", "w", "mark", "token", "kind", "values"]) fun _ _ _ _ _ _ us hl => match us, hl with | [_, _, _, _, _, _], _ => rfl
  have g__law_make_why := PySem.W.mg_of X G a21
  have F__law_other_why := fun_mk (st := s__law_other_why) l22 c22 k22
  have b__law_other_why := F__law_other_why.binds (ps := ["kinds", "w", "mark", "one", "version"]) fun _ _ _ _ _ _ us hl => match us, hl with | [_, _, _, _, _], _ => rfl
  have g__law_other_why := PySem.W.mg_of X G a22
  have F__law_change_why := fun_mk (st := s__law_change_why) l23 c23 k23
  have b__law_change_why := F__law_change_why.binds (ps := ["kinds", "w", "mark", "one", "version", "field", "value"]) fun _ _ _ _ _ _ us hl => match us, hl with | [_, _, _, _, _, _, _], _ => rfl
  have g__law_change_why := PySem.W.mg_of X G a23
  have F__law_do_make := fun_mk (st := s__law_do_make) l24 c24 k24
  have b__law_do_make := F__law_do_make.binds (ps := ["kinds", "w", "mark", "token", "kind", "values"]) fun _ _ _ _ _ _ us hl => match us, hl with | [_, _, _, _, _, _], _ => rfl
  have g__law_do_make := PySem.W.mg_of X G a24
  have F__law_do_change := fun_mk (st := s__law_do_change) l25 c25 k25
  have b__law_do_change := F__law_do_change.binds (ps := ["kinds", "w", "mark", "one", "version", "field", "value"]) fun _ _ _ _ _ _ us hl => match us, hl with | [_, _, _, _, _, _, _], _ => rfl
  have g__law_do_change := PySem.W.mg_of X G a25
  have F__law_do_take := fun_mk (st := s__law_do_take) l26 c26 k26
  have b__law_do_take := F__law_do_take.binds (ps := ["kinds", "w", "mark", "one", "version"]) fun _ _ _ _ _ _ us hl => match us, hl with | [_, _, _, _, _], _ => rfl
  have g__law_do_take := PySem.W.mg_of X G a26
  have F__law_do := fun_mk (st := s__law_do) l27 c27 k27
  have b__law_do := F__law_do.binds (ps := ["kinds", "w", "call"]) fun _ _ _ _ _ _ us hl => match us, hl with | [_, _, _], _ => rfl
  have g__law_do := PySem.W.mg_of X G a27
  have F__law_any_value := fun_mk (st := s__law_any_value) l28 c28 k28
  have b__law_any_value := F__law_any_value.binds (ps := ["tape", "w", "target"]) fun _ _ _ _ _ _ us hl => match us, hl with | [_, _, _], _ => rfl
  have g__law_any_value := PySem.W.mg_of X G a28
  have F__law_any_values := fun_mk (st := s__law_any_values) l29 c29 k29
  have b__law_any_values := F__law_any_values.binds (ps := ["tape", "kinds", "w", "kind"]) fun _ _ _ _ _ _ us hl => match us, hl with | [_, _, _, _], _ => rfl
  have g__law_any_values := PySem.W.mg_of X G a29
  have F__law_any_id := fun_mk (st := s__law_any_id) l30 c30 k30
  have b__law_any_id := F__law_any_id.binds (ps := ["tape", "w"]) fun _ _ _ _ _ _ us hl => match us, hl with | [_, _], _ => rfl
  have g__law_any_id := PySem.W.mg_of X G a30
  have F__law_any_call := fun_mk (st := s__law_any_call) l31 c31 k31
  have b__law_any_call := F__law_any_call.binds (ps := ["tape", "kinds", "w"]) fun _ _ _ _ _ _ us hl => match us, hl with | [_, _, _], _ => rfl
  have g__law_any_call := PySem.W.mg_of X G a31
  have F_law := fun_mk (st := s_law) l32 c32 k32
  have F_Outside___init__ := fun_mk (st := s_Outside___init__) l_Outside___init__ c_Outside___init__ k_Outside___init__
  have F_Outside__begin := fun_mk (st := s_Outside__begin) l_Outside__begin c_Outside__begin k_Outside__begin
  have F_Outside_do := fun_mk (st := s_Outside_do) l_Outside_do c_Outside_do k_Outside_do
  have F_Outside_look := fun_mk (st := s_Outside_look) l_Outside_look c_Outside_look k_Outside_look
  have F_Outside_calls := fun_mk (st := s_Outside_calls) l_Outside_calls c_Outside_calls k_Outside_calls
  have F_Outside__answer_to := fun_mk (st := s_Outside__answer_to) l_Outside__answer_to c_Outside__answer_to k_Outside__answer_to
  have F_Outside__raise_fence := fun_mk (st := s_Outside__raise_fence) l_Outside__raise_fence c_Outside__raise_fence k_Outside__raise_fence
  have F_Outside__was_used := fun_mk (st := s_Outside__was_used) l_Outside__was_used c_Outside__was_used k_Outside__was_used
  have F_Outside__make := fun_mk (st := s_Outside__make) l_Outside__make c_Outside__make k_Outside__make
  have F_Outside__change := fun_mk (st := s_Outside__change) l_Outside__change c_Outside__change k_Outside__change
  have F_Outside__take := fun_mk (st := s_Outside__take) l_Outside__take c_Outside__take k_Outside__take
  have F_Outside__why_not_make := fun_mk (st := s_Outside__why_not_make) l_Outside__why_not_make c_Outside__why_not_make k_Outside__why_not_make
  have F_Outside__why_not_change := fun_mk (st := s_Outside__why_not_change) l_Outside__why_not_change c_Outside__why_not_change k_Outside__why_not_change
  have F_Outside__why_not_reach := fun_mk (st := s_Outside__why_not_reach) l_Outside__why_not_reach c_Outside__why_not_reach k_Outside__why_not_reach
  have F_Outside__why_not_bear := fun_mk (st := s_Outside__why_not_bear) l_Outside__why_not_bear c_Outside__why_not_bear k_Outside__why_not_bear
  have F_Outside__lives := fun_mk (st := s_Outside__lives) l_Outside__lives c_Outside__lives k_Outside__lives
  have F_Outside__is_borne := fun_mk (st := s_Outside__is_borne) l_Outside__is_borne c_Outside__is_borne k_Outside__is_borne
  have F_Outside__is_needed := fun_mk (st := s_Outside__is_needed) l_Outside__is_needed c_Outside__is_needed k_Outside__is_needed
  have F_Outside__needs_of := fun_mk (st := s_Outside__needs_of) l_Outside__needs_of c_Outside__needs_of k_Outside__needs_of
  have T : OTxt2 l.prog w K mg C pC pD p_DONE eC eD nC nD := {
    cl := ⟨pg, hd, po, sa⟩, n_kinds := nk, n_moment := nm, n_fences := nf, n_things := nt, n_spent := ns, n_grt := ng, n_calls := nc, g_Outside := PySem.W.mg_of X G aC, g_CALLS := ⟨_, PySem.W.mg_of X G aCd, rfl⟩, kd_CALLS := ⟨xCd, yCd, zCd⟩, c_fence := ⟨pCc_fence, wCc_fence, fun H => .inr ⟨_, _, _, xCc_fence, rfl, rfl, (by simpa using lCc_fence), (by simpa using vCc_fence)⟩⟩, c_make := ⟨pCc_make, wCc_make, fun H => .inr ⟨_, _, _, xCc_make, rfl, rfl, (by simpa using lCc_make), (by simpa using vCc_make)⟩⟩, c_change := ⟨pCc_change, wCc_change, fun H => .inr ⟨_, _, _, xCc_change, rfl, rfl, (by simpa using lCc_change), (by simpa using vCc_change)⟩⟩, c_take := ⟨pCc_take, wCc_take, fun H => .inr ⟨_, _, _, xCc_take, rfl, rfl, (by simpa using lCc_take), (by simpa using vCc_take)⟩⟩, c_stay := wst, g_DEEDS := ⟨_, PySem.W.mg_of X G aDd, rfl⟩, kd_DEEDS := ⟨xDd, yDd, zDd⟩, d_make := ⟨pDd_make, wDd_make, fun H => .inr ⟨_, _, _, xDd_make, rfl, rfl, (by simpa using lDd_make), (by simpa using vDd_make)⟩⟩, d_change := ⟨pDd_change, wDd_change, fun H => .inr ⟨_, _, _, xDd_change, rfl, rfl, (by simpa using lDd_change), (by simpa using vDd_change)⟩⟩, d_take := ⟨pDd_take, wDd_take, fun H => .inr ⟨_, _, _, xDd_take, rfl, rfl, (by simpa using lDd_take), (by simpa using vDd_take)⟩⟩, b_len := PySem.W.mg_none_of X G z_len, b_range := PySem.W.mg_none_of X G z_range, b_int := PySem.W.mg_none_of X G z_int, b_str := PySem.W.mg_none_of X G z_str, b_bool := PySem.W.mg_none_of X G z_bool, b_tuple := PySem.W.mg_none_of X G z_tuple, b_list := PySem.W.mg_none_of X G z_list, b_dict := PySem.W.mg_none_of X G z_dict, b_isinstance := PySem.W.mg_none_of X G z_isinstance, b_max := PySem.W.mg_none_of X G z_max, b_all := PySem.W.mg_none_of X G z_all, b_any := PySem.W.mg_none_of X G z_any, b_zip := PySem.W.mg_none_of X G z_zip, b_sorted := PySem.W.mg_none_of X G z_sorted, g_NUMBERS := ⟨_, PySem.W.mg_of X G y_NUMBERS, ⟨_, rfl⟩⟩, g_DONE := ⟨_, PySem.W.mg_of X G y_DONE, rfl⟩, o_DONE := fun H => .inr ⟨_, _, _, x_DONE, rfl, rfl, (by simpa using w_DONE), (by simpa using v_DONE)⟩ }
  refine ⟨PySem.W.fnOf "law" "law" (defArgs s_law) (defBody s_law) (defScope s_law) .none kV32 dc32 pm32 an32 cd32 ct32, fun s v => .of_eq rfl, fun base _ _ => ?_⟩

  have T1 := T.toOTxt
  have B : OBlt mg := { b_len := T.b_len, b_range := T.b_range, b_abs := PySem.W.mg_none_of X G zabs, b_int := T.b_int, b_str := T.b_str, b_bool := T.b_bool, b_tuple := T.b_tuple, b_list := T.b_list, b_dict := T.b_dict, b_isinstance := T.b_isinstance, b_max := T.b_max, b_all := T.b_all, b_any := T.b_any, b_zip := T.b_zip, b_sorted := T.b_sorted }
  have c__law_tape : C8.Cal l.prog w K mg base 1 "_law_tape" (spTape K) [] := cal F__law_tape g__law_tape b__law_tape (ok__law_tape F__law_tape B.toBlt)
  have c__law_take : C8.Cal l.prog w K mg base 1 "_law_take" spTake [] := cal F__law_take g__law_take b__law_take (ok__law_take F__law_take B.toBlt)
  have c__law_marks : C8.Cal l.prog w K mg base 2 "_law_marks" (spMarks K) [] := cal F__law_marks g__law_marks b__law_marks (ok__law_marks F__law_marks B c__law_take)
  have c__law_kinds : C8.Cal l.prog w K mg base 3 "_law_kinds" (spKinds K) [] := cal F__law_kinds g__law_kinds b__law_kinds (ok__law_kinds F__law_kinds B c__law_marks)
  have c__law_kind_dict : C8.Cal l.prog w K mg base 1 "_law_kind_dict" (spKindDict K) [] := cal F__law_kind_dict g__law_kind_dict b__law_kind_dict (ok__law_kind_dict F__law_kind_dict B)
  have c__law_new_world : C8.Cal l.prog w K mg base 1 "_law_new_world" (spNewW K) [] := cal F__law_new_world g__law_new_world b__law_new_world (ok__law_new_world F__law_new_world B)
  have c__law_form : C8.Cal l.prog w K mg base 1 "_law_form" (spForm K) [] := cal F__law_form g__law_form b__law_form (ok__law_form F__law_form B)
  have c__law_why_value : C8.Cal l.prog w K mg base 1 "_law_why_value" (spWhyV K) [] := cal F__law_why_value g__law_why_value b__law_why_value (ok__law_why_value F__law_why_value B)
  have c__law_first_why : C8.Cal l.prog w K mg base 2 "_law_first_why" (spFirst K) [] := cal F__law_first_why g__law_first_why b__law_first_why (ok__law_first_why F__law_first_why B c__law_why_value)
  have c__law_needed : C8.Cal l.prog w K mg base 1 "_law_needed" (spNeeded K) [] := cal F__law_needed g__law_needed b__law_needed (ok__law_needed F__law_needed B)
  have c__law_make_why : C8.Cal l.prog w K mg base 3 "_law_make_why" (spMakeW K) [] := cal F__law_make_why g__law_make_why b__law_make_why (ok__law_make_why F__law_make_why B c__law_form c__law_first_why)
  have c__law_other_why : C8.Cal l.prog w K mg base 1 "_law_other_why" (spOtherW K) [] := cal F__law_other_why g__law_other_why b__law_other_why (ok__law_other_why F__law_other_why B)
  have c__law_change_why : C8.Cal l.prog w K mg base 3 "_law_change_why" (spChangeW K) [] := cal F__law_change_why g__law_change_why b__law_change_why (ok__law_change_why F__law_change_why B c__law_form c__law_first_why c__law_other_why)
  have c__law_do_make : C8.Cal l.prog w K mg base 4 "_law_do_make" (spDoMake K) [] := cal F__law_do_make g__law_do_make b__law_do_make (ok__law_do_make F__law_do_make B c__law_make_why)
  have c__law_do_change : C8.Cal l.prog w K mg base 4 "_law_do_change" (spDoChange K) [] := cal F__law_do_change g__law_do_change b__law_do_change (ok__law_do_change F__law_do_change B c__law_change_why)
  have G_ldt := ok__law_do_take (base := base) F__law_do_take B c__law_other_why c__law_needed
  have c_ldt2 : C8.Cal l.prog w K mg base 2 "_law_do_take" (spDoTake K) [] := cal F__law_do_take g__law_do_take b__law_do_take G_ldt
  have c__law_do_take : C8.Cal l.prog w K mg base 4 "_law_do_take" (spDoTake K) [] := cal F__law_do_take g__law_do_take b__law_do_take (G_ldt.mono (by decide))
  have c__law_do : C8.Cal l.prog w K mg base 5 "_law_do" (spLDo K) [] := cal F__law_do g__law_do b__law_do (ok__law_do F__law_do B c__law_do_make c__law_do_change c_ldt2)
  have c__law_any_value : C8.Cal l.prog w K mg base 2 "_law_any_value" (spAnyV K) [] := cal F__law_any_value g__law_any_value b__law_any_value (ok__law_any_value F__law_any_value B c__law_take)
  have c__law_any_values : C8.Cal l.prog w K mg base 3 "_law_any_values" (spAnyVs K) [] := cal F__law_any_values g__law_any_values b__law_any_values (ok__law_any_values F__law_any_values B c__law_any_value)
  have c__law_any_id : C8.Cal l.prog w K mg base 2 "_law_any_id" (spAnyId K) [] := cal F__law_any_id g__law_any_id b__law_any_id (ok__law_any_id F__law_any_id B c__law_take)
  have c__law_any_call : C8.Cal l.prog w K mg base 4 "_law_any_call" (spAnyCall K) [] := cal F__law_any_call g__law_any_call b__law_any_call (ok__law_any_call F__law_any_call B c__law_take c__law_any_value c__law_any_values c__law_any_id)
  have c__law_same : C8.Cal l.prog w K mg base 14 "_law_same" (spSame K 6) [] := cal_same F__law_is_integer g__law_is_integer b__law_is_integer F__law_same_items g__law_same_items b__law_same_items F__law_same g__law_same b__law_same B.toBlt 6
  have c__is_integer : C8.Cal l.prog w K mg base 1 "_is_integer" (spIsInteger K) [] := cal F__is_integer g__is_integer b__is_integer (ok__is_integer F__is_integer T1)
  have c_t0 : C8.Cal l.prog w K mg base 1 "_is_tuple_of" (fun _ _ _ _ => False) [] := cal F__is_tuple_of g__is_tuple_of b__is_tuple_of (F__is_tuple_of.ok sc__is_tuple_of (fun _ _ _ _ h => h.elim) (fun _ _ _ _ _ _ _ _ _ h => h.elim))
  have G_h1 := ok__has_form (base := base) (ok := simF) F__has_form T1 (Nat.le_refl 1) c__is_integer c_t0 (fun f h n => absurd h n)
  have c_h1 : C8.Cal l.prog w K mg base 2 "_has_form" (spHasG K simF formP sz0) [] := cal F__has_form g__has_form b__has_form (G_h1.imp fun vs H Q E ⟨v, d, f, e, hd, ho, _, k⟩ => ⟨v, d, f, e, hd, ho, fun n => absurd ho n, k⟩)
  have c_f1 : C8.Cal l.prog w K mg base 3 "_have_forms" (spHaveG K simF formP sz0) [] := cal F__have_forms g__have_forms b__have_forms (ok__have_forms F__have_forms T1 c_h1)
  have c_t1 : C8.Cal l.prog w K mg base 4 "_is_tuple_of" (spTupG K simF formP sz0) [] := cal F__is_tuple_of g__is_tuple_of b__is_tuple_of (ok__is_tuple_of F__is_tuple_of T1 c_f1)
  have G_h2 := ok__has_form (base := base) (ok := fun _ => True) F__has_form T1 (by decide) c__is_integer c_t1 (fun f _ _ vs H Q E h => h)
  have c_h2 : C8.Cal l.prog w K mg base 5 "_has_form" (spHasG K (fun _ => True) formP sz1) [] := cal F__has_form g__has_form b__has_form (G_h2.imp fun vs H Q E ⟨v, d, f, e, hd, ho, hs, k⟩ => ⟨v, d, f, e, hd, ho, fun _ => hs, k⟩)
  have c_f2 : C8.Cal l.prog w K mg base 6 "_have_forms" (spHaveG K (fun _ => True) formP sz1) [] := cal F__have_forms g__have_forms b__have_forms (ok__have_forms F__have_forms T1 c_h2)
  have c__begins_with_word : C8.Cal l.prog w K mg base 1 "_begins_with_word" (spBegins K) [] := cal F__begins_with_word g__begins_with_word b__begins_with_word (ok__begins_with_word F__begins_with_word T1)
  have c_is_call : C8.Cal l.prog w K mg base 7 "is_call" (spIsCall K) [] := cal F_is_call g_is_call b_is_call (ok_is_call (by decide) F_is_call T1 c__begins_with_word c_f2)
  have c__fits : C8.Cal l.prog w K mg base 1 "_fits" (spFits K) [] := cal F__fits g__fits b__fits (ok__fits F__fits T1)
  have m___init__ : Meth K C "__init__" f_Outside___init__ := ⟨a_Outside___init__, i_Outside___init__, k_Outside___init__⟩
  have b___init__ : Binds K _ ["self", "kinds"] [] := F_Outside___init__.binds (ps := ["self", "kinds"]) fun _ _ _ _ _ _ us hl => match us, hl with | [_, _], _ => rfl
  have m__begin : Meth K C "_begin" f_Outside__begin := ⟨a_Outside__begin, i_Outside__begin, k_Outside__begin⟩
  have b__begin : Binds K _ ["self", "look"] [] := F_Outside__begin.binds (ps := ["self", "look"]) fun _ _ _ _ _ _ us hl => match us, hl with | [_, _], _ => rfl
  have m_do : Meth K C "do" f_Outside_do := ⟨a_Outside_do, i_Outside_do, k_Outside_do⟩
  have b_do : Binds K _ ["self", "call"] [] := F_Outside_do.binds (ps := ["self", "call"]) fun _ _ _ _ _ _ us hl => match us, hl with | [_, _], _ => rfl
  have m_look : Meth K C "look" f_Outside_look := ⟨a_Outside_look, i_Outside_look, k_Outside_look⟩
  have b_look : Binds K _ ["self"] [] := F_Outside_look.binds (ps := ["self"]) fun _ _ _ _ _ _ us hl => match us, hl with | [_], _ => rfl
  have m_calls : Meth K C "calls" f_Outside_calls := ⟨a_Outside_calls, i_Outside_calls, k_Outside_calls⟩
  have b_calls : Binds K _ ["self"] [] := F_Outside_calls.binds (ps := ["self"]) fun _ _ _ _ _ _ us hl => match us, hl with | [_], _ => rfl
  have m__answer_to : Meth K C "_answer_to" f_Outside__answer_to := ⟨a_Outside__answer_to, i_Outside__answer_to, k_Outside__answer_to⟩
  have b__answer_to : Binds K _ ["self", "call"] [] := F_Outside__answer_to.binds (ps := ["self", "call"]) fun _ _ _ _ _ _ us hl => match us, hl with | [_, _], _ => rfl
  have m__raise_fence : Meth K C "_raise_fence" f_Outside__raise_fence := ⟨a_Outside__raise_fence, i_Outside__raise_fence, k_Outside__raise_fence⟩
  have b__raise_fence : Binds K _ ["self", "owner", "run"] [] := F_Outside__raise_fence.binds (ps := ["self", "owner", "run"]) fun _ _ _ _ _ _ us hl => match us, hl with | [_, _, _], _ => rfl
  have m__was_used : Meth K C "_was_used" f_Outside__was_used := ⟨a_Outside__was_used, i_Outside__was_used, k_Outside__was_used⟩
  have b__was_used : Binds K _ ["self", "token"] [] := F_Outside__was_used.binds (ps := ["self", "token"]) fun _ _ _ _ _ _ us hl => match us, hl with | [_, _], _ => rfl
  have m__make : Meth K C "_make" f_Outside__make := ⟨a_Outside__make, i_Outside__make, k_Outside__make⟩
  have b__make : Binds K _ ["self", "token", "kind", "values"] [] := F_Outside__make.binds (ps := ["self", "token", "kind", "values"]) fun _ _ _ _ _ _ us hl => match us, hl with | [_, _, _, _], _ => rfl
  have m__change : Meth K C "_change" f_Outside__change := ⟨a_Outside__change, i_Outside__change, k_Outside__change⟩
  have b__change : Binds K _ ["self", "id_of_thing", "version", "field", "value"] [] := F_Outside__change.binds (ps := ["self", "id_of_thing", "version", "field", "value"]) fun _ _ _ _ _ _ us hl => match us, hl with | [_, _, _, _, _], _ => rfl
  have m__take : Meth K C "_take" f_Outside__take := ⟨a_Outside__take, i_Outside__take, k_Outside__take⟩
  have b__take : Binds K _ ["self", "id_of_thing", "version"] [] := F_Outside__take.binds (ps := ["self", "id_of_thing", "version"]) fun _ _ _ _ _ _ us hl => match us, hl with | [_, _, _], _ => rfl
  have m__why_not_make : Meth K C "_why_not_make" f_Outside__why_not_make := ⟨a_Outside__why_not_make, i_Outside__why_not_make, k_Outside__why_not_make⟩
  have b__why_not_make : Binds K _ ["self", "kind", "values"] [] := F_Outside__why_not_make.binds (ps := ["self", "kind", "values"]) fun _ _ _ _ _ _ us hl => match us, hl with | [_, _, _], _ => rfl
  have m__why_not_change : Meth K C "_why_not_change" f_Outside__why_not_change := ⟨a_Outside__why_not_change, i_Outside__why_not_change, k_Outside__why_not_change⟩
  have b__why_not_change : Binds K _ ["self", "id_of_thing", "version", "field", "value"] [] := F_Outside__why_not_change.binds (ps := ["self", "id_of_thing", "version", "field", "value"]) fun _ _ _ _ _ _ us hl => match us, hl with | [_, _, _, _, _], _ => rfl
  have m__why_not_reach : Meth K C "_why_not_reach" f_Outside__why_not_reach := ⟨a_Outside__why_not_reach, i_Outside__why_not_reach, k_Outside__why_not_reach⟩
  have b__why_not_reach : Binds K _ ["self", "id_of_thing", "version"] [] := F_Outside__why_not_reach.binds (ps := ["self", "id_of_thing", "version"]) fun _ _ _ _ _ _ us hl => match us, hl with | [_, _, _], _ => rfl
  have m__why_not_bear : Meth K C "_why_not_bear" f_Outside__why_not_bear := ⟨a_Outside__why_not_bear, i_Outside__why_not_bear, k_Outside__why_not_bear⟩
  have b__why_not_bear : Binds K _ ["self", "id_of_thing", "kind", "values"] [] := F_Outside__why_not_bear.binds (ps := ["self", "id_of_thing", "kind", "values"]) fun _ _ _ _ _ _ us hl => match us, hl with | [_, _, _, _], _ => rfl
  have m__lives : Meth K C "_lives" f_Outside__lives := ⟨a_Outside__lives, i_Outside__lives, k_Outside__lives⟩
  have b__lives : Binds K _ ["self", "id_of_thing", "kind"] [] := F_Outside__lives.binds (ps := ["self", "id_of_thing", "kind"]) fun _ _ _ _ _ _ us hl => match us, hl with | [_, _, _], _ => rfl
  have m__is_borne : Meth K C "_is_borne" f_Outside__is_borne := ⟨a_Outside__is_borne, i_Outside__is_borne, k_Outside__is_borne⟩
  have b__is_borne : Binds K _ ["self", "id_of_thing", "kind", "field", "value"] [] := F_Outside__is_borne.binds (ps := ["self", "id_of_thing", "kind", "field", "value"]) fun _ _ _ _ _ _ us hl => match us, hl with | [_, _, _, _, _], _ => rfl
  have m__is_needed : Meth K C "_is_needed" f_Outside__is_needed := ⟨a_Outside__is_needed, i_Outside__is_needed, k_Outside__is_needed⟩
  have b__is_needed : Binds K _ ["self", "id_of_thing"] [] := F_Outside__is_needed.binds (ps := ["self", "id_of_thing"]) fun _ _ _ _ _ _ us hl => match us, hl with | [_, _], _ => rfl
  have m__needs_of : Meth K C "_needs_of" f_Outside__needs_of := ⟨a_Outside__needs_of, i_Outside__needs_of, k_Outside__needs_of⟩
  have b__needs_of : Binds K _ ["self", "thing"] [] := F_Outside__needs_of.binds (ps := ["self", "thing"]) fun _ _ _ _ _ _ us hl => match us, hl with | [_, _], _ => rfl
  have G__lives := ok_Outside__lives (base := base) F_Outside__lives T1 
  have G__why_not_reach := ok_Outside__why_not_reach (base := base) F_Outside__why_not_reach T1 
  have G__needs_of := ok_Outside__needs_of (base := base) F_Outside__needs_of T1 
  have G__is_needed := ok_Outside__is_needed (base := base) F_Outside__is_needed T1 m__needs_of G__needs_of b__needs_of
  have G__is_borne := ok_Outside__is_borne (base := base) F_Outside__is_borne T1 
  have G__why_not_bear := ok_Outside__why_not_bear (base := base) F_Outside__why_not_bear T1 c__fits m__lives G__lives b__lives m__is_borne G__is_borne b__is_borne
  have G__why_not_make := ok_Outside__why_not_make (base := base) F_Outside__why_not_make T1 m__why_not_bear G__why_not_bear b__why_not_bear
  have G__why_not_change := ok_Outside__why_not_change (base := base) F_Outside__why_not_change T1 m__why_not_bear G__why_not_bear b__why_not_bear m__why_not_reach G__why_not_reach b__why_not_reach
  have G__make := ok_Outside__make (base := base) F_Outside__make T1 m__why_not_make G__why_not_make b__why_not_make
  have G__change := ok_Outside__change (base := base) F_Outside__change T1 m__why_not_change G__why_not_change b__why_not_change
  have G__raise_fence := ok_Outside__raise_fence (base := base) F_Outside__raise_fence T1 
  have G__was_used := ok_Outside__was_used (base := base) F_Outside__was_used T1 
  have G__take := ok_Outside__take (base := base) F_Outside__take T1 m__why_not_reach G__why_not_reach b__why_not_reach m__is_needed G__is_needed b__is_needed
  have G__answer_to := ok_Outside__answer_to (base := base) F_Outside__answer_to T1 m__raise_fence G__raise_fence b__raise_fence m__was_used G__was_used b__was_used m__make G__make b__make m__change G__change b__change m__take G__take b__take
  have G_do := ok_Outside_do (base := base) F_Outside_do T1 c_is_call m__answer_to G__answer_to b__answer_to
  have G_calls := ok_Outside_calls (base := base) F_Outside_calls T1 
  have G_look := ok_Outside_look (base := base) F_Outside_look T1 
  have G__begin := ok_Outside__begin (base := base) F_Outside__begin T1 
  have G___init__ := ok_Outside___init__ (base := base) F_Outside___init__ T1 m__begin G__begin b__begin
  have c_outside_of : C8.Cal l.prog w K mg base 4 "outside_of" (spOutsideOf K C) [] := cal F_outside_of g_outside_of b_outside_of (ok_outside_of F_outside_of T1 ⟨mk, a_Outside___init__, i_Outside___init__, kc⟩ G___init__ b___init__ m__begin G__begin b__begin)
  exact ok_law F_law T c__law_tape c__law_take c__law_kinds c__law_kind_dict c__law_new_world c__law_any_call c__law_any_values c__law_do c_outside_of c__law_same ⟨mk, a_Outside___init__, i_Outside___init__, kc⟩ G___init__ b___init__ m_do G_do b_do m_look G_look b_look m_calls G_calls b_calls
abbrev spLaw (K : PySem.W.Frag) : Sp := OW.spLaw K
end K07
open PySem PySem.W PyProof.Rows L2
set_option maxHeartbeats 0 in
theorem PySem.Challenge.cw_settledland_k07_outsides_of_looks_holds : PySem.Challenge.rw_settledland_k07_outsides_of_looks.Holds := by
  w_on; o_law; k_head; (case hw => w_witness2)
  k_fill
  refine L2.walk_of (l := PySem.Challenge.rw_settledland_k07_outsides_of_looks) (n := 63) (k := 15) (x := "script") (CX := fun _ => L2.CX0) (sp := fun w => K07.spLaw _) rfl (by decide) rfl ⟨by decide, by decide, by decide⟩ (fun w h Y => PySem.W.kIn_of Y) ?F (fun _ _ a ns hl _ hS => ⟨a, ns, rfl, hS, hl, fun _ => rfl⟩) (fun _ _ _ _ _ h => h)
  case F =>
    intro w mg fa h KX G hmg
    refine' K07.all_mk KX G hmg ?a0 ?l0 ?c0 ?k0 ?a1 ?l1 ?c1 ?k1 ?a2 ?l2 ?c2 ?k2 ?a3 ?l3 ?c3 ?k3 ?a4 ?l4 ?c4 ?k4 ?a5 ?l5 ?c5 ?k5 ?a6 ?l6 ?c6 ?k6 ?a7 ?l7 ?c7 ?k7 ?a8 ?l8 ?c8 ?k8 ?a9 ?l9 ?c9 ?k9 ?a10 ?l10 ?c10 ?k10 ?a11 ?l11 ?c11 ?k11 ?a12 ?l12 ?c12 ?k12 ?a13 ?l13 ?c13 ?k13 ?a14 ?l14 ?c14 ?k14 ?a15 ?l15 ?c15 ?k15 ?a16 ?l16 ?c16 ?k16 ?a17 ?l17 ?c17 ?k17 ?a18 ?l18 ?c18 ?k18 ?a19 ?l19 ?c19 ?k19 ?a20 ?l20 ?c20 ?k20 ?a21 ?l21 ?c21 ?k21 ?a22 ?l22 ?c22 ?k22 ?a23 ?l23 ?c23 ?k23 ?a24 ?l24 ?c24 ?k24 ?a25 ?l25 ?c25 ?k25 ?a26 ?l26 ?c26 ?k26 ?a27 ?l27 ?c27 ?k27 ?a28 ?l28 ?c28 ?k28 ?a29 ?l29 ?c29 ?k29 ?a30 ?l30 ?c30 ?k30 ?a31 ?l31 ?c31 ?k31 ?a32 ?l32 ?c32 ?k32 ?a_Outside___init__ ?i_Outside___init__ ?l_Outside___init__ ?c_Outside___init__ ?k_Outside___init__ ?a_Outside__begin ?i_Outside__begin ?l_Outside__begin ?c_Outside__begin ?k_Outside__begin ?a_Outside_do ?i_Outside_do ?l_Outside_do ?c_Outside_do ?k_Outside_do ?a_Outside_look ?i_Outside_look ?l_Outside_look ?c_Outside_look ?k_Outside_look ?a_Outside_calls ?i_Outside_calls ?l_Outside_calls ?c_Outside_calls ?k_Outside_calls ?a_Outside__answer_to ?i_Outside__answer_to ?l_Outside__answer_to ?c_Outside__answer_to ?k_Outside__answer_to ?a_Outside__raise_fence ?i_Outside__raise_fence ?l_Outside__raise_fence ?c_Outside__raise_fence ?k_Outside__raise_fence ?a_Outside__was_used ?i_Outside__was_used ?l_Outside__was_used ?c_Outside__was_used ?k_Outside__was_used ?a_Outside__make ?i_Outside__make ?l_Outside__make ?c_Outside__make ?k_Outside__make ?a_Outside__change ?i_Outside__change ?l_Outside__change ?c_Outside__change ?k_Outside__change ?a_Outside__take ?i_Outside__take ?l_Outside__take ?c_Outside__take ?k_Outside__take ?a_Outside__why_not_make ?i_Outside__why_not_make ?l_Outside__why_not_make ?c_Outside__why_not_make ?k_Outside__why_not_make ?a_Outside__why_not_change ?i_Outside__why_not_change ?l_Outside__why_not_change ?c_Outside__why_not_change ?k_Outside__why_not_change ?a_Outside__why_not_reach ?i_Outside__why_not_reach ?l_Outside__why_not_reach ?c_Outside__why_not_reach ?k_Outside__why_not_reach ?a_Outside__why_not_bear ?i_Outside__why_not_bear ?l_Outside__why_not_bear ?c_Outside__why_not_bear ?k_Outside__why_not_bear ?a_Outside__lives ?i_Outside__lives ?l_Outside__lives ?c_Outside__lives ?k_Outside__lives ?a_Outside__is_borne ?i_Outside__is_borne ?l_Outside__is_borne ?c_Outside__is_borne ?k_Outside__is_borne ?a_Outside__is_needed ?i_Outside__is_needed ?l_Outside__is_needed ?c_Outside__is_needed ?k_Outside__is_needed ?a_Outside__needs_of ?i_Outside__needs_of ?l_Outside__needs_of ?c_Outside__needs_of ?k_Outside__needs_of ?aC ?pg ?hd ?po ?sa ?mk ?kc ?nk ?nm ?nf ?nt ?ns ?ng ?nc ?zabs ?aCd ?xCd ?yCd ?zCd ?wCc_fence ?xCc_fence ?vCc_fence ?lCc_fence ?wCc_make ?xCc_make ?vCc_make ?lCc_make ?wCc_change ?xCc_change ?vCc_change ?lCc_change ?wCc_take ?xCc_take ?vCc_take ?lCc_take ?wst ?aDd ?xDd ?yDd ?zDd ?wDd_make ?xDd_make ?vDd_make ?lDd_make ?wDd_change ?xDd_change ?vDd_change ?lDd_change ?wDd_take ?xDd_take ?vDd_take ?lDd_take ?z_len ?z_range ?z_int ?z_str ?z_bool ?z_tuple ?z_list ?z_dict ?z_isinstance ?z_max ?z_all ?z_any ?z_zip ?z_sorted ?y_NUMBERS ?y_DONE ?x_DONE ?v_DONE ?w_DONE
    (case aC => k_is); (case a0 => k_is); (case l0 => k_is); (case c0 => k_is); (case k0 => k_is); (case a1 => k_is); (case l1 => k_is); (case c1 => k_is); (case k1 => k_is); (case a2 => k_is); (case l2 => k_is); (case c2 => k_is); (case k2 => k_is); (case a3 => k_is); (case l3 => k_is); (case c3 => k_is); (case k3 => k_is); (case a4 => k_is); (case l4 => k_is); (case c4 => k_is); (case k4 => k_is); (case a5 => k_is); (case l5 => k_is); (case c5 => k_is); (case k5 => k_is); (case a6 => k_is); (case l6 => k_is); (case c6 => k_is); (case k6 => k_is); (case a7 => k_is); (case l7 => k_is); (case c7 => k_is); (case k7 => k_is); (case a8 => k_is); (case l8 => k_is); (case c8 => k_is); (case k8 => k_is); (case a9 => k_is); (case l9 => k_is); (case c9 => k_is); (case k9 => k_is); (case a10 => k_is); (case l10 => k_is); (case c10 => k_is); (case k10 => k_is); (case a11 => k_is); (case l11 => k_is); (case c11 => k_is); (case k11 => k_is); (case a12 => k_is); (case l12 => k_is); (case c12 => k_is); (case k12 => k_is); (case a13 => k_is); (case l13 => k_is); (case c13 => k_is); (case k13 => k_is); (case a14 => k_is); (case l14 => k_is); (case c14 => k_is); (case k14 => k_is); (case a15 => k_is); (case l15 => k_is); (case c15 => k_is); (case k15 => k_is); (case a16 => k_is); (case l16 => k_is); (case c16 => k_is); (case k16 => k_is); (case a17 => k_is); (case l17 => k_is); (case c17 => k_is); (case k17 => k_is); (case a18 => k_is); (case l18 => k_is); (case c18 => k_is); (case k18 => k_is); (case a19 => k_is); (case l19 => k_is); (case c19 => k_is); (case k19 => k_is); (case a20 => k_is); (case l20 => k_is); (case c20 => k_is); (case k20 => k_is); (case a21 => k_is); (case l21 => k_is); (case c21 => k_is); (case k21 => k_is); (case a22 => k_is); (case l22 => k_is); (case c22 => k_is); (case k22 => k_is); (case a23 => k_is); (case l23 => k_is); (case c23 => k_is); (case k23 => k_is); (case a24 => k_is); (case l24 => k_is); (case c24 => k_is); (case k24 => k_is); (case a25 => k_is); (case l25 => k_is); (case c25 => k_is); (case k25 => k_is); (case a26 => k_is); (case l26 => k_is); (case c26 => k_is); (case k26 => k_is); (case a27 => k_is); (case l27 => k_is); (case c27 => k_is); (case k27 => k_is); (case a28 => k_is); (case l28 => k_is); (case c28 => k_is); (case k28 => k_is); (case a29 => k_is); (case l29 => k_is); (case c29 => k_is); (case k29 => k_is); (case a30 => k_is); (case l30 => k_is); (case c30 => k_is); (case k30 => k_is); (case a31 => k_is); (case l31 => k_is); (case c31 => k_is); (case k31 => k_is); (case a32 => k_is); (case l32 => k_is); (case c32 => k_is); (case k32 => k_is); (case a_Outside___init__ => k_is); (case i_Outside___init__ => k_is); (case l_Outside___init__ => k_is); (case c_Outside___init__ => k_is); (case k_Outside___init__ => k_is); (case a_Outside__begin => k_is); (case i_Outside__begin => k_is); (case l_Outside__begin => k_is); (case c_Outside__begin => k_is); (case k_Outside__begin => k_is); (case a_Outside_do => k_is); (case i_Outside_do => k_is); (case l_Outside_do => k_is); (case c_Outside_do => k_is); (case k_Outside_do => k_is); (case a_Outside_look => k_is); (case i_Outside_look => k_is); (case l_Outside_look => k_is); (case c_Outside_look => k_is); (case k_Outside_look => k_is); (case a_Outside_calls => k_is); (case i_Outside_calls => k_is); (case l_Outside_calls => k_is); (case c_Outside_calls => k_is); (case k_Outside_calls => k_is); (case a_Outside__answer_to => k_is); (case i_Outside__answer_to => k_is); (case l_Outside__answer_to => k_is); (case c_Outside__answer_to => k_is); (case k_Outside__answer_to => k_is); (case a_Outside__raise_fence => k_is); (case i_Outside__raise_fence => k_is); (case l_Outside__raise_fence => k_is); (case c_Outside__raise_fence => k_is); (case k_Outside__raise_fence => k_is); (case a_Outside__was_used => k_is); (case i_Outside__was_used => k_is); (case l_Outside__was_used => k_is); (case c_Outside__was_used => k_is); (case k_Outside__was_used => k_is); (case a_Outside__make => k_is); (case i_Outside__make => k_is); (case l_Outside__make => k_is); (case c_Outside__make => k_is); (case k_Outside__make => k_is); (case a_Outside__change => k_is); (case i_Outside__change => k_is); (case l_Outside__change => k_is); (case c_Outside__change => k_is); (case k_Outside__change => k_is); (case a_Outside__take => k_is); (case i_Outside__take => k_is); (case l_Outside__take => k_is); (case c_Outside__take => k_is); (case k_Outside__take => k_is); (case a_Outside__why_not_make => k_is); (case i_Outside__why_not_make => k_is); (case l_Outside__why_not_make => k_is); (case c_Outside__why_not_make => k_is); (case k_Outside__why_not_make => k_is); (case a_Outside__why_not_change => k_is); (case i_Outside__why_not_change => k_is); (case l_Outside__why_not_change => k_is); (case c_Outside__why_not_change => k_is); (case k_Outside__why_not_change => k_is); (case a_Outside__why_not_reach => k_is); (case i_Outside__why_not_reach => k_is); (case l_Outside__why_not_reach => k_is); (case c_Outside__why_not_reach => k_is); (case k_Outside__why_not_reach => k_is); (case a_Outside__why_not_bear => k_is); (case i_Outside__why_not_bear => k_is); (case l_Outside__why_not_bear => k_is); (case c_Outside__why_not_bear => k_is); (case k_Outside__why_not_bear => k_is); (case a_Outside__lives => k_is); (case i_Outside__lives => k_is); (case l_Outside__lives => k_is); (case c_Outside__lives => k_is); (case k_Outside__lives => k_is); (case a_Outside__is_borne => k_is); (case i_Outside__is_borne => k_is); (case l_Outside__is_borne => k_is); (case c_Outside__is_borne => k_is); (case k_Outside__is_borne => k_is); (case a_Outside__is_needed => k_is); (case i_Outside__is_needed => k_is); (case l_Outside__is_needed => k_is); (case c_Outside__is_needed => k_is); (case k_Outside__is_needed => k_is); (case a_Outside__needs_of => k_is); (case i_Outside__needs_of => k_is); (case l_Outside__needs_of => k_is); (case c_Outside__needs_of => k_is); (case k_Outside__needs_of => k_is); (case pg => k_is); (case hd => k_is); (case po => k_is); (case sa => k_is); (case mk => k_is); (case kc => k_is); (case nk => k_is); (case nm => k_is); (case nf => k_is); (case nt => k_is); (case ns => k_is); (case ng => k_is); (case nc => k_is); (case zabs => k_is); (case aCd => k_is); (case xCd => k_is); (case yCd => exact ⟨⟨_, _, rfl, rfl⟩, ⟨_, _, rfl, rfl⟩, ⟨_, _, rfl, rfl⟩, ⟨_, _, rfl, rfl⟩, trivial⟩); (case zCd => (first | rfl | decide)); (case wCc_fence => k_is); (case xCc_fence => k_is); (case vCc_fence => (repeat (first | exact .nil | refine .cons ⟨_, rfl⟩ ?_))); (case lCc_fence => (simp only [List.length_cons, List.length_nil]; decide)); (case wCc_make => k_is); (case xCc_make => k_is); (case vCc_make => (repeat (first | exact .nil | refine .cons ⟨_, rfl⟩ ?_))); (case lCc_make => (simp only [List.length_cons, List.length_nil]; decide)); (case wCc_change => k_is); (case xCc_change => k_is); (case vCc_change => (repeat (first | exact .nil | refine .cons ⟨_, rfl⟩ ?_))); (case lCc_change => (simp only [List.length_cons, List.length_nil]; decide)); (case wCc_take => k_is); (case xCc_take => k_is); (case vCc_take => (repeat (first | exact .nil | refine .cons ⟨_, rfl⟩ ?_))); (case lCc_take => (simp only [List.length_cons, List.length_nil]; decide)); (case wst => k_is); (case aDd => k_is); (case xDd => k_is); (case yDd => exact ⟨⟨_, _, rfl, rfl⟩, ⟨_, _, rfl, rfl⟩, ⟨_, _, rfl, rfl⟩, trivial⟩); (case zDd => (first | rfl | decide)); (case wDd_make => k_is); (case xDd_make => k_is); (case vDd_make => (repeat (first | exact .nil | refine .cons ⟨_, rfl⟩ ?_))); (case lDd_make => (simp only [List.length_cons, List.length_nil]; decide)); (case wDd_change => k_is); (case xDd_change => k_is); (case vDd_change => (repeat (first | exact .nil | refine .cons ⟨_, rfl⟩ ?_))); (case lDd_change => (simp only [List.length_cons, List.length_nil]; decide)); (case wDd_take => k_is); (case xDd_take => k_is); (case vDd_take => (repeat (first | exact .nil | refine .cons ⟨_, rfl⟩ ?_))); (case lDd_take => (simp only [List.length_cons, List.length_nil]; decide)); (case z_len => k_is); (case z_range => k_is); (case z_int => k_is); (case z_str => k_is); (case z_bool => k_is); (case z_tuple => k_is); (case z_list => k_is); (case z_dict => k_is); (case z_isinstance => k_is); (case z_max => k_is); (case z_all => k_is); (case z_any => k_is); (case z_zip => k_is); (case z_sorted => k_is); (case y_NUMBERS => k_is); (case y_DONE => k_is); (case x_DONE => k_is); (case v_DONE => (repeat (first | exact .nil | refine .cons ⟨_, rfl⟩ ?_))); (case w_DONE => (simp only [List.length_cons, List.length_nil]; decide))
