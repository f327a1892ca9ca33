import PyProof.Rows.All
import Wide.All
import OpenK.AllK
import Wide.FinOn
import HandS.ForMost
import HandS.Zip
import HandS.IsInst
import HandS.Defaults

import KE.KMinKey
import HandS.Style
import KE.KRevSl
import HandS.TupAny
import HandS.TupMul
import HandS.More
import HandS.Conv
import HandS.Zip0
import HandS.Walk
import HandS.DictComp
import HandS.Strs
import HandS.SetFor
import HandS.Star
import HandS.RevRange
import HandS.TupSets
import HandS.SortOrd
import PyProof.Rows.RegFStrParts
import HandS.Nested
import HandS.NestedK
import HandS.EndTab
import HandS.SortKw
import HandS.SortRule
import HandS.Exc
import HandS.ExcInit
import HandS.ExcOwn
import HandS.WordsExc
import HandS.Finally
import HandS.FStr
import KE.KExcInit
import KE.KExcIs
import PySem.Challenge.RW_nearslot_k38_a_known_store
set_option Elab.async false
set_option linter.all false
set_option maxRecDepth 100000
set_option maxHeartbeats 4000000
namespace NS
open PySem L2
/-! ### a def of the text, what it keeps -/
structure Df (K : PySem.W.Frag) (mg : Str → Option Value) (x : Str) (st : Stmt) (ps : List Str) (f : Addr) (fd : FuncData) : Prop where
  F : Fun K x x st f fd
  b : Binds K fd ps []
  g : mg x = some (.ref f)
structure Kn (P : Program) (w : World) (K : PySem.W.Frag) (mg : Str → Option Value) (base : Heap) (k : Nat) (x : Str) (st : Stmt) (ps : List Str) (sp : Sp) (f : Addr) (fd : FuncData) : Prop where
  D : Df K mg x st ps f fd
  G : FnOk P w K mg base CX0 k f fd ps sp
/-! ### a call by keywords alone -/
def tCallN0 (m : Nat) (sp : Sp) (gV : List V → List V → List V) (E : XK) (tk : TA) : TE := fun σ H Q => tk σ H fun zs H2 => zs.length = m ∧ sp (gV [] zs) H2 Q E
theorem pe_callN0 {X : Cx} {CX : CXT} {k : Nat} {f : Addr} {fd : FuncData} {ps ks : List Str} {sp : Sp} {E : XK} {x : Str} {p pos : Pos} {kws : List Keyword} {tk : TA} {g : List Value → List Value → List Value} {gV : List V → List V → List V}
    (F : FnOk X.prog X.w X.K X.mg X.base CX k f fd ps sp) (hr : Room k X.A) (hg : Gl X x) (hm : X.mg x = some (.ref f)) (hk : PySem.W.keepIn X.K (.ref f) = true) (hb : KBn X.K fd ps 0 ks g gV) (hx : Passes CX X E)
    (hkw : PK X kws tk) (hall : (backToKw pos (keywordEach kws X.env)).all (·.1.isSome) = true := by rfl) (hks : (backToKw pos (keywordEach kws X.env)).filterMap (·.1) = ks := by rfl)
    (hdb : (x == ("__debug__" : Str)) = false := by decide)
    (hpl : (backToKw pos (keywordEach kws X.env)).any (·.1.isNone) = false := by rfl) :
    PE X (.Call (.Name x p) [] kws pos) (tCallN0 ks.length sp gV E tk) := by
  refine ⟨fun pins s σ H Q I h => ?_⟩
  refine PySem.wpAny_Call_Name_kw (ld_glob I hg hm ?_ hdb)
  refine PySem.W.callWith_KW0 (h₀ := X.base) I.ok.mod.kin hk hall (thn (hkw.run pos pins s σ H _ I h) fun ws s2 ⟨zs, H2, I2, rz, l2, q2⟩ => ⟨I2.kIn, ?_⟩) hpl
  rw [hks]
  exact run_fnN F hr hb hx I2 .nil rz rfl l2 q2
/-! ### heaps -/
theorem same_upd {H : Hp} {p : Addr} {o : HO} (h : H p = none) : Same H (upd H p o) := fun b x e => by
  rw [upd_ne (ne_of_none e h)]
  exact e
theorem Same.tup {K : PySem.W.Frag} {H H' : Hp} {a : Addr} {xs : List V} (e : Same H H') (h : SqT K H a xs) : SqT K H' a xs := by
  rcases h with (h | ⟨o, h⟩) | h
  · exact .inl (.inl (e _ _ h))
  · exact .inl (.inr ⟨o, e _ _ h⟩)
  · exact .inr h
theorem sqT {K : PySem.W.Frag} {H : Hp} {a : Addr} {xs : List V} (h : H a = some (.tup xs)) : SqT K H a xs := .inl (.inl h)
theorem sqL {K : PySem.W.Frag} {H : Hp} {a : Addr} {xs : List V} (h : H a = some (.lst xs)) : SqL K H a xs := .inl (.inl h)
/-- a new object that changes later on -/
theorem Same.mut {H H' : Hp} {p : Addr} {o : HO} (e : Same H H') (h : H p = none) : Same H (upd H' p o) := fun a u ha => by
  rw [upd_ne (ne_of_none ha h)]
  exact e a u ha
mutual
theorem dp_same {K : PySem.W.Frag} {H H' : Hp} (e : Same H H') : ∀ {v : V} {d : PyData}, Dp K H v d → Dp K H' v d
  | _, _, .non => .non
  | _, _, .bl b => .bl b
  | _, _, .int i => .int i
  | _, _, .str x => .str x
  | _, _, .lst h a => .lst (e.seq h) (dp_sameA e a)
  | _, _, .tup h a => .tup (Same.tup e h) (dp_sameA e a)
theorem dp_sameA {K : PySem.W.Frag} {H H' : Hp} (e : Same H H') : ∀ {vs : List V} {ds : List PyData}, DpAll K H vs ds → DpAll K H' vs ds
  | _, _, .nil => .nil
  | _, _, .cons a b => .cons (dp_same e a) (dp_sameA e b)
end
theorem small {n : Nat} (h : n ≤ 1000) : n ≤ sizeLine := Nat.le_of_lt (small1000 h)
/-! ### types -/
theorem tyL {K : PySem.W.Frag} {H : Hp} {a : Addr} {xs : List V} (h : SqL K H a xs) : TyX K H (.ref a) (.type "list") := by
  rcases h with (h | ⟨o, h⟩) | ⟨o, its, n, h, c, _⟩
  · exact .base (.lst h)
  · exact .base (.frz h)
  · exact .kList h c
theorem tyT {K : PySem.W.Frag} {H : Hp} {a : Addr} {xs : List V} (h : SqT K H a xs) : TyX K H (.ref a) (.type "tuple") := by
  rcases h with (h | ⟨o, h⟩) | ⟨o, its, n, h, c, _⟩
  · exact .base (.tup h)
  · exact .fTuple h
  · exact .kTuple h c
theorem kit_y {K : PySem.W.Frag} {t : Value} {b : String} {cs : List Value} (h : PySem.W.kitOne K t (.type b) = some true) : PySem.W.kitAny K t (.type b :: cs) = some true := kitAny_cons h (fun z => nomatch z) fun _ => rfl
theorem kit_n {K : PySem.W.Frag} {t : Value} {b : String} {cs : List Value} {r : Bool} (h : PySem.W.kitOne K t (.type b) = some false) (hr : PySem.W.kitAny K t cs = some r) : PySem.W.kitAny K t (.type b :: cs) = some r := kitAny_cons h (fun _ => hr) fun z => nomatch z
theorem dec_t {p : Prop} [Decidable p] (h : p) {Q : Bool → Prop} (q : Q true) : Q (decide p) := by
  rw [decide_eq_true h]
  exact q
/-! ### comprehensions over zip -/
theorem lc_zipL {K : PySem.W.Frag} {a b : Addr} {xs ys : List V} {g : TG} {tt : TT} {te : TE} {vs : List Nat} {σ : L2.St} {H1 : Hp} {D : Addr} {Qd : Hp → Prop} (hl : xs.length = ys.length) (Pv : Nat → Hp → Prop) (h0 : Pv 0 (upd H1 D (.lst []))) (hq : ∀ i H, Pv i H → SqL K H a xs ∧ SqL K H b ys)
    (hs : ∀ (i : Nat) (x y : V) (T : Addr) (H : Hp), xs[i]? = some x → ys[i]? = some y → Pv i H → H T = none → g (.ref T) (wipe σ vs) (upd H T (.tup [x, y])) fun σ2 H2 => wipe σ2 vs = wipe σ vs ∧ tt σ2 H2 fun b H3 =>
      if b = true then te σ2 H3 fun y H4 => ∃ acc, H4 D = some (.lst acc) ∧ acc.length < sizeLine ∧ Pv (i + 1) (upd H4 D (.lst (acc ++ [y]))) else Pv (i + 1) H3) (hd : ∀ H, Pv xs.length H → Qd H) :
    ∃ W : Nat → Nat → Hp → Prop, (∃ m, W 0 m (upd H1 D (.lst []))) ∧ ∀ i m H, W i m H →
      ((Itz K a b).stop i H ∧ Qd H) ∨ ((Itz K a b).go i H ∧ ∃ Nx : Hp → Prop, (∀ H', Nx H' → ∃ m', m' < m ∧ W (i + 1) m' H') ∧ ∀ x H', (Itz K a b).yld i H x H' → g x (wipe σ vs) H' fun σ2 H2 => wipe σ2 vs = wipe σ vs ∧ tt σ2 H2 fun b H3 =>
        if b = true then te σ2 H3 fun y H4 => ∃ acc, H4 D = some (.lst acc) ∧ acc.length < sizeLine ∧ Nx (upd H4 D (.lst (acc ++ [y]))) else Nx H3) := by
  refine ⟨fun i m H => m = xs.length - i ∧ i ≤ xs.length ∧ Pv i H, ⟨xs.length, by simp, Nat.zero_le _, h0⟩, ?_⟩
  rintro i m H ⟨rfl, hi, p⟩
  obtain ⟨qx, qy⟩ := hq i H p
  by_cases hlt : i < xs.length
  · have hx : xs[i]? = some xs[i] := List.getElem?_eq_getElem hlt
    have hlt2 : i < ys.length := by omega
    have hy : ys[i]? = some ys[i] := List.getElem?_eq_getElem hlt2
    refine .inr ⟨⟨xs, ys, _, _, qx, qy, hx, hy⟩, Pv (i + 1), fun H' p' => ⟨xs.length - (i + 1), by omega, rfl, hlt, p'⟩, fun v H' y => ?_⟩
    obtain ⟨T, x', y', rfl, hT, rfl, f1, f2⟩ := y
    exact hs i x' y' T H (f1 xs qx) (f2 ys qy) p hT
  · have e : i = xs.length := by omega
    subst e
    exact .inl ⟨⟨xs, ys, qx, qy, Or.inl (Nat.le_refl _)⟩, hd H p⟩
theorem lc_zipT {K : PySem.W.Frag} {a b : Addr} {xs ys : List V} {g : TG} {tt : TT} {te : TE} {vs : List Nat} {σ : L2.St} {H1 : Hp} {D : Addr} {Qd : Hp → Prop} (hl : xs.length = ys.length) (Pv : Nat → Hp → Prop) (h0 : Pv 0 (upd H1 D (.lst []))) (hq : ∀ i H, Pv i H → SqT K H a xs ∧ SqT K H b ys)
    (hs : ∀ (i : Nat) (x y : V) (T : Addr) (H : Hp), xs[i]? = some x → ys[i]? = some y → Pv i H → H T = none → g (.ref T) (wipe σ vs) (upd H T (.tup [x, y])) fun σ2 H2 => wipe σ2 vs = wipe σ vs ∧ tt σ2 H2 fun b H3 =>
      if b = true then te σ2 H3 fun y H4 => ∃ acc, H4 D = some (.lst acc) ∧ acc.length < sizeLine ∧ Pv (i + 1) (upd H4 D (.lst (acc ++ [y]))) else Pv (i + 1) H3) (hd : ∀ H, Pv xs.length H → Qd H) :
    ∃ W : Nat → Nat → Hp → Prop, (∃ m, W 0 m (upd H1 D (.lst []))) ∧ ∀ i m H, W i m H →
      ((RZ.ItzT K a b).stop i H ∧ Qd H) ∨ ((RZ.ItzT K a b).go i H ∧ ∃ Nx : Hp → Prop, (∀ H', Nx H' → ∃ m', m' < m ∧ W (i + 1) m' H') ∧ ∀ x H', (RZ.ItzT K a b).yld i H x H' → g x (wipe σ vs) H' fun σ2 H2 => wipe σ2 vs = wipe σ vs ∧ tt σ2 H2 fun b H3 =>
        if b = true then te σ2 H3 fun y H4 => ∃ acc, H4 D = some (.lst acc) ∧ acc.length < sizeLine ∧ Nx (upd H4 D (.lst (acc ++ [y]))) else Nx H3) := by
  refine ⟨fun i m H => m = xs.length - i ∧ i ≤ xs.length ∧ Pv i H, ⟨xs.length, by simp, Nat.zero_le _, h0⟩, ?_⟩
  rintro i m H ⟨rfl, hi, p⟩
  obtain ⟨qx, qy⟩ := hq i H p
  by_cases hlt : i < xs.length
  · have hx : xs[i]? = some xs[i] := List.getElem?_eq_getElem hlt
    have hlt2 : i < ys.length := by omega
    have hy : ys[i]? = some ys[i] := List.getElem?_eq_getElem hlt2
    refine .inr ⟨⟨xs, ys, _, _, qx, qy, hx, hy⟩, Pv (i + 1), fun H' p' => ⟨xs.length - (i + 1), by omega, rfl, hlt, p'⟩, fun v H' y => ?_⟩
    obtain ⟨T, x', y', rfl, hT, rfl, f1, f2⟩ := y
    exact hs i x' y' T H (f1 xs qx) (f2 ys qy) p hT
  · have e : i = xs.length := by omega
    subst e
    exact .inl ⟨⟨xs, ys, qx, qy, Or.inl (Nat.le_refl _)⟩, hd H p⟩
/-! ### the source of draws -/
/-- the object of a source that may be drawn from n times more -/
def SrcO (n : Nat) (o : HO) : Prop := ∃ a b c : Int, o = .lst [.int a, .int b, .int c] ∧ 0 ≤ a ∧ 0 ≤ b ∧ b < 2147483648 ∧ 0 ≤ c ∧ c + (n : Int) ≤ 1000000000000
def Src (H : Hp) (s : Addr) (n : Nat) : Prop := ∃ o, H s = some o ∧ SrcO n o
theorem SrcO.mono {n m : Nat} {o : HO} (h : SrcO n o) (l : m ≤ n) : SrcO m o := by
  obtain ⟨a, b, c, e, h1, h2, h3, h4, h5⟩ := h
  exact ⟨a, b, c, e, h1, h2, h3, h4, by omega⟩
theorem Src.mono {H : Hp} {s : Addr} {n m : Nat} (h : Src H s n) (l : m ≤ n) : Src H s m := let ⟨o, e, q⟩ := h; ⟨o, e, q.mono l⟩
def dist (c w : Int) : Int := if c - w < 0 then -(c - w) else c - w
def near (w c x : Int) : Bool := HT.lexLt [dist x w, x] [dist c w, c]
/-- what an object in c with the wish w needs, of a row of n cells -/
def needsL (n : Nat) (c w : Int) : List Int := ((List.range n).map fun (i : Nat) => (i : Int)).filter (near w c)
theorem needsL_succ (n : Nat) (c w : Int) : needsL (n + 1) c w = needsL n c w ++ (if near w c (n : Int) = true then [(n : Int)] else []) := by
  unfold needsL
  rw [List.range_succ, List.map_append, List.filter_append]
  congr 1
  simp only [List.map_cons, List.map_nil, List.filter_cons, List.filter_nil]
theorem needsL_len (n : Nat) (c w : Int) : (needsL n c w).length ≤ n := by
  unfold needsL
  refine Nat.le_trans (List.length_filter_le _ _) ?_
  simp
theorem all_rep (n : Nat) : (List.replicate n true).all id = true := by simp
end NS
namespace NS
theorem src_a (z : Int) (k : Bool) : 0 ≤ (if z < 0 then -z else z) * (if k = true then 1 else 0) := by
  have h : 0 ≤ (if z < 0 then -z else z) := by split <;> omega
  generalize (if z < 0 then -z else z) = y at h
  cases k
  · rw [if_neg Bool.false_ne_true, Int.mul_zero]
    exact Int.le_refl 0
  · rw [if_pos rfl, Int.mul_one]
    exact h
theorem cmul_b (x : Int) (k : Bool) : L2.CMul x (if k = true then 1 else 0) := .inr (by cases k <;> exact ⟨by decide, by decide⟩)
section
open PySem L2
variable {X : Cx} {K : PySem.W.Frag}
theorem op_ltTK (e : X.K = K) (hu : X.A.units < cLine) : OpR X (compareOp .Lt) (rLtT K) := by subst e; exact op_ltT hu
theorem ix_listK (e : X.K = K) : IxR X (rIxL K) := by subst e; exact ix_list
theorem ix_tupK (e : X.K = K) : IxR X (rIxT K) := by subst e; exact ix_tup
theorem call_lenK (e : X.K = K) : CallR X (.builtin "len") (fun xs H Q => ∃ p ys, xs = [.ref p] ∧ (SqL K H p ys ∨ SqT K H p ys) ∧ Q (.int ys.length) H) := by subst e; exact call_len_seq
theorem call_isiKK (e : X.K = K) : CallR X (.builtin "isinstance") (rIsi K) := by subst e; exact call_isi
theorem call_isiTK (e : X.K = K) : CallR X (.builtin "isinstance") (rIsiT K) := by subst e; exact call_isiT
theorem op_inK (e : X.K = K) : OpR X (compareOp .In) (rIn K false) := by subst e; exact op_in_seq
theorem op_notInK (e : X.K = K) : OpR X (compareOp .NotIn) (rIn K true) := by subst e; exact op_notIn_seq
theorem cr_allK (e : X.K = K) (hc : X.calm = true) : CallR X (.builtin "all") (rAll K) := by subst e; exact cr_all hc
theorem cr_anyK (e : X.K = K) (hc : X.calm = true) : CallR X (.builtin "any") (rAny K) := by subst e; exact cr_any hc
theorem call_tupleK (e : X.K = K) : CallR X (.type "tuple") (fun xs H Q => ∃ p ys, xs = [.ref p] ∧ ((SqL K H p ys ∧ ∀ l, H l = none → Q (.ref l) (upd H l (.tup ys))) ∨ (SqT K H p ys ∧ Q (.ref p) H))) := by subst e; exact call_tuple_of
theorem call_listK (e : X.K = K) : CallR X (.type "list") (fun xs H Q => ∃ p ys, xs = [.ref p] ∧ (SqL K H p ys ∨ SqT K H p ys) ∧ ∀ l, H l = none → Q (.ref l) (upd H l (.lst ys))) := by subst e; exact call_list_of
theorem op_eqDK (e : X.K = K) (hu : X.A.units + 64 < cLine) : OpR X (compareOp .Eq) (rEqD K) := by subst e; exact op_eqD hu
theorem op_neDK (e : X.K = K) (hu : X.A.units + 64 < cLine) : OpR X (compareOp .NotEq) (rNeD K) := by subst e; exact op_neD hu
theorem pg_tupK {es : List Expr} {k : Nat} {pos : Pos} {t : TGs} {n : Nat} (e : X.K = K) (hc : X.calm = true) (h : PGs X es t)
    (hn : (assignEach es X.env).length = n := by rfl) (hst : (assignEach es X.env).findIdx? (·.1) = none := by rfl) : PG X (.Tuple es k pos) (gTup K n t) := by subst e; exact pg_tup hc h hn hst
end
end NS
namespace NS
open PySem L2
/-- all but s stays -/
def Stay (s : Addr) (H H' : Hp) : Prop := ∀ b o, b ≠ s → H b = some o → H' b = some o
theorem Stay.refl (s : Addr) (H : Hp) : Stay s H H := fun _ _ _ h => h
theorem Stay.trans {s : Addr} {H H1 H2 : Hp} (a : Stay s H H1) (b : Stay s H1 H2) : Stay s H H2 := fun c o n h => b c o n (a c o n h)
theorem stay_upd {s : Addr} {H : Hp} {o : HO} : Stay s H (upd H s o) := fun b x n e => by
  rw [upd_ne n]
  exact e
theorem Stay.of {s : Addr} {H H' : Hp} (e : Same H H') : Stay s H H' := fun b o _ h => e b o h
theorem same_stay {s : Addr} {H H' : Hp} {o : HO} (hn : H s = none) (e : Stay s (upd H s o) H') : Same H H' := fun b x h => by
  have nb : b ≠ s := ne_of_none h hn
  exact e b x nb (by rw [upd_ne nb]; exact h)
theorem Stay.mut {s : Addr} {H H' : Hp} {p : Addr} {o : HO} (e : Stay s H H') (h : H p = none) : Stay s H (upd H' p o) := fun a u n ha => by
  rw [upd_ne (ne_of_none ha h)]
  exact e a u n ha
theorem Stay.seq {K : PySem.W.Frag} {s : Addr} {H H' : Hp} {a : Addr} {xs : List V} (e : Stay s H H') (n : a ≠ s) (h : SqL K H a xs) : SqL K H' a xs := by
  rcases h with (h | ⟨o, h⟩) | h
  · exact .inl (.inl (e _ _ n h))
  · exact .inl (.inr ⟨o, e _ _ n h⟩)
  · exact .inr h
theorem Stay.tup {K : PySem.W.Frag} {s : Addr} {H H' : Hp} {a : Addr} {xs : List V} (e : Stay s H H') (n : a ≠ s) (h : SqT K H a xs) : SqT K H' a xs := by
  rcases h with (h | ⟨o, h⟩) | h
  · exact .inl (.inl (e _ _ n h))
  · exact .inl (.inr ⟨o, e _ _ n h⟩)
  · exact .inr h
/-! ### data -/
def dT (ns : List Int) : PyData := .tuple (ns.map PyData.int)
def dL (ns : List Int) : PyData := .list (ns.map PyData.int)
theorem dp_ints {K : PySem.W.Frag} {H : Hp} : ∀ ns : List Int, DpAll K H (ns.map V.int) (ns.map PyData.int)
  | [] => .nil
  | n :: ns => .cons (.int n) (dp_ints ns)
theorem dp_T {K : PySem.W.Frag} {H : Hp} {a : Addr} {ns : List Int} (h : SqT K H a (ns.map V.int)) : Dp K H (.ref a) (dT ns) := .tup h (dp_ints ns)
theorem dp_L {K : PySem.W.Frag} {H : Hp} {a : Addr} {ns : List Int} (h : SqL K H a (ns.map V.int)) : Dp K H (.ref a) (dL ns) := .lst h (dp_ints ns)
theorem atI_neg1 (x : Int) (r : List Int) : atI ((x :: r).map V.int) (-1) = some (.int ((x :: r).getLast (List.cons_ne_nil x r))) := by
  have hz : ((x :: r).map V.int) = ((x :: r).dropLast.map V.int) ++ [.int ((x :: r).getLast (List.cons_ne_nil _ _))] := by
    rw [← List.map_singleton, ← List.map_append, List.dropLast_concat_getLast]
  rw [hz]
  exact atI_last _ _
/-- the last and the first of what is needed lie beside the cell -/
def edgeB (n : Nat) (c w : Int) : Bool := match needsL n c w with
  | [] => true
  | x :: r => decide ((x :: r).getLast (List.cons_ne_nil x r) + 1 = c) || decide (x - 1 = c)
theorem edge_all : ((List.range 13).all fun n => (List.range n).all fun c => (List.range n).all fun w => edgeB n (c : Nat) (w : Nat)) = true := by decide +kernel
theorem edge {n c w : Nat} (hn : n ≤ 12) (hc : c < n) (hw : w < n) : edgeB n (c : Int) (w : Int) = true := by
  have h := edge_all
  rw [List.all_eq_true] at h
  have h1 := h n (List.mem_range.mpr (by omega))
  rw [List.all_eq_true] at h1
  have h2 := h1 c (List.mem_range.mpr hc)
  rw [List.all_eq_true] at h2
  exact h2 w (List.mem_range.mpr hw)
end NS
namespace NS
open PySem L2
theorem lay_ints : ∀ ns : List Int, PyData.canLayAll0 (ns.map PyData.int) = true
  | [] => rfl
  | _ :: r => by simp [PyData.canLayAll0, PyData.canLay0, lay_ints r]
theorem dep_ints : ∀ ns : List Int, PyData.depthAll (ns.map PyData.int) = 0
  | [] => rfl
  | _ :: r => by simp [PyData.depthAll, PyData.depth, dep_ints r]
theorem sh_T (ns : List Int) : SeqAt.shaped (dT ns) = true := by
  simp [SeqAt.shaped, dT, PyData.canLay0, PyData.depth, lay_ints, dep_ints]
theorem sh_L (ns : List Int) : SeqAt.shaped (dL ns) = true := by
  simp [SeqAt.shaped, dL, PyData.canLay0, PyData.depth, lay_ints, dep_ints]
end NS
namespace NS
open PySem L2
theorem nd_int {a b : Int} (h : a = b) (c : (!decide (V.int a = V.int b)) = true) : False := by
  rw [h, decide_eq_true rfl] at c
  cases c
end NS

/-! ### min of a list of tuples of ints -/
namespace NS
open PySem PySem.Spec PyProof.Rows L2
theorem lex_irr : ∀ a : List Int, HT.lexLt a a = false
  | [] => rfl
  | x :: xs => by rw [HT.lexLt_cons, if_pos rfl]; exact lex_irr xs
theorem lex_trans : ∀ {a b c : List Int}, HT.lexLt a b = true → HT.lexLt b c = true → HT.lexLt a c = true
  | [], [], _, h, _ => by cases h
  | [], _ :: _, [], _, h => by rw [HT.lexLt_cons_nil] at h; cases h
  | [], _ :: _, _ :: _, _, _ => rfl
  | _ :: _, [], _, h, _ => by rw [HT.lexLt_cons_nil] at h; cases h
  | _ :: _, _ :: _, [], _, h => by rw [HT.lexLt_cons_nil] at h; cases h
  | x :: xs, y :: ys, z :: zs, h1, h2 => by
    rw [HT.lexLt_cons] at h1 h2 ⊢
    by_cases e1 : x = y
    · rw [if_pos e1] at h1
      by_cases e2 : y = z
      · rw [if_pos e2] at h2
        rw [if_pos (e1.trans e2)]
        exact lex_trans h1 h2
      · rw [if_neg e2] at h2
        rw [if_neg (by omega), e1]
        exact h2
    · rw [if_neg e1] at h1
      have l1 : x < y := of_decide_eq_true h1
      by_cases e2 : y = z
      · rw [if_neg (by omega)]
        exact decide_eq_true (by omega)
      · rw [if_neg e2] at h2
        have l2 : y < z := of_decide_eq_true h2
        rw [if_neg (by omega)]
        exact decide_eq_true (by omega)
section
variable {prog : Program} {w : World} {A : Around} {E : Value → Shared → Prop} {s : Shared} {l S I : Addr} {vs : List Value} {R : Result → Shared → Prop} {Q : Value → Shared → Prop}
/-- the items' numbers, as they stand in h -/
def TupsAt (h : Heap) (vs : List Value) (nss : Nat → List Int) : Prop := ∀ (i : Nat) (v : Value), vs[i]? = some v → ∃ p items, v = .ref p ∧ IsTup h p items ∧ IntsAre items.toList (nss i)
theorem minT_loop {h₀ : Heap} (nss : Nat → List Int) (hh : A.handled = none) (hu : A.units + 1 < cLine) (hl : h₀.IsList l vs.toArray) (hT : TupsAt h₀ vs nss) (hlI : l ≠ I) (hSI : S ≠ I) (nS : h₀.get? S = none) (nI : h₀.get? I = none)
    (hR : ∀ i v h' tk', vs[i]? = some v → (∀ j, j < vs.length → HT.lexLt (nss j) (nss i) = false) → (∀ b o, h₀.get? b = some o → h'.get? b = some o) → R (.ok (.ret v)) { s with heap := h', toks := tk' }) :
    ∀ (r j i : Nat) (h : Heap) (tk : Nat) (vb : Value) (c : Nat), vs.length - (j + 1) = r → j + 1 ≤ vs.length → (∀ b o, h₀.get? b = some o → h.get? b = some o) →
      h.get? S = some (seqObj "list" #[vb, vb] c) → h.IsListIter I l (j + 1) → vs[i]? = some vb → i ≤ j → (∀ j', j' ≤ j → HT.lexLt (nss j') (nss i) = false) →
      codeAny (model prog w) A (.builtin "min.loop" ⟨[.ref I, .none, .ref S], []⟩) R { s with heap := h, toks := tk } := by
  have hname : (toString "min" ++ toString ".loop" : String) = "min.loop" := by decide
  have W := Walks.list (prog := prog) (w := w) (A := A.in1) hh I l hlI vs.toArray
  have hsz : vs.toArray.size = vs.length := List.size_toArray ..
  have listAt : ∀ h : Heap, (∀ b o, h₀.get? b = some o → h.get? b = some o) → h.IsList l vs.toArray := fun h k => hl.at fun o e => k l o e
  have neS : ∀ b o, h₀.get? b = some o → b ≠ S := fun b o e z => by rw [z, nS] at e; cases e
  have neI : ∀ b o, h₀.get? b = some o → b ≠ I := fun b o e z => by rw [z, nI] at e; cases e
  intro r
  induction r with
  | zero =>
    intro j i h tk vb c hr hj k gS hit hvb hij hbest
    have hin : j + 1 = vs.length := by omega
    refine codeAny_builtin PySem.F.entry_min_loop ?_
    rw [Around.under_plainId PySem.F.plain_min_loop _]
    show wpAny _ A.in1 (seqItems? (.ref S) >>= _) _ _ _
    refine wpAny_bind (wpAny_seqItems gS rfl ?_)
    show wpAny _ A.in1 (tryCatch (pyNext (.ref I)) _ >>= _) _ _ _
    refine wpAny_bind (wpAny_tryCatch (W.done _ _ _ ⟨by rw [hsz, ← hin]; exact hit, listAt h k⟩ fun h' tk' hk' => ?_))
    have hS' := hk' S _ (by simpa using hSI) gS
    have s1 := Heap.SameBut.update h' S (Obj.mapSeq fun _ => (#[] : Array Value))
    show wpAny _ A.in1 (updateSeq S (fun _ => #[]) >>= _) _ _ _
    refine wpAny_bind ?_
    refine wpAny_updateSeq hS' rfl (wpAny_bind (wpAny_letGo (wpAny_pure ?_)))
    exact hR i vb _ _ hvb (fun j' hj' => hbest j' (by omega)) fun b o e => (s1.2 b (neS b o e)).trans (hk' b o (by simpa using neI b o e) (k b o e))
  | succ r ih =>
    intro j i h tk vb c hr hj k gS hit hvb hij hbest
    have hlt : j + 1 < vs.length := by omega
    refine codeAny_builtin PySem.F.entry_min_loop ?_
    rw [Around.under_plainId PySem.F.plain_min_loop _]
    show wpAny _ A.in1 (seqItems? (.ref S) >>= _) _ _ _
    refine wpAny_bind (wpAny_seqItems gS rfl ?_)
    show wpAny _ A.in1 (tryCatch (pyNext (.ref I)) _ >>= _) _ _ _
    refine wpAny_bind (wpAny_tryCatch (W.item (j + 1) _ _ _ (by rw [hsz]; exact hlt) ⟨hit, listAt h k⟩ fun v h' tk' hP hst' hk' => ?_))
    have hv : vs[j + 1]? = some v := by simpa using hP
    have gS' := hk' S _ (by simpa using hSI) gS
    have k' : ∀ b o, h₀.get? b = some o → h'.get? b = some o := fun b o e => hk' b o (by simpa using neI b o e) (k b o e)
    obtain ⟨p1, it1, rfl, t1, i1⟩ := hT _ _ hv
    obtain ⟨p2, it2, rfl, t2, i2⟩ := hT _ _ hvb
    obtain ⟨⟨cls, dd, data, sl⟩, ho, hc, n, hd⟩ := id t1
    obtain ⟨⟨cls2, dd2, data2, sl2⟩, ho2, hc2, n2, hd2⟩ := id t2
    simp only at hc hd hc2 hd2
    subst hc hd hc2 hd2
    show wpAny _ A.in1 (pure (Value.ref p1) >>= _) _ _ _
    refine wpAny_bind (wpAny_pure ?_)
    show wpAny _ A.in1 (tryCatch (holding [.ref p1, .ref p1] (richCompare .Lt (.ref p1) (.ref p2) >>= _)) _ >>= _) _ _ _
    refine wpAny_bind (wpAny_tryCatch (wpAny_holding (wpAny_bind (richCompare_meets_room (op := .Lt) ⟨_, k' _ _ ho, rfl⟩ ⟨_, k' _ _ ho2, rfl⟩ PySem.F.slot_tuple_lt PySem.F.entry_tuple_lt (PySem.F.args_tuple_lt_2 _ _) (HT.tuple_lt_ints p1 p2 it1 it2 n n2 dd dd2 sl sl2 (nss (j + 1)) (nss i) i1 i2)
      ⟨k' _ _ ho, k' _ _ ho2, (fun x => nomatch x), ?_⟩ hu))))
    refine wpAny_bind (wpAny_holding (wpAny_truthy_bool ?_))
    refine wpAny_bind (wpAny_letGo (wpAny_pure ?_))
    by_cases hb' : HT.lexLt (nss (j + 1)) (nss i) = true
    · have s1 := Heap.SameBut.update h' S (Obj.mapSeq fun _ => #[Value.ref p1, Value.ref p1])
      obtain ⟨c2, hc2⟩ : ∃ c2, (h'.update S (Obj.mapSeq fun _ => #[Value.ref p1, Value.ref p1])).get? S = some (seqObj "list" #[Value.ref p1, Value.ref p1] c2) := ⟨_, get?_update_seq gS' fun _ => #[Value.ref p1, Value.ref p1]⟩
      simp only [hb', if_true]
      refine wpAny_bind ?_
      refine wpAny_updateSeq gS' rfl (wpAny_bind (wpAny_letGo ?_))
      rw [hname]
      refine wpAny_pure ⟨plainId_quiet PySem.F.plain_min_loop _, ih (j + 1) (j + 1) _ _ (.ref p1) c2 (by omega) hlt (fun b o e => (s1.2 b (neS b o e)).trans (k' b o e)) hc2 ?_ hv (Nat.le_refl _) fun j' hj' => ?_⟩
      · obtain ⟨oI', hoI', hoc, hod⟩ := hst'.1
        exact ⟨oI', (s1.2 I hSI.symm).trans hoI', hoc, hod⟩
      · by_cases e : j' = j + 1
        · subst e
          exact lex_irr _
        · have hb1 := hbest j' (by omega)
          cases q : HT.lexLt (nss j') (nss (j + 1)) with
          | false => rfl
          | true =>
            rw [lex_trans q hb'] at hb1
            cases hb1
    · have hb0 : HT.lexLt (nss (j + 1)) (nss i) = false := Bool.eq_false_iff.mpr hb'
      simp only [hb0, Bool.false_eq_true, if_false]
      refine wpAny_bind (wpAny_letGo ?_)
      rw [hname]
      refine wpAny_pure ⟨plainId_quiet PySem.F.plain_min_loop _, ih (j + 1) i _ _ (.ref p2) c (by omega) hlt k' gS' hst'.1 hvb (by omega) fun j' hj' => ?_⟩
      by_cases e : j' = j + 1
      · subst e
        exact hb0
      · exact hbest j' (by omega)
theorem min_tups (nss : Nat → List Int) (hh : A.handled = none) (hu : A.units + 1 < cLine) (hl : s.heap.IsList l vs.toArray) (hT : TupsAt s.heap vs nss) (hne : 0 < vs.length)
    (hQ : ∀ i v h' tk', vs[i]? = some v → (∀ j, j < vs.length → HT.lexLt (nss j) (nss i) = false) → (∀ b o, s.heap.get? b = some o → h'.get? b = some o) → Q v { s with heap := h', toks := tk' }) :
    wpAny (model prog w) A (call (.builtin "min") [.ref l]) Q E s := by
  have hname : (toString "min" ++ toString ".loop" : String) = "min.loop" := by decide
  obtain ⟨ol, hol, _⟩ := id hl
  have hll : l < s.heap.objs.size := Heap.lt_size hol
  refine call_function_tree PySem.F.kind_min PySem.F.plain_min PySem.F.entry_min (PySem.F.args_min1 _) ?_
  show wpAny _ A.in1 (Builtin.Builtins.bindParams "min" ["key", "default"] 0 ⟨[], []⟩ >>= _) _ _ s
  refine wpAny_bind (wpAny_of_eq (show Builtin.Builtins.bindParams "min" ["key", "default"] 0 ⟨[], []⟩ = pure [none, none] from rfl) ?_)
  refine wpAny_bind (wpAny_pure ?_)
  refine wpAny_bind (wpAny_pyIter_list hl ?_)
  refine wpAny_bind (wpAny_newList ?_ (Nat.zero_le _))
  rw [hname]
  have hS : (s.heap.push { cls := .type "list_iterator", data := .fields #[.ref l, .int 0 0] }).objs.size = s.heap.objs.size + 1 := size_push' ..
  have hlI : l ≠ s.heap.objs.size := Nat.ne_of_lt hll
  have hSI : (s.heap.push { cls := .type "list_iterator", data := .fields #[.ref l, .int 0 0] }).objs.size ≠ s.heap.objs.size := by rw [hS]; exact Nat.ne_of_gt (Nat.lt_succ_self _)
  have nI : s.heap.get? s.heap.objs.size = none := Heap.get?_none_of_le (Nat.le_refl _)
  have nS : s.heap.get? (s.heap.push { cls := .type "list_iterator", data := .fields #[.ref l, .int 0 0] }).objs.size = none := Heap.get?_none_of_le (by rw [hS]; exact Nat.le_succ _)
  refine wpAny_pure ⟨plainId_quiet PySem.F.plain_min_loop _, ?_⟩
  have gI : ((s.heap.push { cls := .type "list_iterator", data := .fields #[.ref l, .int 0 0] }).push (seqObj "list" #[] 0)).get? s.heap.objs.size = some { cls := .type "list_iterator", data := .fields #[.ref l, .int 0 0] } :=
    Heap.get?_push_of_some _ (Heap.get?_push_size _ rfl)
  have gS : ((s.heap.push { cls := .type "list_iterator", data := .fields #[.ref l, .int 0 0] }).push (seqObj "list" #[] 0)).get? (s.heap.push { cls := .type "list_iterator", data := .fields #[.ref l, .int 0 0] }).objs.size = some (seqObj "list" #[] 0) := Heap.get?_push_size _ rfl
  have k0 : ∀ b o, s.heap.get? b = some o → ((s.heap.push { cls := .type "list_iterator", data := .fields #[.ref l, .int 0 0] }).push (seqObj "list" #[] 0)).get? b = some o := fun b o e => Heap.get?_push_of_some _ (Heap.get?_push_of_some _ e)
  have neI : ∀ b o, s.heap.get? b = some o → b ≠ s.heap.objs.size := fun b o e => Nat.ne_of_lt (Heap.lt_size e)
  have W := Walks.list (prog := prog) (w := w) (A := A.in1) hh s.heap.objs.size l hlI vs.toArray
  have hsz : vs.toArray.size = vs.length := List.size_toArray ..
  refine codeAny_builtin PySem.F.entry_min_loop ?_
  rw [Around.under_plainId PySem.F.plain_min_loop _]
  show wpAny _ A.in1 (seqItems? (.ref _) >>= _) _ _ _
  refine wpAny_bind (wpAny_seqItems gS rfl ?_)
  show wpAny _ A.in1 (tryCatch (pyNext (.ref s.heap.objs.size)) _ >>= _) _ _ _
  refine wpAny_bind (wpAny_tryCatch (W.item 0 _ _ _ (by rw [hsz]; exact hne) ⟨⟨_, gI, rfl, rfl⟩, hl.at fun o e => k0 l o e⟩ fun v h' tk' hP hst' hk' => ?_))
  have hv : vs[0]? = some v := by simpa using hP
  have gS' := hk' _ _ (by simpa using hSI) gS
  show wpAny _ A.in1 (pure v >>= _) _ _ _
  refine wpAny_bind (wpAny_pure ?_)
  generalize hSd : (s.heap.push { cls := .type "list_iterator", data := .fields #[.ref l, .int 0 0] }).objs.size = S at *
  have s1 := Heap.SameBut.update h' S (Obj.mapSeq fun _ => #[v, v])
  obtain ⟨c2, hc2⟩ : ∃ c2, (h'.update S (Obj.mapSeq fun _ => #[v, v])).get? S = some (seqObj "list" #[v, v] c2) := ⟨_, get?_update_seq gS' fun _ => #[v, v]⟩
  show wpAny _ A.in1 (updateSeq S (fun _ => #[v, v]) >>= _) _ _ _
  refine wpAny_bind ?_
  refine wpAny_updateSeq gS' rfl ?_
  rw [hname]
  have neS : ∀ b o, s.heap.get? b = some o → b ≠ S := fun b o e z => by rw [z, nS] at e; cases e
  refine wpAny_pure ⟨plainId_quiet PySem.F.plain_min_loop _, minT_loop nss hh hu hl hT hlI hSI nS nI hQ _ 0 0 _ _ v c2 rfl hne (fun b o e => (s1.2 b (neS b o e)).trans (hk' b o (by simpa using neI b o e) (k0 b o e))) hc2 ?_ hv (Nat.le_refl _) fun j' hj' => ?_⟩
  · obtain ⟨oI', hoI', hoc, hod⟩ := hst'.1
    exact ⟨oI', (s1.2 _ hSI.symm).trans hoI', hoc, hod⟩
  · have e : j' = 0 := by omega
    subst e
    exact lex_irr _
end
/-- min(xs), xs a list of tuples of ints: one that no other is less than -/
def rMinT (K : PySem.W.Frag) : List V → Hp → VK → Prop := fun vs H Q => ∃ (a : Addr) (ps : List Addr) (nss : List (List Int)), vs = [V.ref a] ∧ SqL K H a (ps.map V.ref) ∧ ps.length = nss.length ∧ 0 < nss.length ∧
  (∀ (i : Nat) (p : Addr) (ns : List Int), ps[i]? = some p → nss[i]? = some ns → SqT K H p (ns.map V.int)) ∧ ∀ (i : Nat) (p : Addr) (ns : List Int), ps[i]? = some p → nss[i]? = some ns → (∀ ms ∈ nss, HT.lexLt ms ns = false) → Q (.ref p) H
theorem cr_minT {X : Cx} {K : PySem.W.Frag} (e : X.K = K) (hc : X.calm = true) (hu : X.A.units + 1 < cLine) : CallR X (.builtin "min") (rMinT K) := by
  subst e
  intro pins s σ H vs us Q I r h
  obtain ⟨a, ps, nss, rfl, hs, hlen, hne, hT, q⟩ := h
  obtain ⟨its, rv, hl, _⟩ := I.list hs
  rw [Vals.ref1 r]
  have hil : its.length = ps.length := by rw [← rv.length, List.length_map]
  have hget : ∀ (i : Nat) (v : Value), its[i]? = some v → ∃ (p : Addr) (ns : List Int), ps[i]? = some p ∧ nss[i]? = some ns ∧ v = Value.ref p := fun i v hv => by
    have h1 : i < its.length := (List.getElem?_eq_some_iff.mp hv).1
    have h2 : i < ps.length := by omega
    have h3 : i < nss.length := by omega
    obtain ⟨u, hu, ru⟩ := rv.get (i := i) (x := .ref ps[i]) (by rw [List.getElem?_map, List.getElem?_eq_getElem h2]; rfl)
    rw [hv] at hu
    cases hu
    exact ⟨ps[i], nss[i], List.getElem?_eq_getElem h2, List.getElem?_eq_getElem h3, ru⟩
  refine min_tups (fun i => nss.getD i []) (I.ok.hd hc) hu hl.isList (fun i v hv => ?_) (by omega) fun i v h' tk hv hb hk => ?_
  · obtain ⟨p, ns, e1, e2, rfl⟩ := hget i v hv
    obtain ⟨it2, r2, p2, _⟩ := I.tuple (hT i p ns e1 e2)
    refine ⟨p, it2.toArray, rfl, p2, ?_⟩
    have e3 : nss.getD i [] = ns := by rw [List.getD_eq_getElem?_getD, e2]; rfl
    show IntsAre it2.toArray.toList (nss.getD i [])
    rw [e3]
    exact intsAre_of r2
  · obtain ⟨p, ns, e1, e2, rfl⟩ := hget i v hv
    have e3 : nss.getD i [] = ns := by rw [List.getD_eq_getElem?_getD, e2]; rfl
    refine ⟨.ref p, H, I.kept hk, rfl, q i p ns e1 e2 fun ms hm => ?_⟩
    obtain ⟨j, hj, rfl⟩ := List.getElem_of_mem hm
    have hb2 : HT.lexLt (nss.getD j []) (nss.getD i []) = false := hb j (by omega)
    have e4 : nss.getD j [] = nss[j] := by
      rw [List.getD_eq_getElem?_getD, List.getElem?_eq_getElem hj]
      rfl
    rw [e3, e4] at hb2
    exact hb2
end NS

/-! ### own rules: numbers that may be bools, str, repr, t[::-1], xs[a:b] = ys -/
namespace NS
open PySem PySem.Spec PyProof.Rows L2
/-- an int, or a bool as one -/
inductive NumV : V → Int → Prop
  | int (i : Int) : NumV (.int i) i
  | bl (b : Bool) : NumV (.bl b) (if b = true then 1 else 0)
section
variable {X : Cx}
def rAddV : R2 := fun x y H Q => ∃ i j, NumV x i ∧ y = .int j ∧ Q (.int (i + j)) H
def rSubV : R2 := fun x y H Q => ∃ i j, NumV x i ∧ y = .int j ∧ Q (.int (i - j)) H
def rRsubV : R2 := fun x y H Q => ∃ i j, x = .int i ∧ NumV y j ∧ Q (.int (i - j)) H
theorem op_addV : OpR X (binaryOp .Add) rAddV := fun pins s σ H x y v u Q I rx ry h => by
  obtain ⟨i, j, nx, rfl, q⟩ := h
  obtain ⟨t, rfl⟩ := ry
  cases nx with
  | int i =>
    obtain ⟨t', rfl⟩ := rx
    exact add_int ⟨.int _, H, I.tok _, ⟨_, rfl⟩, q⟩
  | bl b =>
    cases rx
    exact PySem.IntBool.add_bool_int ⟨.int _, H, I.tok _, ⟨_, rfl⟩, q⟩
theorem op_subV : OpR X (binaryOp .Sub) rSubV := fun pins s σ H x y v u Q I rx ry h => by
  obtain ⟨i, j, nx, rfl, q⟩ := h
  obtain ⟨t, rfl⟩ := ry
  cases nx with
  | int i =>
    obtain ⟨t', rfl⟩ := rx
    exact sub_int ⟨.int _, H, I.tok _, ⟨_, rfl⟩, q⟩
  | bl b =>
    cases rx
    exact PySem.IntBool.sub_bool_int ⟨.int _, H, I.tok _, ⟨_, rfl⟩, q⟩
theorem op_rsubV : OpR X (binaryOp .Sub) rRsubV := fun pins s σ H x y v u Q I rx ry h => by
  obtain ⟨i, j, rfl, ny, q⟩ := h
  obtain ⟨t, rfl⟩ := rx
  cases ny with
  | int j =>
    obtain ⟨t', rfl⟩ := ry
    exact sub_int ⟨.int _, H, I.tok _, ⟨_, rfl⟩, q⟩
  | bl b =>
    cases ry
    exact PySem.IntBool.sub_int_bool ⟨.int _, H, I.tok _, ⟨_, rfl⟩, q⟩
/-- str of an int or of a bool: some text -/
def strV : V → Str
  | .int i => toString i
  | .bl b => if b then "True" else "False"
  | _ => ""
def rStrV : List V → Hp → VK → Prop := fun xs H Q => ∃ x, xs = [x] ∧ ((∃ i : Int, x = .int i ∧ i.natAbs.log2 < 1920) ∨ ∃ b, x = .bl b) ∧ Q (.str (strV x)) H
theorem call_strV : CallR X (.type "str") rStrV := fun pins s σ H xs us Q I r h => by
  obtain ⟨x, rfl, hx, q⟩ := h
  obtain ⟨u, rfl, rx⟩ := vals1 r
  rcases hx with ⟨i, rfl, hi⟩ | ⟨b, rfl⟩
  · obtain ⟨t, rfl⟩ := rx
    exact PySem.P.str_of_int hi ⟨.str _, H, I.tok _, ⟨_, rfl⟩, q⟩
  · cases rx
    exact PySem.P.str_of_bool ⟨.str _, H, I.tok _, ⟨_, rfl⟩, q⟩
/-- repr of data -/
theorem call_reprD {K : PySem.W.Frag} (e : X.K = K) (hg : X.A.guards = some []) (hu : X.A.units + 64 < cLine) : CallR X (.builtin "repr") (fun xs H Q => ∃ x d, xs = [x] ∧ Dp K H x d ∧ PyData.showable d = true ∧ d.hasDict = false ∧ d.depth ≤ 60 ∧ d.shown.length ≤ sizeLine ∧ Q (.str d.shown) H) := fun pins s σ H xs us Q I r h => by
  subst e
  obtain ⟨x, d, rfl, hd, hs, hn, hp, hz, q⟩ := h
  obtain ⟨u, rfl, rx⟩ := vals1 r
  obtain ⟨as, rd⟩ := Dp.reads I d x u hd rx
  cases hd with
  | non =>
    cases rx
    exact PySem.P.repr_of_none ⟨.str _, H, I.tok _, ⟨_, rfl⟩, q⟩
  | bl b =>
    cases rx
    exact PySem.P.repr_of_bool ⟨.str _, H, I.tok _, ⟨_, rfl⟩, q⟩
  | int i =>
    obtain ⟨t, rfl⟩ := rx
    exact PySem.P.repr_of_int (of_decide_eq_true hs) ⟨.str _, H, I.tok _, ⟨_, rfl⟩, q⟩
  | str z =>
    obtain ⟨t, rfl⟩ := rx
    exact PySem.P.repr_of_str ⟨.str _, H, I.tok _, ⟨_, rfl⟩, q⟩ hz
  | lst h1 h2 =>
    cases rx
    exact repr_of_reads' rd hs (PyData.noDict_hsm hn) hg (by omega) (fun b o z => z) (fun h' w tk hk => ⟨.str _, H, I.kept hk, ⟨_, rfl⟩, q⟩) hz
  | tup h1 h2 =>
    cases rx
    exact repr_of_reads' rd hs (PyData.noDict_hsm hn) hg (by omega) (fun b o z => z) (fun h' w tk hk => ⟨.str _, H, I.kept hk, ⟨_, rfl⟩, q⟩) hz
end
end NS

/-! ### t[::-1], xs[a:b] = ys -/
namespace NS
open PySem PySem.Spec PyProof.Rows L2
theorem rev_adj (n : Nat) : Builtin.Slice.sliceAdjust none none (-1) (n : Int) = ((n : Int) - 1, -1) := rfl
theorem rev_places (n : Nat) : Builtin.Slice.slicePlaces ((n : Int) - 1) (-1) (-1) = n := by
  unfold Builtin.Slice.slicePlaces
  rw [if_neg (by decide)]
  by_cases h : n = 0
  · subst h
    rfl
  · rw [if_pos (by omega), show (- -1 : Int) = 1 by decide, Int.ediv_one]
    omega
theorem fm_map {α β : Type} {f : α → Option β} {g : α → β} : ∀ {l : List α}, (∀ x ∈ l, f x = some (g x)) → l.filterMap f = l.map g
  | [], _ => rfl
  | x :: l, h => by
    rw [List.filterMap_cons_some (h x (List.mem_cons_self ..)), List.map_cons, fm_map fun y hy => h y (List.mem_cons_of_mem _ hy)]
theorem rev_pick (xs : List Value) : ((List.range xs.length).filterMap fun (k : Nat) => xs.toArray[(((xs.length : Int) - 1) + (k : Int) * (-1)).toNat]?) = xs.reverse := by
  apply List.ext_getElem?
  intro i
  have e : ((List.range xs.length).filterMap fun (k : Nat) => xs.toArray[(((xs.length : Int) - 1) + (k : Int) * (-1)).toNat]?) = (List.range xs.length).map fun k => xs.getD (xs.length - 1 - k) .none := by
    refine fm_map fun k hk => ?_
    have hk' := List.mem_range.mp hk
    have e1 : (((xs.length : Int) - 1) + (k : Int) * (-1)).toNat = xs.length - 1 - k := by omega
    rw [e1, List.getElem?_toArray, List.getElem?_eq_getElem (by omega)]
    show some _ = some (xs.getD (xs.length - 1 - k) .none)
    rw [List.getD_eq_getElem?_getD, List.getElem?_eq_getElem (by omega)]
    rfl
  rw [e, List.getElem?_map]
  by_cases hi : i < xs.length
  · rw [List.getElem?_range hi, List.getElem?_reverse hi]
    show some (xs.getD (xs.length - 1 - i) .none) = _
    rw [List.getD_eq_getElem?_getD, List.getElem?_eq_getElem (by omega)]
    rfl
  · rw [List.getElem?_eq_none (by rw [List.length_range]; omega), List.getElem?_eq_none (by rw [List.length_reverse]; omega)]
    rfl
section
variable {prog : Program} {w : World} {A : Around} {E : Value → Shared → Prop} {s : Shared}
theorem getItem_tup_rev {t sl : Addr} {xs : List Value} {vs : Value} {Q : Value → Shared → Prop} (ht : IsTup s.heap t xs.toArray) (hs : s.heap.IsSliceOf sl .none .none vs) (pv' : IsPart vs (some (-1)))
    (h : Q (.ref s.heap.objs.size) { s with heap := s.heap.push { cls := .type "tuple", data := .seq xs.reverse.toArray } })
    (hsz : xs.length ≤ sizeLine) : wpAny (model prog w) A (getItem (.ref t) (.ref sl)) Q E s := by
  have okSize : sizeOk (.seq xs.reverse.toArray) := by
    show xs.reverse.toArray.size ≤ sizeLine
    rw [List.size_toArray, List.length_reverse]
    exact hsz
  obtain ⟨os, hos, hcs, hds⟩ := id hs
  have tyS : s.TypeIs (.ref sl) "slice" := ⟨os, hos, hcs⟩
  have applied : ∀ {R : Int × Int × Nat → Shared → Prop}, R ((xs.length : Int) - 1, -1, xs.length) s → wpAny (model prog w) A.in1 (Builtin.Slice.sliceApplied (.ref sl) (pure ((xs.toArray.size : Nat) : Int))) R E s := fun {R} hR => by
    unfold Builtin.Slice.sliceApplied Builtin.Slice.sliceFields
    refine wpAny_bind (wpAny_bind (wpAny_field hos hds (x := .none) rfl (wpAny_bind (wpAny_field hos hds (x := .none) rfl (wpAny_bind (wpAny_field hos hds (x := vs) rfl (wpAny_pure ?_)))))))
    refine wpAny_bind (HT.slicePart_ pv' ?_)
    show wpAny _ _ (if ((-1 : Int) == 0) = true then _ else _) _ _ s
    rw [if_neg (by decide)]
    refine wpAny_bind (slicePart_none (wpAny_bind (slicePart_none (wpAny_bind (wpAny_pure ?_)))))
    show wpAny _ _ (match Builtin.Slice.sliceAdjust none none (-1) ((xs.toArray.size : Nat) : Int) with | (lo, hi) => pure (lo, (-1 : Int), Builtin.Slice.slicePlaces lo hi (-1))) _ _ s
    rw [List.size_toArray, rev_adj]
    show wpAny _ _ (pure ((xs.length : Int) - 1, (-1 : Int), Builtin.Slice.slicePlaces ((xs.length : Int) - 1) (-1) (-1))) _ _ s
    rw [rev_places]
    exact wpAny_pure hR
  unfold getItem
  try with_reducible refine wpAny_holding ?_
  first | refine wpAny_bind (wpAny_pure ?_) | skip
  refine wpAny_bind (wpAny_sequenceKey ht.typeIs (by decide) ?_)
  refine wpAny_bind (wpAny_callSpecial?_slot (name := Str.ofString "__getitem__") ht.typeIs PyProof.Rows.slot_tuple_getitem
    (wpAny_call_entry PyProof.Rows.slot_tuple_getitem ht.typeIs entry_tuple_getitem ?_ (args_tuple_getitem _ _)))
  show wpAny _ _ (Builtin.Tuple.tupleItemsOf (.ref t) >>= _) _ _ s
  refine wpAny_bind (tupleItemsOf_ ht (wpAny_bind (wpAny_typeOf tyS ?_)))
  rw [if_pos (by decide)]
  refine wpAny_bind (applied ?_)
  have notWhole : ¬ (((((xs.length : Int) - 1) == 0) && ((-1 : Int) == 1) && (xs.length == xs.toArray.size)) = true) := fun z => by
    rw [show ((-1 : Int) == 1) = false by decide, Bool.and_false, Bool.false_and] at z
    cases z
  show wpAny _ _ (if ((((xs.length : Int) - 1) == 0) && ((-1 : Int) == 1) && (xs.length == xs.toArray.size)) = true then _ else _) _ _ s
  rw [if_neg notWhole, rev_pick]
  first
    | exact wpAny_bind (m := Builtin.Tuple.tupleExact _) (wpAny_newObj_type (wpAny_pure ⟨_, rfl, wpAny_pure h⟩) okSize)
    | exact wpAny_bind (m := Builtin.Tuple.tupleExact _) (wpAny_newObj_type (wpAny_bind (wpAny_pure (wpAny_pure ⟨_, rfl, wpAny_pure h⟩))) okSize)
    | exact wpAny_bind (wpAny_bind (m := Builtin.Tuple.tupleExact _) (wpAny_newObj_type (wpAny_pure (wpAny_pure ⟨_, rfl, wpAny_pure h⟩)) okSize))
    | exact wpAny_bind (wpAny_bind (m := Builtin.Tuple.tupleExact _) (wpAny_newObj_type (wpAny_pure ⟨_, rfl, wpAny_pure h⟩) okSize))
end
section
variable {X : Cx}
def tRevT (K : PySem.W.Frag) (te : TE) : TE := fun σ H Q => te σ H fun x H1 => ∃ a xs, x = .ref a ∧ SqT K H1 a xs ∧ ∀ p, H1 p = none → Q (.ref p) (upd H1 p (.tup xs.reverse))
theorem pe_revT {e : Expr} {te : TE} {k : Nat} {p1 p2 p3 pos : Pos} (he : PE X e te) : PE X (.Subscript e (.Slice none none (some (.UnaryOp .USub (.Constant (.int 1) k p1) p2)) p3) pos) (tRevT X.K te) := by
  constructor
  intro pins s σ H Q I h
  refine Subscript_ (thn (he.run pins s σ H _ I h) fun v s1 ⟨x, H1, I1, r1, q1⟩ => ?_)
  obtain ⟨a, xs, ex, hx, q⟩ := q1
  subst ex
  cases r1
  have step : PO X (some (.UnaryOp .USub (.Constant (.int 1) k p1) p2)) (tPart (tUn (rU fun i => .int (-i)) (tC (.int 1)))) := po_some (pe_un un_neg pe_int)
  refine wpAny_Slice (thn (po_none.run pins s1 σ H1 (fun o H2 => o = none ∧ H2 = H1) I1 ⟨rfl, rfl⟩) fun vl s2 ⟨l, H2, I2, pl, el, e2⟩ => ?_)
  subst el e2
  cases pl
  refine thn (po_none.run pins s2 σ H2 (fun o H3 => o = none ∧ H3 = H2) I2 ⟨rfl, rfl⟩) fun vu s3 ⟨u, H3, I3, pu, eu, e3⟩ => ?_
  subst eu e3
  cases pu
  refine thn (step.run pins s3 σ H3 (fun o H4 => o = some (-1) ∧ H4 = H3) I3 ⟨1, rfl, -1, rfl, rfl, rfl⟩) fun vs s4 ⟨o, H4, I4, ps, eo, e4⟩ => ?_
  subst eo e4
  have I5 : L2.Inv X pins σ H4 { s4 with heap := s4.heap.push { cls := .type "slice", data := .fields #[.none, .none, vs] } } := I4.kept (t' := s4.toks) fun b ob z => Heap.get?_push_of_some _ z
  obtain ⟨its, r, ht, hz⟩ := I5.tuple hx
  have hlen := r.length
  show wpAny (model X.prog X.w) X.A (subscriptTail e (.Slice none none (some (.UnaryOp .USub (.Constant (.int 1) k p1) p2)) p3) (.ref a) (.ref s4.heap.objs.size)) (EP X pins σ Q) X.xe { s4 with heap := s4.heap.push { cls := .type "slice", data := .fields #[.none, .none, vs] } }
  refine tail_any (ops := [.ref a, .ref s4.heap.objs.size]) ht.typeIs (PyProof.Rows.slot_tuple_getitem.lookup) ?_ (by with_unfolding_all rfl)
  refine getItem_tup_rev ht (Heap.IsSliceOf.new _ .none .none vs) ps ?_ (by omega)
  refine ⟨.ref _, _, I5.laid (t' := s4.toks) (o := .tup xs.reverse) (fun b ob z => Heap.get?_push_of_some _ z) (Nat.le_refl _) ?_, rfl, q _ (I5.hok.fresh (Nat.le_refl _))⟩
  exact ⟨by rw [List.length_reverse]; exact hz, _, r.reverse, IsTup.new _ _⟩
end
section
variable {prog : Program} {w : World} {A : Around} {E : Value → Shared → Prop} {s : Shared}
theorem bounds_clip {a c n : Nat} (ha : a ≤ n) : sliceBounds (some (a : Int)) (some (c : Int)) none n = ((a : Int), ((min c n : Nat) : Int), 1) := by
  simp only [sliceBounds, Option.getD_none]
  have h1 : ¬ ((a : Int) < 0) := by omega
  have h2 : ¬ ((c : Int) < 0) := by omega
  simp only [h1, h2, if_false, show (1 : Int) > 0 by decide, if_true]
  refine Prod.ext ?_ (Prod.ext ?_ rfl)
  · show max 0 (min (a : Int) (n : Int)) = (a : Int)
    omega
  · show max 0 (min (c : Int) (n : Int)) = ((min c n : Nat) : Int)
    omega
theorem setItem_clip {l b sl : Addr} {items new : Array Value} {n n2 : Nat} {vl vu : Value} {a c : Nat} {Q : Unit → Shared → Prop}
    (e : s.heap.get? l = some { cls := .type "list", data := .seq items n }) (e2 : s.heap.get? b = some { cls := .type "list", data := .seq new n2 }) (hne : l ≠ b)
    (hs : s.heap.IsSliceOf sl vl vu .none) (pl : IsPart vl (some (a : Int))) (pu : IsPart vu (some (c : Int))) (hac : a ≤ c) (ha : a ≤ items.size)
    (hsz : items.size + new.size ≤ sizeLine) (h : Q () { s with heap := s.heap.update l (Obj.mapSeq fun xs => xs.extract 0 a ++ new ++ xs.extract (min c items.size) xs.size) }) :
    wpAny (model prog w) A (setItem (.ref l) (.ref sl) (.ref b)) Q E s := by
  have isl : s.heap.IsList l items := PySem.IsL.isList e
  have isb : s.heap.IsList b new := PySem.IsL.isList e2
  obtain ⟨os, hos, hcs, hds⟩ := id hs
  have tyS : s.TypeIs (.ref sl) "slice" := ⟨os, hos, hcs⟩
  have apart : Builtin.List.listSameRef (.ref l) (.ref b) = false := by
    unfold Builtin.List.listSameRef
    exact beq_eq_false_iff_ne.mpr hne
  have emax : (max (a : Int) ((min c items.size : Nat) : Int)).toNat = min c items.size := by omega
  have fits : ((fun xs : Array Value => xs.extract 0 a ++ new ++ xs.extract (min c items.size) xs.size) items).size ≤ sizeLine + 1 := by
    simp only [Array.size_append, Array.size_extract]
    omega
  unfold setItem
  try with_reducible refine wpAny_holding ?_
  first | refine wpAny_bind (wpAny_pure ?_) | skip
  refine wpAny_bind (wpAny_sequenceKey isl.typeIs (by decide) ?_)
  refine wpAny_bind (wpAny_callSpecial?_slot (name := Str.ofString "__setitem__") isl.typeIs slot_list_setitem
    (wpAny_call_entry slot_list_setitem isl.typeIs entry_list_setitem ?_ (args_list_setitem _ _ _)))
  show wpAny _ _ (Builtin.List.listSubscript? (.ref sl) >>= _) _ _ s
  refine wpAny_bind ?_
  unfold Builtin.List.listSubscript?
  refine wpAny_bind (wpAny_specialOf tyS slice_no_index ?_)
  simp only [Option.isNone_none, if_true]
  refine wpAny_pure ?_
  show wpAny _ _ (typeOf (.ref sl) >>= _) _ _ s
  refine wpAny_bind (wpAny_typeOf tyS ?_)
  first
    | rw [if_neg (by decide)]
    | refine PySem.W.KFB.if_not (by decide) ?_
  rw [listSliceParts_eq]
  refine wpAny_bind (wpAny_bind (wpAny_field hos hds (x := .none) rfl (wpAny_bind (wpAny_listPart .none ?_))))
  rw [if_neg (show ¬ ((rawPart none == rawInt 0) = true) from Bool.false_ne_true)]
  refine wpAny_bind (wpAny_field hos hds (x := vl) rfl (wpAny_bind (wpAny_listPart pl ?_)))
  refine wpAny_bind (wpAny_field hos hds (x := vu) rfl (wpAny_bind (wpAny_listPart pu (wpAny_pure ?_))))
  first
    | simp only [apart, Bool.false_eq_true, if_false]
    | refine PySem.W.KFB.if_not apart ?_
    | (dsimp only
       rw [if_neg (by rw [apart]; exact Bool.false_ne_true)])
  refine wpAny_bind (m := Builtin.List.listAllItems (.ref b) "must assign iterable to extended slice") ?_
  unfold Builtin.List.listAllItems
  refine wpAny_bind (wpAny_typeOf isb.typeIs ?_)
  first
    | refine PySem.W.KFB.if_so (by decide) ?_
    | rw [if_pos (by decide)]
    | simp only [beq_self_eq_true, Bool.true_or, if_true]
  unfold Builtin.List.listItems
  refine wpAny_bind (wpAny_seqItems e2 rfl (wpAny_pure ?_))
  refine wpAny_bind (wpAny_bind (wpAny_seqItems e rfl (wpAny_pure ?_)))
  refine wpAny_bind (wpAny_of_eq ((sliceIndices_raw (some (a : Int)) (some (c : Int)) none items.size (by simp)).trans (congrArg (pure : Int × Int × Int → Sem (Int × Int × Int)) (bounds_clip ha))) ?_)
  show wpAny _ _ (if ((1 : Int) == 1) = true then _ else _) _ _ s
  rw [if_pos (by decide)]
  refine wpAny_bind (wpAny_rule ?_)
  first
    | simp only [notLongL hsz, Bool.false_eq_true, if_false]
    | refine PySem.W.KFB.if_not (notLongL hsz) ?_
  first | refine wpAny_bind (wpAny_pure ?_) | skip
  show wpAny _ _ (updateSeq l (fun xs => xs.extract 0 ((a : Int)).toNat ++ new ++ xs.extract (max (a : Int) ((min c items.size : Nat) : Int)).toNat xs.size) >>= _) _ _ s
  rw [emax, Int.toNat_natCast]
  refine wpAny_bind (wpAny_updateSeq (hz := Nat.le_trans (Nat.le_add_right _ _) hsz) (_hz' := fits) e rfl ?_)
  refine wpAny_bind (wpAny_letGo ?_)
  first
    | exact wpAny_bind (wpAny_pure (wpAny_pure ⟨.none, rfl, wpAny_pure h⟩))
    | exact wpAny_pure ⟨.none, rfl, wpAny_pure h⟩
end
section
variable {X : Cx}
/-- xs[a:b] = ys, ys another list; b may lie beyond -/
def gSlL (to : TE) (tl th : TO) : TG := fun v σ H Q => to σ H fun o H1 => tl σ H1 fun lo H2 => th σ H2 fun hi H3 => ∃ (l b : Addr) (xs ys : List V) (a c : Nat), o = .ref l ∧ v = .ref b ∧ lo = some (a : Int) ∧ hi = some (c : Int) ∧
  H3 l = some (.lst xs) ∧ H3 b = some (.lst ys) ∧ l ≠ b ∧ a ≤ c ∧ a ≤ xs.length ∧ xs.length + ys.length ≤ sizeLine ∧ Q σ (upd H3 l (.lst (xs.take a ++ ys ++ xs.drop c)))
theorem pg_slc {o lo hi : Expr} {to : TE} {tl th : TO} {sp pos : Pos} (ho : PE X o to) (hlo : PO X (some lo) tl) (hhi : PO X (some hi) th)
    (ha : ∀ v, assign (.Subscript o (.Slice (some lo) (some hi) none sp) pos) X.env v = (do
      let ov ← holding [v] (eval o X.env)
      let iv ← holding [v, ov] (eval (.Slice (some lo) (some hi) none sp) X.env)
      standAt pos
      holding [v, ov, iv] (setItem ov iv v)
      release [iv, v, ov] []) := by intro _; rfl) : PG X (.Subscript o (.Slice (some lo) (some hi) none sp) pos) (gSlL to tl th) := by
  constructor
  intro pins s σ H v u Q I r h
  rw [ha]
  refine wpAny_bind (wpAny_holding (thn (ho.run pins s σ H _ I h) fun ov s1 ⟨x, H1, I1, r1, q1⟩ => wpAny_bind (wpAny_holding (wpAny_Slice ?_))))
  refine thn (hlo.run pins s1 σ H1 _ I1 q1) fun vl s2 ⟨oi, H2, I2, pl, q2⟩ => thn (hhi.run pins s2 σ H2 _ I2 q2) fun vu s3 ⟨oj, H3, I3, pu, q3⟩ => ?_
  refine thn (po_none.run pins s3 σ H3 (fun o H4 => o = none ∧ H4 = H3) I3 ⟨rfl, rfl⟩) fun vn s4 ⟨ok, H4, I4, pn, ek, e4⟩ => ?_
  subst ek e4
  cases pn
  obtain ⟨l, b, xs, ys, a, c, rfl, rfl, rfl, rfl, hl, hb, hne, hac, hax, hz, q⟩ := q3
  cases r1
  cases r
  have I5 : L2.Inv X pins σ H4 { s4 with heap := s4.heap.push { cls := .type "slice", data := .fields #[vl, vu, .none] } } := I4.kept (t' := s4.toks) fun b ob z => Heap.get?_push_of_some _ z
  obtain ⟨z, its, n, rel, hlen, e⟩ := I5.lstM hl
  obtain ⟨z2, its2, n2, rel2, hlen2, e2⟩ := I5.lstM hb
  refine wpAny_bind (wpAny_standAt (wpAny_bind (wpAny_holding ?_)))
  refine setItem_clip (a := a) (c := c) e e2 hne (Heap.IsSliceOf.new _ vl vu .none) pl pu hac (by rw [List.size_toArray]; omega) (by rw [List.size_toArray, List.size_toArray]; omega) ?_
  refine wpAny_release ?_
  refine ⟨_, _, I5.lset (its' := its.take a ++ its2 ++ its.drop c) (t' := s4.toks) hl e ?_ (Vals.append (Vals.append (rel.take _) rel2) (rel.drop _)) ?_, q⟩
  · show its.toArray.extract 0 a ++ its2.toArray ++ its.toArray.extract (min c its.toArray.size) its.toArray.size = (its.take a ++ its2 ++ its.drop c).toArray
    rw [splice_eq]
    congr 2
    rw [List.size_toArray]
    by_cases hc : c ≤ its.length
    · rw [Nat.min_eq_left hc]
    · rw [Nat.min_eq_right (by omega), List.drop_eq_nil_of_le (Nat.le_refl _), List.drop_eq_nil_of_le (by omega)]
  · rw [List.length_append, List.length_append, List.length_take, List.length_drop]
    omega
end
end NS

/-! ### defs that may ask for repr: promised where no repr is under way around them -/
namespace NS
open PySem PySem.Spec PyProof.Rows L2
structure FnOkG (P : Program) (w : World) (K : PySem.W.Frag) (mg : Str → Option Value) (base : Heap) (k : Nat) (f : Addr) (fd : FuncData) (ps : List Str) (sp : Sp) : Prop where
  len : ∀ vs H Q E, sp vs H Q E → vs.length = ps.length
  run : ∀ (A : Around) (outer : List Env) (s : Shared) (H : Hp) (args : Args) (us : List Value) (vs : List V) (Q : VK) (E : XK), A.guards = some [] → Room k A → Env0 P w K mg base A outer s H → BindsTo s fd args (ps.zip us) → Vals vs us → sp vs H Q E →
    codeAny (model P w) A (.call (.ref f) args) (CR CX0 outer P w H s Q E) s
theorem FnOkG.of {P : Program} {w : World} {K : PySem.W.Frag} {mg : Str → Option Value} {base : Heap} {k : Nat} {f : Addr} {fd : FuncData} {ps : List Str} {sp : Sp} (F : FnOk P w K mg base CX0 k f fd ps sp) : FnOkG P w K mg base k f fd ps sp :=
  ⟨F.len, fun A outer s H args us vs Q E _ => F.run A outer s H args us vs Q E⟩
section
variable {P : Program} {w : World} {K : PySem.W.Frag} {mg : Str → Option Value} {base : Heap}
theorem okG {x qual : Str} {st : Stmt} {f : Addr} {fd : FuncData} {N ps : List Str} {k : Nat} {sp : Sp} (F : Fun K x qual st f fd) (S : FnScope N ps (defScope st)) (len : ∀ vs H Q E, sp vs H Q E → vs.length = ps.length)
    (hbody : ∀ (cdv : Value) (A : Around) (outer : List Env) (s : Shared) (H : Hp) (vs : List V) (Q : VK) (E : XK), A.guards = some [] → Room k (A.deeper (envOfC qual (defScope st) s.heap.objs.size f cdv)) → sp vs H Q E →
      ∃ t, PSs (cxOf CX0 P w K mg base N qual (defScope st) f cdv A outer s H E).nox (defBody st) t ∧ t { nx := fun _ H' => Q .non H', rt := Q } (start N vs) H) : FnOkG P w K mg base (k + 1) f fd ps sp := by
  obtain ⟨oc, od, kV, doc, pm, an, cdv, ct, osl, efd, lk, hcd⟩ := F.ex
  subst efd
  refine ⟨len, fun A outer s H args us vs Q E hgd room en bnd rel promised => ?_⟩
  have lens := len _ _ _ _ promised
  have inK : K.In s.heap := en.mod.kin.keeps fun b o z => (en.bs b o z).1
  have lim : s.heap.NoLimit := en.mod.nolimit.keeps fun b o z => (en.bs b o z).1
  have kinds : ∀ y ∈ ps.zip us, (defScope st).names.lookup y.1 = some .local ∨ ((defScope st).names.lookup y.1 = some .cell ∧ ((cellsFrom (s.heap.objs.size + 1) (defScope st).names []).lookup y.1).isSome = true) := fun y hy => by
    rcases S.par y.1 (List.of_mem_zip hy).1 with z | z
    · exact .inl z
    · exact .inr ⟨z, PySem.W.cellsFrom_some _ _ _ (.inl z)⟩
  refine codeAny_call_function room.depth (inK _ _ lk) rfl S.co S.gen rfl (PySem.W.codeRec_of inK hcd) (bnd _ _ _ _ ?_)
  refine wpAny_newFunctionEnv_cells S.kind kinds fun env eenv s1 entered => ?_
  subst eenv
  refine ⟨lim.keeps entered.toInCall.keep, codeAny_func ?_⟩
  obtain ⟨t, der, rd⟩ := hbody cdv A outer s H vs Q E hgd (room.deeper _) promised
  have J0 : L2.Inv (cxOf CX0 P w K mg base N qual (defScope st) f cdv A outer s H E) [] (start N vs) H s1 := inv_start S room.hd en lens rel entered
  have done : ∀ {σ' : L2.St} {H' : Hp} {v : V} {u : Value} {s' : Shared}, L2.Inv (cxOf CX0 P w K mg base N qual (defScope st) f cdv A outer s H E) [] σ' H' s' → RelV v u → Q v H' → CE outer P w H s Q u s' :=
    fun {σ' H' v u s'} J rv q => ⟨v, H', J.os, J.bare, J.base, J.hok, rv, q⟩
  refine wpAny_mono (der.nox.run [] s1 (start N vs) H _ J0 rd) (fun fl s' out => ?_) fun ex s' out => out
  cases fl with
  | ret u =>
    obtain ⟨v, σ', H', J, rv, q⟩ := out
    exact done J rv q
  | next =>
    obtain ⟨σ', H', J, q⟩ := out
    exact done (v := V.non) (u := Value.none) J rfl q
  | brk => exact (out.elim fun _ z => z.elim fun _ z => z.2).elim
  | cont => exact (out.elim fun _ z => z.elim fun _ z => z.2).elim
end
section
variable {X : Cx} {k : Nat} {f : Addr} {fd : FuncData} {ps : List Str} {sp : Sp} {x : Str} {p pos : Pos} {e : Expr} {es : List Expr} {t : TA}
theorem pe_callG (hgd : X.A.guards = some []) (F : FnOkG X.prog X.w X.K X.mg X.base k f fd ps sp) (hr : Room k X.A) (hg : Gl X x) (hm : X.mg x = some (.ref f)) (hk : PySem.W.keepIn X.K (.ref f) = true) (hb : Binds X.K fd ps [])
    (ha : PA X (e :: es) t) (hdb : (x == ("__debug__" : Str)) = false := by decide) (he : starEach (e :: es) X.env = (false, eval e X.env) :: starEach es X.env := by rfl) (hpl : (backTo pos (starEach es X.env)).any (·.1) = false := by rfl) :
    PE X (.Call (.Name x p) (e :: es) [] pos) (tCall sp [] E0 t) := by
  constructor
  intro pins s σ H Q I h
  refine wpAny_Call_Name_kw (ld_glob I hg hm ?_ hdb)
  refine PySem.W.callWith_K (h₀ := X.base) I.ok.mod.kin hk (thn (ha.run pos pins s σ H _ I h) fun us s1 ⟨vs, H1, I1, r, q⟩ => ⟨I1.kIn, ?_⟩) he hpl
  have r2 : Vals (vs ++ []) (us ++ []) := r.append .nil
  have hl : (us ++ []).length = ps.length := r2.length.symm.trans (F.len _ _ _ _ q)
  refine wpAny_call (codeAny_mono (F.run X.A X.stack s1 H1 ⟨us, []⟩ (us ++ []) (vs ++ []) Q E0 hgd hr I1.env0 (hb s1 us I1.kIn hl) r2 q) fun res s' hq => ?_)
  cases res with
  | error ex => exact (show False from hq).elim
  | ok fl =>
    cases fl with
    | ret u => exact I1.after hq
    | next => exact False.elim hq
    | brk => exact False.elim hq
    | cont => exact False.elim hq
end
/-- the law's end, by a promise where no repr is under way -/
theorem lawG {P : Program} {w : World} {K : PySem.W.Frag} {mg mb : Str → Option Value} {k : Nat} {fa a : Addr} {fd : FuncData} {x : Str} {sp : Sp} {s₁ : Shared} {vs : List Value} {ns : List Int}
    (KX : K.In s₁.heap) (hns : s₁.heap.Ns mainGlobals mg) (hb : s₁.heap.Ns builtinsNs mb) (hbb : ∀ x : Str, x ≠ "__name__" → mb x = bootBuiltins x) (hlim : s₁.heap.NoLimit) (hgn : s₁.gens = #[])
    (ha : s₁.heap.get? a = some { cls := .type "list", data := .seq vs.toArray }) (hi : IntsAre vs ns) (hl : ns.length ≤ sizeLine) (room : Room k callerA)
    (F : ∀ base : Heap, K.In base → base.Ns mainGlobals mg → FnOkG P w K mg base k fa fd [x] sp) (hbind : ∀ (s : Shared) (u : Value), BindsTo s fd ⟨[u], []⟩ [(x, u)])
    (hsp : ∀ H : Hp, Only H → SqL K H a (ns.map V.int) → sp [.ref a] H (fun v _ => v = .bl true) fun _ _ _ => False) :
    codeAny (model P w) callerA (.call (.ref fa) ⟨[.ref a], []⟩) (fun r s' => r = .ok (.ret (.bool true)) ∧ OldK s₁.heap s'.heap ∧ s'.os = s₁.os ∧ AllBare s'.gens) s₁ := by
  have rv := vals_ints hi
  have lenV := hi.length
  have core : ∀ H : Hp, Only H → SqL K H a (ns.map V.int) → HOk P w H s₁.heap → (∀ b, H b ≠ none → b = a) → (H a ≠ none → K.lookup a = none) →
      codeAny (model P w) callerA (.call (.ref fa) ⟨[.ref a], []⟩) (fun r s' => r = .ok (.ret (.bool true)) ∧ OldK s₁.heap s'.heap ∧ s'.os = s₁.os ∧ AllBare s'.gens) s₁ := fun H hO hS hok hA hK => by
    have noA : ∀ {b : Addr} {o : Obj} {es : Array DictEntry} {ep : Nat}, s₁.heap.get? b = some o → o.data = .dict es ep → H b = none := fun {b o es ep} z d => by
      cases hq : H b with
      | none => rfl
      | some u =>
        have eb : b = a := hA b (by rw [hq]; exact fun z => nomatch z)
        subst eb
        rw [ha] at z
        cases z
        exact nomatch (show Data.seq vs.toArray _ = Data.dict es ep from d)
    have nsK : ∀ {b : Addr} {m : Str → Option Value}, s₁.heap.Ns b m → (hidT s₁.heap H).Ns b m := fun {b m} z => by
      obtain ⟨o, es, ep, g, d, r⟩ := z
      exact ⟨o, es, ep, hidT_get g (noA g d), d, r⟩
    have inB : K.In (hidT s₁.heap H) := fun b o z => hidT_get (KX b o z) (by
      cases hq : H b with
      | none => rfl
      | some u =>
        have eb : b = a := hA b (by rw [hq]; exact fun z => nomatch z)
        subst eb
        rw [hK (by rw [hq]; exact fun z => nomatch z)] at z
        cases z)
    have hM : Mod K mg (hidT s₁.heap H) := ⟨inB, nsK hns, ⟨mb, nsK hb, hbb⟩, hlim.elim fun mc z => ⟨mc, nsK z.1, z.2⟩⟩
    have en : Env0 P w K mg (hidT s₁.heap H) callerA [] s₁ H := ⟨rfl, hM, fun b o z => of_hidT z, Nat.le_of_eq (hidT_size _ _), trivial, fun b z => absurd (show b ∈ ([] : List Addr) from z) (by simp), hok, .of_eq hgn⟩
    refine codeAny_mono ((F _ inB (nsK hns)).run callerA [] s₁ H ⟨[.ref a], []⟩ [.ref a] [.ref a] _ _ rfl room en (hbind s₁ (.ref a)) (.cons rfl .nil) (hsp H hO hS)) fun res s' out => ?_
    cases res with
    | error ex => exact (show False from out).elim
    | ok fl =>
      cases fl with
      | next => exact False.elim out
      | brk => exact False.elim out
      | cont => exact False.elim out
      | ret u =>
        obtain ⟨v, H', os, bare, un, hok', rel, isT⟩ := out
        have isT' : v = .bl true := isT
        subst isT'
        obtain rfl : u = Value.bool true := rel
        refine ⟨rfl, OldK.of_keep fun b o z => ?_, os, bare⟩
        rcases hO b with hq | ⟨ob, xs, hq⟩
        · exact un.keep b o z hq (fun y => absurd (show b ∈ ([] : List Addr) from y) (by simp)) (by simp)
        · have z1 := (hok b _ hq).1
          have z2 := (hok' b _ (un.frzs b ob _ hq)).1
          rw [z] at z1
          cases z1
          exact z2
  cases hk : K.lookup a with
  | some o =>
    have z := KX a o hk
    rw [ha] at z
    cases z
    exact core (fun _ => none) (fun _ => .inl rfl) (.inr ⟨_, vs.toArray, _, hk, rfl, rfl, rfl, by rw [List.size_toArray, lenV]; exact hl, by simpa using rv⟩) (fun b u z => nomatch (show (none : Option HO) = some u from z)) (fun b z => absurd rfl z) fun z => absurd rfl z
  | none =>
    have fz : ∀ b, (if b = a then some (HO.frz { cls := .type "list", data := .seq vs.toArray } (.lst (ns.map V.int))) else none) ≠ none → b = a := fun b z => by
      by_cases hba : b = a
      · exact hba
      · exact absurd (if_neg hba) z
    refine core (fun b => if b = a then some (.frz { cls := .type "list", data := .seq vs.toArray } (.lst (ns.map V.int))) else none) (fun b => ?_) (.inl (.inr ⟨{ cls := .type "list", data := .seq vs.toArray }, if_pos rfl⟩)) (fun b u z => ?_) fz fun _ => hk
    · by_cases hba : b = a
      · exact .inr ⟨_, _, if_pos hba⟩
      · exact .inl (if_neg hba)
    · have hba : b = a := fz b (by rw [show (if b = a then some (HO.frz { cls := .type "list", data := .seq vs.toArray } (.lst (ns.map V.int))) else none) = some u from z]; exact fun y => nomatch y)
      have z' := (if_pos hba).symm.trans z
      cases z'
      subst hba
      exact ⟨ha, by rw [List.length_map]; exact hl, vs, _, rv, ha⟩
theorem walkG {l : PySem.W.OpenLaw} {n k : Nat} {q : Program} {loose : List Str} {XP : (Str → Option Value) → Heap → Prop} {YP : World → Heap → Prop} {d : DefRec} {K : Params → PySem.W.Frag} {sp : World → Sp} {x : Str}
    (hn : l.most = some n) (hn2 : n ≤ sizeLine) (hdf : d.params.defaults = []) (room : Room k callerA)
    (hY : ∀ (w : World) (h : Heap), YP w h → (K w.params).In h)
    (F : ∀ (w : World) (mg : Str → Option Value) (fa : Addr) (h : Heap), (K w.params).In h → h.Ns mainGlobals mg → mg d.name = some (.ref fa) →
      ∃ fd : FuncData, (∀ (s : Shared) (u : Value), BindsTo s fd ⟨[u], []⟩ [(x, u)]) ∧
        ∀ base : Heap, (K w.params).In base → base.Ns mainGlobals mg → FnOkG l.prog w (K w.params) mg base k fa fd [x] (sp w))
    (hsp : ∀ (w : World) (H : Hp) (a : Addr) (ns : List Int), ns.length ≤ n → Only H → SqL (K w.params) H a (ns.map V.int) → sp w [.ref a] H (fun v _ => v = .bl true) fun _ _ _ => False) :
    PySem.W.WalkO q loose XP YP l.row.toRowW d [] (fun f vs => PySem.call f vs) := by
  refine Att.attach_call hn hdf fun w s₀ s₁ mg mb fa o pm cd doc a vs ns G Y ho hd hcd hmg hobj hints hlen hgn => ?_
  obtain ⟨fd, bnd, kept⟩ := F w mg fa _ (hY w _ Y) G.T.g hmg
  exact lawG (hY w _ Y) G.T.g G.T.b G.T.builtins G.T.nolimit hgn hobj hints (Nat.le_trans hlen hn2) room kept bnd fun H hO hS => hsp w H a ns hlen hO hS
end NS
namespace NS
open PySem L2
structure KnG (P : Program) (w : World) (K : PySem.W.Frag) (mg : Str → Option Value) (base : Heap) (k : Nat) (x : Str) (st : Stmt) (ps : List Str) (sp : Sp) (f : Addr) (fd : FuncData) : Prop where
  D : Df K mg x st ps f fd
  G : FnOkG P w K mg base k f fd ps sp
end NS

namespace NS
open PySem L2
mutual
def depthD : PyData → Nat
  | .list ds => depthL ds + 1
  | .tuple ds => depthL ds + 1
  | _ => 0
def depthL : List PyData → Nat
  | [] => 0
  | d :: ds => max (depthD d) (depthL ds)
end
theorem depthL_get : ∀ {ds : List PyData} {d : PyData} {i : Nat}, ds[i]? = some d → depthD d ≤ depthL ds
  | [], d, i, h => by simp at h
  | e :: ds, d, 0, h => by
    have q : e = d := Option.some.inj h
    subst q
    unfold depthL
    exact Nat.le_max_left _ _
  | e :: ds, d, i + 1, h => by
    have q := depthL_get (ds := ds) (d := d) (i := i) (by simpa using h)
    unfold depthL
    exact Nat.le_trans q (Nat.le_max_right _ _)
theorem dpAll_len {K : PySem.W.Frag} {H : Hp} : ∀ {vs : List V} {ds : List PyData}, DpAll K H vs ds → vs.length = ds.length
  | _, _, .nil => rfl
  | _, _, .cons _ b => congrArg (· + 1) (dpAll_len b)
theorem dpAll_get {K : PySem.W.Frag} {H : Hp} : ∀ {vs : List V} {ds : List PyData} {i : Nat} {v : V}, DpAll K H vs ds → vs[i]? = some v → ∃ d, ds[i]? = some d ∧ Dp K H v d
  | _, _, _, _, .nil, h => by simp at h
  | _, _, 0, v, .cons a _, h => by
    have q := Option.some.inj h
    subst q
    exact ⟨_, rfl, a⟩
  | _, _, i + 1, v, .cons _ b, h => by
    obtain ⟨d, e, q⟩ := dpAll_get (i := i) (v := v) b (by simpa using h)
    exact ⟨d, by simpa using e, q⟩
mutual
def wideD : PyData → Nat
  | .list ds => max ds.length (wideL ds)
  | .tuple ds => max ds.length (wideL ds)
  | _ => 0
def wideL : List PyData → Nat
  | [] => 0
  | d :: ds => max (wideD d) (wideL ds)
end
theorem wideL_get : ∀ {ds : List PyData} {d : PyData} {i : Nat}, ds[i]? = some d → wideD d ≤ wideL ds
  | [], d, i, h => by simp at h
  | e :: ds, d, 0, h => by
    have q : e = d := Option.some.inj h
    subst q
    unfold wideL
    exact Nat.le_max_left _ _
  | e :: ds, d, i + 1, h => by
    have q := wideL_get (ds := ds) (d := d) (i := i) (by simpa using h)
    unfold wideL
    exact Nat.le_trans q (Nat.le_max_right _ _)
theorem depth_ints : ∀ ns : List Int, depthL (ns.map PyData.int) = 0
  | [] => by unfold depthL; rfl
  | n :: ns => by
    show depthL (PyData.int n :: ns.map PyData.int) = 0
    unfold depthL
    rw [depth_ints ns]
    unfold depthD
    rfl
theorem wide_ints : ∀ ns : List Int, wideL (ns.map PyData.int) = 0
  | [] => by unfold wideL; rfl
  | n :: ns => by
    show wideL (PyData.int n :: ns.map PyData.int) = 0
    unfold wideL
    rw [wide_ints ns]
    unfold wideD
    rfl
theorem depth_T (ns : List Int) : depthD (dT ns) = 1 := by
  unfold dT depthD
  rw [depth_ints]
theorem wide_T (ns : List Int) : wideD (dT ns) = ns.length := by
  unfold dT wideD
  rw [wide_ints, List.length_map]
  omega
theorem depth_L (ns : List Int) : depthD (dL ns) = 1 := by
  unfold dL depthD
  rw [depth_ints]
theorem wide_L (ns : List Int) : wideD (dL ns) = ns.length := by
  unfold dL wideD
  rw [wide_ints, List.length_map]
  omega
theorem depth_list (ds : List PyData) : depthD (.list ds) = depthL ds + 1 := by rw [depthD]
theorem depth_tuple (ds : List PyData) : depthD (.tuple ds) = depthL ds + 1 := by rw [depthD]
theorem depthL_nil : depthL [] = 0 := by rw [depthL]
theorem depthL_cons (d : PyData) (ds : List PyData) : depthL (d :: ds) = max (depthD d) (depthL ds) := by rw [depthL]
theorem wide_list (ds : List PyData) : wideD (.list ds) = max ds.length (wideL ds) := by rw [wideD]
theorem wide_tuple (ds : List PyData) : wideD (.tuple ds) = max ds.length (wideL ds) := by rw [wideD]
theorem wideL_nil : wideL [] = 0 := by rw [wideL]
theorem wideL_cons (d : PyData) (ds : List PyData) : wideL (d :: ds) = max (wideD d) (wideL ds) := by rw [wideL]
end NS

/-! ### the heap without s; what evaluates to which data -/
namespace NS
open PySem L2
def Hid (S : List Addr) (H : Hp) : Hp := fun b => if b ∈ S then none else H b
theorem nmem_ne {S : List Addr} {b s : Addr} (n : b ∉ S) (hs : s ∈ S) : b ≠ s := fun z => n (by rw [z]; exact hs)
theorem hid_ne {S : List Addr} {b : Addr} {H : Hp} (h : b ∉ S) : Hid S H b = H b := if_neg h
theorem hid_in {S : List Addr} {b : Addr} {H : Hp} (h : b ∈ S) : Hid S H b = none := if_pos h
theorem hid_some {S : List Addr} {b : Addr} {H : Hp} {o : HO} (h : Hid S H b = some o) : b ∉ S ∧ H b = some o := by
  by_cases e : b ∈ S
  · rw [hid_in e] at h
    cases h
  · rw [hid_ne e] at h
    exact ⟨e, h⟩
theorem same_hid {S : List Addr} {H : Hp} : Same (Hid S H) H := fun _ _ h => (hid_some h).2
theorem hid_mono {S : List Addr} {H H' : Hp} (e : Same H H') : Same (Hid S H) (Hid S H') := fun b o h => by
  obtain ⟨n, h⟩ := hid_some h
  rw [hid_ne n]
  exact e b o h
theorem hid_stay {S : List Addr} {s : Addr} {H H' : Hp} (hs : s ∈ S) (e : Stay s H H') : Same (Hid S H) (Hid S H') := fun b o h => by
  obtain ⟨n, h⟩ := hid_some h
  rw [hid_ne n]
  exact e b o (nmem_ne n hs) h
theorem hid_upd {S : List Addr} {s : Addr} {H : Hp} {o : HO} (hs : s ∈ S) : Hid S (upd H s o) = Hid S H := by
  funext b
  by_cases e : b ∈ S
  · rw [hid_in e, hid_in e]
  · rw [hid_ne e, hid_ne e, upd_ne (nmem_ne e hs)]
theorem hid_to {S : List Addr} {s : Addr} {H : Hp} {o : HO} (hs : s ∈ S) : Same (Hid S H) (upd H s o) := fun b x h => by
  obtain ⟨n, h⟩ := hid_some h
  rw [upd_ne (nmem_ne n hs)]
  exact h
/-- one more is hidden that was not there -/
theorem hid_more {S : List Addr} {p : Addr} {H H' : Hp} (hp : H p = none) (e : Same (Hid S H) (Hid S H')) : Same (Hid S H) (Hid (p :: S) H') := fun b o h => by
  obtain ⟨n, h'⟩ := hid_some h
  have nb : b ≠ p := ne_of_none h' hp
  rw [hid_ne (fun z => by
    rcases List.mem_cons.mp z with z | z
    · exact nb z
    · exact n z)]
  exact (hid_some (e b o h)).2
theorem hid_back {S : List Addr} {p : Addr} {H : Hp} {o : HO} : Same (Hid (p :: S) H) (Hid S (upd H p o)) := fun b x h => by
  obtain ⟨n, h'⟩ := hid_some h
  rw [hid_ne (fun z => n (List.mem_cons_of_mem _ z)), upd_ne (nmem_ne n (List.mem_cons_self ..))]
  exact h'
theorem hid_less {S : List Addr} {p : Addr} {H : Hp} : Same (Hid (p :: S) H) (Hid S H) := fun b x h => by
  obtain ⟨n, h'⟩ := hid_some h
  rw [hid_ne (fun z => n (List.mem_cons_of_mem _ z))]
  exact h'
/-- tracked -/
abbrev Has (H : Hp) (s : Addr) : Prop := ∃ o, H s = some o
abbrev HasA (H : Hp) (S : List Addr) : Prop := ∀ b ∈ S, Has H b
theorem has_same {H H' : Hp} {s : Addr} (h : Has H s) (e : Same H H') : Has H' s := h.elim fun o z => ⟨o, e s o z⟩
theorem hasA_same {H H' : Hp} {S : List Addr} (h : HasA H S) (e : Same H H') : HasA H' S := fun b hb => has_same (h b hb) e
theorem hasA_upd {H : Hp} {s : Addr} {S : List Addr} {o : HO} (h : HasA H S) : HasA (upd H s o) S := fun b hb => by
  by_cases e : b = s
  · rw [e]
    exact ⟨o, upd_same⟩
  · obtain ⟨x, z⟩ := h b hb
    exact ⟨x, by rw [upd_ne e]; exact z⟩
theorem hasA_stay {H H' : Hp} {s : Addr} {S : List Addr} (h : HasA H S) (e : Stay s H H') (hs : Has H' s) : HasA H' S := fun b hb => by
  by_cases z : b = s
  · rw [z]
    exact hs
  · obtain ⟨x, y⟩ := h b hb
    exact ⟨x, e b x z y⟩
theorem has_ne {H : Hp} {S : List Addr} {p : Addr} (h : HasA H S) (n : H p = none) : p ∉ S := fun e => by
  obtain ⟨o, z⟩ := h p e
  rw [n] at z
  cases z
theorem src_has {H : Hp} {s : Addr} {n : Nat} (h : Src H s n) : Has H s := h.elim fun o z => ⟨o, z.1⟩
section
variable {K : PySem.W.Frag} {S : List Addr} {σ : L2.St} {H : Hp} {te ta tb : TE} {d : PyData} {ds es : List PyData}
def EvE (K : PySem.W.Frag) (S : List Addr) (d : PyData) (te : TE) (σ : L2.St) (H : Hp) : Prop := ∀ H1, Same H H1 → ∀ Q : VK, (∀ v H2, Same H1 H2 → Dp K (Hid S H2) v d → Q v H2) → te σ H1 Q
def EvAx (K : PySem.W.Frag) (S : List Addr) (ds : List PyData) (ta : TA) (σ : L2.St) (H : Hp) : Prop := ∀ H1, Same H H1 → ∀ Q : List V → Hp → Prop, (∀ vs H2, Same H1 H2 → DpAll K (Hid S H2) vs ds → Q vs H2) → ta σ H1 Q
def EvLx (K : PySem.W.Frag) (S : List Addr) (ds : List PyData) (te : TE) (σ : L2.St) (H : Hp) : Prop := ∀ H1, Same H H1 → ∀ Q : VK, (∀ p xs H2, Same H1 H2 → p ∉ S → H2 p = some (.lst xs) → DpAll K (Hid S H2) xs ds → Q (.ref p) H2) → te σ H1 Q
theorem ee_non : EvE K S .none (tC .non) σ H := fun H1 _ _ q => q _ H1 (Same.refl _) .non
theorem ee_bl {b : Bool} : EvE K S (.bool b) (tC (.bl b)) σ H := fun H1 _ _ q => q _ H1 (Same.refl _) (.bl _)
theorem ee_int {i : Int} : EvE K S (.int i) (tC (.int i)) σ H := fun H1 _ _ q => q _ H1 (Same.refl _) (.int _)
theorem ee_str {x : Str} : EvE K S (.str x) (tC (.str x)) σ H := fun H1 _ _ q => q _ H1 (Same.refl _) (.str _)
theorem ee_neg {i : Int} : EvE K S (.int (-i)) (tUn (rU fun i => .int (-i)) (tC (.int i))) σ H := fun H1 _ _ q => ⟨i, rfl, q _ H1 (Same.refl _) (.int _)⟩
theorem ee_var {i : Nat} {v : V} (h : σ[i]? = some (some v)) (hd : Dp K (Hid S H) v d) : EvE K S d (tVar i) σ H := fun H1 e _ q => ⟨v, h, q _ H1 (Same.refl _) (dp_same (hid_mono e) hd)⟩
theorem el_var {i : Nat} {p : Addr} {xs : List V} (h : σ[i]? = some (some (.ref p))) (hp : p ∉ S) (hx : H p = some (.lst xs)) (hd : DpAll K (Hid S H) xs ds) : EvLx K S ds (tVar i) σ H := fun H1 e _ q => ⟨_, h, q p xs H1 (Same.refl _) hp (e _ _ hx) (dp_sameA (hid_mono e) hd)⟩
theorem ea_nil : EvAx K S [] tNil σ H := fun H1 _ _ q => q [] H1 (Same.refl _) .nil
theorem ea_cons {tr : TA} (h : EvE K S d te σ H) (hr : EvAx K S ds tr σ H) : EvAx K S (d :: ds) (tCons te tr) σ H := fun H1 e Q q =>
  h H1 e _ fun v H2 e2 hv => hr H2 (e.trans e2) _ fun vs H3 e3 hvs => q (v :: vs) H3 (e2.trans e3) (.cons (dp_same (hid_mono e3) hv) hvs)
theorem sqT_hid {p : Addr} {xs : List V} (hp : p ∉ S) (h : H p = some (.tup xs)) : SqT K (Hid S H) p xs := sqT (by rw [hid_ne hp]; exact h)
theorem sqL_hid {p : Addr} {xs : List V} (hp : p ∉ S) (h : H p = some (.lst xs)) : SqL K (Hid S H) p xs := sqL (by rw [hid_ne hp]; exact h)
theorem ee_tup {t : TA} (hs : HasA H S) (h : EvAx K S ds t σ H) (hz : ds.length ≤ 1000) : EvE K S (.tuple ds) (tTup t) σ H := fun H1 e Q q =>
  h H1 e _ fun vs H2 e2 hvs => ⟨small (by rw [dpAll_len hvs]; exact hz), fun p hp => by
    have np := has_ne (hasA_same hs (e.trans e2)) hp
    exact q _ _ (e2.trans (same_upd hp)) (.tup (sqT_hid np upd_same) (dp_sameA (hid_mono (same_upd hp)) hvs))⟩
theorem ee_lst {t : TA} (hs : HasA H S) (h : EvAx K S ds t σ H) (hz : ds.length ≤ 1000) : EvE K S (.list ds) (tLst t) σ H := fun H1 e Q q =>
  h H1 e _ fun vs H2 e2 hvs => ⟨small (by rw [dpAll_len hvs]; exact hz), fun p hp => by
    have np := has_ne (hasA_same hs (e.trans e2)) hp
    exact q _ _ (e2.trans (same_upd hp)) (.lst (sqL_hid np upd_same) (dp_sameA (hid_mono (same_upd hp)) hvs))⟩
theorem el_lst {t : TA} (hs : HasA H S) (h : EvAx K S ds t σ H) (hz : ds.length ≤ 1000) : EvLx K S ds (tLst t) σ H := fun H1 e Q q =>
  h H1 e _ fun vs H2 e2 hvs => ⟨small (by rw [dpAll_len hvs]; exact hz), fun p hp => by
    have np := has_ne (hasA_same hs (e.trans e2)) hp
    exact q _ _ _ (e2.trans (same_upd hp)) np upd_same (dp_sameA (hid_mono (same_upd hp)) hvs)⟩
theorem dpAll_app {H : Hp} : ∀ {xs ys : List V} {ds es : List PyData}, DpAll K H xs ds → DpAll K H ys es → DpAll K H (xs ++ ys) (ds ++ es)
  | _, _, _, _, .nil, h => h
  | _, _, _, _, .cons a b, h => .cons a (dpAll_app b h)
theorem el_cat (hs : HasA H S) (ha : EvLx K S ds ta σ H) (hb : EvLx K S es tb σ H) (hz : ds.length + es.length ≤ 1000) : EvLx K S (ds ++ es) (tOp rCat ta tb) σ H := fun H1 e Q q =>
  ha H1 e _ fun l xs H2 e2 nl hl hx => hb H2 (e.trans e2) _ fun b ys H3 e3 nb hb hy =>
    ⟨l, b, xs, ys, rfl, rfl, e3 _ _ hl, hb, small (by rw [dpAll_len hx, dpAll_len hy]; exact hz), fun p hp => by
      have np := has_ne (hasA_same hs ((e.trans e2).trans e3)) hp
      exact q p _ _ ((e2.trans e3).trans (same_upd hp)) np upd_same (dp_sameA (hid_mono (same_upd hp)) (dpAll_app (dp_sameA (hid_mono e3) hx) hy))⟩
theorem el_rep2 (hs : HasA H S) (ha : EvLx K S ds ta σ H) (hz : ds.length ≤ 500) : EvLx K S (ds ++ ds) (tOp rRep ta (tC (.int 2))) σ H := fun H1 e Q q =>
  ha H1 e _ fun l xs H2 e2 nl hl hx => ⟨l, 2, xs, rfl, rfl, hl, by decide, by decide, small (by rw [dpAll_len hx]; show ds.length * 2 ≤ 1000; omega), fun p hp => by
    have np := has_ne (hasA_same hs (e.trans e2)) hp
    refine q p _ _ (e2.trans (same_upd hp)) np upd_same (dp_sameA (hid_mono (same_upd hp)) ?_)
    have er : (List.replicate (2 : Int).toNat xs).flatten = xs ++ xs := by
      show (xs ++ (xs ++ [])) = xs ++ xs
      rw [List.append_nil]
    rw [er]
    exact dpAll_app hx hx⟩
/-- name = xs + ys: a new list, apart from what stands in it -/
theorem sl_catN {D : Ends} {i : Nat} (hs : HasA H S) (ha : EvLx K S ds ta σ H) (hb : EvLx K S es tb σ H) (hz : ds.length + es.length ≤ 1000)
    (k : ∀ p xs H2, Same H H2 → H p = none → p ∉ S → H2 p = some (.lst xs) → DpAll K (Hid (p :: S) H2) xs (ds ++ es) → D.nx (σ.set i (some (.ref p))) H2) : tAsg (tOp rCat ta tb) (gName i) D σ H :=
  ha H (Same.refl H) _ fun l xs H2 e2 nl hl hx => hb H2 e2 _ fun b ys H3 e3 nb hb hy =>
    ⟨l, b, xs, ys, rfl, rfl, e3 _ _ hl, hb, small (by rw [dpAll_len hx, dpAll_len hy]; exact hz), fun p hp => by
      have np := has_ne (hasA_same hs (e2.trans e3)) hp
      exact k p _ _ ((e2.trans e3).trans (same_upd hp)) (e2.free (e3.free hp)) np upd_same (dp_sameA (hid_more hp (hid_mono (same_upd hp))) (dpAll_app (dp_sameA (hid_mono e3) hx) hy))⟩
end
end NS

namespace NS
open PySem L2
def fitD (n : Int) : PyData → Bool
  | .none => true
  | .str x => decide (x = "?")
  | .int i => decide (0 ≤ i) && decide (i < n)
  | _ => false
def validD : PyData → Bool
  | .tuple ds => !ds.isEmpty && ds.all (fitD (ds.length : Int))
  | _ => false
def lenD : PyData → Nat
  | .tuple ds => ds.length
  | .list ds => ds.length
  | _ => 0
end NS
namespace NS
open PySem L2
def isIntD : PyData → Bool
  | .int _ => true
  | _ => false
theorem eqv_tup0 (ds : List PyData) : PyData.eqv (.tuple ds) (.tuple []) = ds.isEmpty := by
  cases ds with
  | nil => rfl
  | cons d r => rfl
theorem valid_ne {ds : List PyData} (h : ds ≠ []) : validD (.tuple ds) = ds.all (fitD (ds.length : Int)) := by
  cases ds with
  | nil => exact absurd rfl h
  | cons d r => rfl
theorem all_bad {f : PyData → Bool} : ∀ {ds : List PyData} {i : Nat} {d : PyData}, ds[i]? = some d → f d = false → ds.all f = false
  | [], _, _, h, _ => by simp at h
  | e :: ds, 0, d, h, hf => by
    have q : e = d := Option.some.inj h
    rw [List.all_cons, q, hf, Bool.false_and]
  | e :: ds, i + 1, d, h, hf => by
    rw [List.all_cons, all_bad (ds := ds) (i := i) (d := d) (by simpa using h) hf, Bool.and_false]
theorem all_more {f : PyData → Bool} {ds : List PyData} {i : Nat} {d : PyData} (h : ds[i]? = some d) (hf : f d = true) (hp : (ds.take i).all f = true) : (ds.take (i + 1)).all f = true := by
  rw [List.take_add_one, List.all_append, hp, h]
  show (true && (f d && true)) = true
  rw [hf]
  rfl
end NS
namespace NS
open PySem L2
def oddA : List PyData := [.none, .bool true, .bool false, .int 0, .int 1, .int (-1), .str "", .str "node", .tuple [], .list [], .tuple [.int 0], .list [.int 1], .tuple [.tuple []], .tuple [.tuple [], .tuple []], .tuple [.int 0, .int 1]]
def oddB : List PyData := [.tuple [.none, .int 0], .tuple [.none], .str "?", .int 2, .int 3]
/-- what is made of an int (or a bool as one) -/
def oddN (z : Int) (v : V) (d : PyData) : List PyData := [.int (z + 1), .int (z - 1), .int (0 - z), .str (strV v), .bool (PyData.eqv d (.int 1))]
/-- of a list's or tuple's items -/
def oddS (mk : List PyData → PyData) (ds : List PyData) : List PyData := [.list ds, .tuple ds, mk ds.reverse, mk (ds.drop 1), mk ds.dropLast]
def oddL : PyData → List PyData
  | .int i => (oddA ++ oddB) ++ (oddN i (.int i) (.int i) ++ oddN i (.int i) (.int i))
  | .bool b => (oddA ++ oddB) ++ (oddN (if b = true then 1 else 0) (.bl b) (.bool b) ++ oddN (if b = true then 1 else 0) (.bl b) (.bool b))
  | .list ds => (oddA ++ oddB) ++ (oddS .list ds ++ oddS .list ds)
  | .tuple ds => (oddA ++ oddB) ++ (oddS .tuple ds ++ oddS .tuple ds)
  | _ => oddA ++ oddB
def oddPre : PyData → Prop
  | .int i => i.natAbs.log2 < 1920
  | .list ds => ds.length ≤ 400
  | .tuple ds => ds.length ≤ 400
  | _ => True
theorem cut_from1 (xs : List V) : cutV xs (some 1) none = xs.drop 1 := by
  unfold cutV
  rw [show HT.sIx xs.length 0 (some 1) = min 1 xs.length from HT.sIx_nat xs.length 0 1, HT.sIx_none]
  by_cases h : 1 ≤ xs.length
  · rw [Nat.min_eq_left h]
    exact List.take_of_length_le (by rw [List.length_drop]; exact Nat.le_refl _)
  · have e : xs = [] := List.eq_nil_of_length_eq_zero (by omega)
    rw [e]
    rfl
theorem cut_butlast (xs : List V) : cutV xs none (some (-1)) = xs.dropLast := by
  unfold cutV
  rw [HT.sIx_none]
  have e : HT.sIx xs.length xs.length (some (-1)) = xs.length - 1 := by
    show (if (-1 : Int) < 0 then ((-1 : Int) + (xs.length : Int)).toNat else min (-1 : Int).toNat xs.length) = xs.length - 1
    rw [if_pos (by decide)]
    omega
  rw [e, Nat.sub_zero, List.dropLast_eq_take]
  rfl
theorem dpAll_rev {K : PySem.W.Frag} {H : Hp} : ∀ {xs : List V} {ds : List PyData}, DpAll K H xs ds → DpAll K H xs.reverse ds.reverse
  | _, _, .nil => .nil
  | _, _, .cons a b => by
    rw [List.reverse_cons, List.reverse_cons]
    exact dpAll_app (dpAll_rev b) (.cons a .nil)
theorem dpAll_take {K : PySem.W.Frag} {H : Hp} : ∀ {xs : List V} {ds : List PyData} (n : Nat), DpAll K H xs ds → DpAll K H (xs.take n) (ds.take n)
  | _, _, 0, _ => .nil
  | _, _, _ + 1, .nil => .nil
  | _, _, n + 1, .cons a b => .cons a (dpAll_take n b)
theorem dpAll_drop {K : PySem.W.Frag} {H : Hp} : ∀ {xs : List V} {ds : List PyData} (n : Nat), DpAll K H xs ds → DpAll K H (xs.drop n) (ds.drop n)
  | _, _, 0, h => h
  | _, _, _ + 1, .nil => .nil
  | _, _, n + 1, .cons _ b => dpAll_drop n b
theorem dpAll_dropLast {K : PySem.W.Frag} {H : Hp} {xs : List V} {ds : List PyData} (h : DpAll K H xs ds) : DpAll K H xs.dropLast ds.dropLast := by
  rw [List.dropLast_eq_take, List.dropLast_eq_take, dpAll_len h]
  exact dpAll_take _ h
theorem dpAll_set {K : PySem.W.Frag} {H : Hp} {v : V} {d : PyData} (hv : Dp K H v d) : ∀ {xs : List V} {ds : List PyData} (n : Nat), DpAll K H xs ds → DpAll K H (xs.set n v) (ds.set n d)
  | _, _, _, .nil => .nil
  | _, _, 0, .cons _ b => .cons hv b
  | _, _, n + 1, .cons a b => .cons a (dpAll_set hv n b)
theorem dpAll_erase {K : PySem.W.Frag} {H : Hp} : ∀ {xs : List V} {ds : List PyData} (n : Nat), DpAll K H xs ds → DpAll K H (xs.eraseIdx n) (ds.eraseIdx n)
  | _, _, _, .nil => .nil
  | _, _, 0, .cons _ b => b
  | _, _, n + 1, .cons a b => .cons a (dpAll_erase n b)
end NS

/-! ### small data -/
namespace NS
open PySem L2
mutual
def intsB (N : Nat) : PyData → Bool
  | .int i => decide (i.natAbs ≤ N)
  | .list ds => decide (ds.length ≤ N) && intsAll N ds
  | .tuple ds => decide (ds.length ≤ N) && intsAll N ds
  | .none => true
  | .bool _ => true
  | .str _ => true
  | .dict _ => true
def intsAll (N : Nat) : List PyData → Bool
  | [] => true
  | d :: ds => intsB N d && intsAll N ds
end
/-- items that fit: no sign of a text too high, not too deep, ints not too great, rows not too long -/
structure Itm (D N : Nat) (d : PyData) : Prop where
  lay : PyData.canLay0 d = true
  dep : PyData.depth d ≤ D
  num : intsB N d = true
structure Sm (D W N : Nat) (d : PyData) : Prop where
  itm : Itm D N d
  wt : PyData.weight d ≤ W
theorem layAll_iff : ∀ {ds : List PyData}, PyData.canLayAll0 ds = true ↔ ∀ x ∈ ds, PyData.canLay0 x = true
  | [] => ⟨(fun _ _ h => nomatch h), fun _ => rfl⟩
  | d :: ds => by
    rw [PyData.canLayAll0, Bool.and_eq_true, layAll_iff (ds := ds), List.forall_mem_cons]
theorem depAll_iff {D : Nat} : ∀ {ds : List PyData}, PyData.depthAll ds ≤ D ↔ ∀ x ∈ ds, PyData.depth x ≤ D
  | [] => ⟨(fun _ _ h => nomatch h), fun _ => Nat.zero_le _⟩
  | d :: ds => by
    rw [PyData.depthAll, Nat.max_le, depAll_iff (ds := ds), List.forall_mem_cons]
theorem intsAll_iff {N : Nat} : ∀ {ds : List PyData}, intsAll N ds = true ↔ ∀ x ∈ ds, intsB N x = true
  | [] => ⟨(fun _ _ h => nomatch h), fun _ => by rw [intsAll]⟩
  | d :: ds => by
    rw [intsAll, Bool.and_eq_true, intsAll_iff (ds := ds), List.forall_mem_cons]
theorem itm_list {D N : Nat} {ds : List PyData} : Itm (D + 1) N (.list ds) ↔ ds.length ≤ N ∧ ∀ x ∈ ds, Itm D N x := by
  constructor
  · intro h
    have h1 := h.lay
    have h2 := h.dep
    have h3 := h.num
    rw [PyData.canLay0, layAll_iff] at h1
    rw [PyData.depth] at h2
    have h2' := depAll_iff.mp (Nat.le_of_succ_le_succ h2)
    rw [intsB, Bool.and_eq_true, intsAll_iff, decide_eq_true_eq] at h3
    exact ⟨h3.1, fun x hx => ⟨h1 x hx, h2' x hx, h3.2 x hx⟩⟩
  · rintro ⟨hl, h⟩
    refine ⟨?_, ?_, ?_⟩
    · rw [PyData.canLay0, layAll_iff]
      exact fun x hx => (h x hx).lay
    · rw [PyData.depth]
      exact Nat.succ_le_succ (depAll_iff.mpr fun x hx => (h x hx).dep)
    · rw [intsB, Bool.and_eq_true, intsAll_iff, decide_eq_true_eq]
      exact ⟨hl, fun x hx => (h x hx).num⟩
theorem itm_tuple {D N : Nat} {ds : List PyData} : Itm (D + 1) N (.tuple ds) ↔ ds.length ≤ N ∧ ∀ x ∈ ds, Itm D N x := by
  constructor
  · intro h
    have h1 := h.lay
    have h2 := h.dep
    have h3 := h.num
    rw [PyData.canLay0, layAll_iff] at h1
    rw [PyData.depth] at h2
    have h2' := depAll_iff.mp (Nat.le_of_succ_le_succ h2)
    rw [intsB, Bool.and_eq_true, intsAll_iff, decide_eq_true_eq] at h3
    exact ⟨h3.1, fun x hx => ⟨h1 x hx, h2' x hx, h3.2 x hx⟩⟩
  · rintro ⟨hl, h⟩
    refine ⟨?_, ?_, ?_⟩
    · rw [PyData.canLay0, layAll_iff]
      exact fun x hx => (h x hx).lay
    · rw [PyData.depth]
      exact Nat.succ_le_succ (depAll_iff.mpr fun x hx => (h x hx).dep)
    · rw [intsB, Bool.and_eq_true, intsAll_iff, decide_eq_true_eq]
      exact ⟨hl, fun x hx => (h x hx).num⟩
mutual
theorem ints_mono {N M : Nat} (h : N ≤ M) : ∀ d : PyData, intsB N d = true → intsB M d = true
  | .int i, q => by
    rw [intsB, decide_eq_true_eq] at q ⊢
    omega
  | .list ds, q => by
    rw [intsB, Bool.and_eq_true, decide_eq_true_eq] at q ⊢
    exact ⟨Nat.le_trans q.1 h, ints_monoA h ds q.2⟩
  | .tuple ds, q => by
    rw [intsB, Bool.and_eq_true, decide_eq_true_eq] at q ⊢
    exact ⟨Nat.le_trans q.1 h, ints_monoA h ds q.2⟩
  | .none, _ => by rw [intsB]
  | .bool _, _ => by rw [intsB]
  | .str _, _ => by rw [intsB]
  | .dict _, _ => by rw [intsB]
theorem ints_monoA {N M : Nat} (h : N ≤ M) : ∀ ds : List PyData, intsAll N ds = true → intsAll M ds = true
  | [], _ => by rw [intsAll]
  | d :: ds, q => by
    rw [intsAll, Bool.and_eq_true] at q ⊢
    exact ⟨ints_mono h d q.1, ints_monoA h ds q.2⟩
end
theorem Itm.mono {D N D' N' : Nat} {d : PyData} (h : Itm D N d) (a : D ≤ D') (b : N ≤ N') : Itm D' N' d := ⟨h.lay, Nat.le_trans h.dep a, ints_mono b d h.num⟩
theorem Sm.mono {D W N D' W' N' : Nat} {d : PyData} (h : Sm D W N d) (a : D ≤ D') (w : W ≤ W') (b : N ≤ N') : Sm D' W' N' d := ⟨h.itm.mono a b, Nat.le_trans h.wt w⟩
/-- a test of it -/
def smB (D W N : Nat) (d : PyData) : Bool := PyData.canLay0 d && decide (PyData.depth d ≤ D) && decide (PyData.weight d ≤ W) && intsB N d
theorem sm_of {D W N : Nat} {d : PyData} (h : smB D W N d = true) : Sm D W N d := by
  unfold smB at h
  simp only [Bool.and_eq_true, decide_eq_true_eq] at h
  exact ⟨⟨h.1.1.1, h.1.1.2, h.2⟩, h.1.2⟩
/-! the weight of items -/
def wS (ds : List PyData) : Nat := (ds.map fun d => PyData.weight d + 1).sum
theorem wS_eq : ∀ ds : List PyData, PyData.weightAll ds = wS ds
  | [] => rfl
  | d :: ds => by
    rw [PyData.weightAll, wS_eq ds]
    show _ = ((PyData.weight d + 1) :: (ds.map fun d => PyData.weight d + 1)).sum
    rw [List.sum_cons]
    rfl
theorem wt_list (ds : List PyData) : PyData.weight (.list ds) = wS ds := by rw [PyData.weight, wS_eq]
theorem wt_tuple (ds : List PyData) : PyData.weight (.tuple ds) = wS ds := by rw [PyData.weight, wS_eq]
theorem wS_nil : wS [] = 0 := rfl
theorem wS_cons (d : PyData) (ds : List PyData) : wS (d :: ds) = PyData.weight d + 1 + wS ds := by
  show ((PyData.weight d + 1) :: (ds.map fun d => PyData.weight d + 1)).sum = _
  rw [List.sum_cons]
  rfl
theorem wS_app : ∀ (a b : List PyData), wS (a ++ b) = wS a + wS b
  | [], b => by rw [List.nil_append, wS_nil, Nat.zero_add]
  | d :: a, b => by
    rw [List.cons_append, wS_cons, wS_cons, wS_app a b]
    omega
theorem wS_rev : ∀ a : List PyData, wS a.reverse = wS a
  | [] => rfl
  | d :: a => by
    rw [List.reverse_cons, wS_app, wS_rev a, wS_cons, wS_cons, wS_nil]
    omega
theorem wS_td (a : List PyData) (n : Nat) : wS (a.take n) + wS (a.drop n) = wS a := by
  rw [← wS_app, List.take_append_drop]
theorem wS_len : ∀ a : List PyData, a.length ≤ wS a
  | [] => Nat.le_refl _
  | d :: a => by
    rw [wS_cons, List.length_cons]
    have := wS_len a
    omega
theorem wS_erase : ∀ (a : List PyData) (n : Nat), wS (a.eraseIdx n) ≤ wS a
  | [], _ => Nat.le_refl _
  | d :: a, 0 => by
    rw [List.eraseIdx_cons_zero, wS_cons]
    omega
  | d :: a, n + 1 => by
    rw [List.eraseIdx_cons_succ, wS_cons, wS_cons]
    have := wS_erase a n
    omega
theorem wS_set : ∀ (a : List PyData) (n : Nat) (x y : PyData), a[n]? = some x → wS (a.set n y) + PyData.weight x = wS a + PyData.weight y
  | [], _, _, _, h => by simp at h
  | d :: a, 0, x, y, h => by
    have e : d = x := Option.some.inj h
    rw [List.set_cons_zero, wS_cons, wS_cons, e]
    omega
  | d :: a, n + 1, x, y, h => by
    have ih := wS_set a n x y (by simpa using h)
    rw [List.set_cons_succ, wS_cons, wS_cons]
    omega
theorem wS_mem : ∀ {a : List PyData} {n : Nat} {x : PyData}, a[n]? = some x → PyData.weight x + 1 ≤ wS a
  | [], _, _, h => by simp at h
  | d :: a, 0, x, h => by
    have e : d = x := Option.some.inj h
    rw [wS_cons, e]
    omega
  | d :: a, n + 1, x, h => by
    have ih := wS_mem (a := a) (n := n) (x := x) (by simpa using h)
    rw [wS_cons]
    omega
theorem mem_erase {a : List PyData} {n : Nat} {x : PyData} (h : x ∈ a.eraseIdx n) : x ∈ a := List.mem_of_mem_eraseIdx h
theorem mem_set {a : List PyData} {n : Nat} {x y : PyData} (h : x ∈ a.set n y) : x ∈ a ∨ x = y := List.mem_or_eq_of_mem_set h
/-! texts of ints -/
theorem lay_int (i : Int) : PyData.canLay0 (.str (toString i : String)) = true := by
  rw [PyData.canLay0]
  unfold PyData.strOk
  rw [Array.all_eq_true]
  intro j hj
  have hm : ((toString i : String) : Str).cps[j] ∈ ((toString i : String) : Str).cps.toList := by simp
  have hf := PyProof.Rows.int_text_free' (((toString i : String) : Str).cps[j])
  refine decide_eq_true ?_
  by_cases h : ((toString i : String) : Str).cps[j] < 1114112
  · exact h
  · exact absurd hm (hf ⟨by omega, Or.inr (by omega)⟩ i)
theorem odd_const : ∀ d ∈ oddA ++ oddB, Sm 2 30 3 d := by
  have h : (oddA ++ oddB).all (smB 2 30 3) = true := by decide +kernel
  rw [List.all_eq_true] at h
  exact fun d hd => sm_of (h d hd)
theorem sm_int {i : Int} {N : Nat} (h : i.natAbs ≤ N) (hN : N ≤ 100000) : Sm 0 30 N (.int i) := by
  refine ⟨⟨by rw [PyData.canLay0], by rw [PyData.depth]; exact Nat.le_refl _, by rw [intsB]; exact decide_eq_true h⟩, ?_⟩
  rw [PyData.weight]
  split
  · exact Nat.zero_le _
  · have l : i.natAbs.log2 < 20 := by
      by_cases h0 : i.natAbs = 0
      · rw [h0]
        decide
      · exact (Nat.log2_lt h0).mpr (Nat.lt_of_le_of_lt (Nat.le_trans h hN) (by decide))
    omega
theorem sm_strI {i : Int} {N : Nat} (h : i.natAbs ≤ N) (hN : N ≤ 100000) : Sm 0 30 N (.str (toString i : String)) := by
  refine ⟨⟨lay_int i, by rw [PyData.depth]; exact Nat.le_refl _, by rw [intsB]⟩, ?_⟩
  rw [PyData.weight]
  show (Str.ofString (toString i)).length ≤ 30
  by_cases h0 : 0 ≤ i
  · have l := PyProof.Rows.toString_length_le (v := i) h0 (k := 6) (by decide) (by omega)
    omega
  · rw [PyProof.Rows.len_text_neg (by omega)]
    have l := PyProof.Rows.toString_length_le (v := 0 - i) (by omega) (k := 6) (by decide) (by omega)
    omega
theorem odd_num {D W N : Nat} {z : Int} {v : V} {d : PyData} (hz : z.natAbs ≤ N) (hN : N + 1 ≤ 100000) (hv : Sm 0 30 (N + 1) (.str (strV v))) : ∀ x ∈ oddN z v d, Sm (D + 2) (W + 30) (N + 1) x := by
  intro x hx
  have go : ∀ {y : PyData}, Sm 0 30 (N + 1) y → Sm (D + 2) (W + 30) (N + 1) y := fun h => h.mono (by omega) (by omega) (Nat.le_refl _)
  unfold oddN at hx
  simp only [List.mem_cons, List.not_mem_nil, or_false] at hx
  rcases hx with rfl | rfl | rfl | rfl | rfl
  · exact go (sm_int (by omega) hN)
  · exact go (sm_int (by omega) hN)
  · exact go (sm_int (by omega) hN)
  · exact go hv
  · exact go ⟨⟨by rw [PyData.canLay0], by rw [PyData.depth]; exact Nat.le_refl _, by rw [intsB]⟩, by rw [PyData.weight]; exact Nat.zero_le _⟩
theorem odd_seq {D W N : Nat} {ds : List PyData} (hl : ds.length ≤ N) (hi : ∀ x ∈ ds, Itm D N x) (hw : wS ds ≤ W) {mk : List PyData → PyData} (hm : mk = .list ∨ mk = .tuple) : ∀ x ∈ oddS mk ds, Sm (D + 1) W N x := by
  intro x hx
  have mkd : ∀ es : List PyData, es.length ≤ N → (∀ y ∈ es, Itm D N y) → wS es ≤ W → Sm (D + 1) W N (mk es) := fun es h0 h1 h2 => by
    rcases hm with rfl | rfl
    · exact ⟨itm_list.mpr ⟨h0, h1⟩, by rw [wt_list]; exact h2⟩
    · exact ⟨itm_tuple.mpr ⟨h0, h1⟩, by rw [wt_tuple]; exact h2⟩
  unfold oddS at hx
  simp only [List.mem_cons, List.not_mem_nil, or_false] at hx
  rcases hx with rfl | rfl | rfl | rfl | rfl
  · exact ⟨itm_list.mpr ⟨hl, hi⟩, by rw [wt_list]; exact hw⟩
  · exact ⟨itm_tuple.mpr ⟨hl, hi⟩, by rw [wt_tuple]; exact hw⟩
  · exact mkd _ (by rw [List.length_reverse]; exact hl) (fun y hy => hi y (List.mem_reverse.mp hy)) (by rw [wS_rev]; exact hw)
  · exact mkd _ (by rw [List.length_drop]; omega) (fun y hy => hi y (List.mem_of_mem_drop hy)) (by have := wS_td ds 1; omega)
  · refine mkd _ (by rw [List.length_dropLast]; omega) (fun y hy => hi y (List.dropLast_subset _ hy)) ?_
    rw [List.dropLast_eq_take]
    have := wS_td ds (ds.length - 1)
    omega
theorem itm_pred {D N : Nat} {ds : List PyData} (h : Itm D N (.list ds) ∨ Itm D N (.tuple ds)) : ∃ D', D = D' + 1 ∧ ds.length ≤ N ∧ ∀ x ∈ ds, Itm D' N x := by
  cases D with
  | zero =>
    rcases h with h | h
    · have := h.dep
      rw [PyData.depth] at this
      omega
    · have := h.dep
      rw [PyData.depth] at this
      omega
  | succ D' =>
    refine ⟨D', rfl, ?_⟩
    rcases h with h | h
    · exact itm_list.mp h
    · exact itm_tuple.mp h
theorem odd_sm {D W N : Nat} {d : PyData} (h : Sm D W N d) (h3 : 3 ≤ N) (hN : N + 1 ≤ 100000) : ∀ x ∈ oddL d, Sm (D + 2) (W + 30) (N + 1) x := by
  have base : ∀ x ∈ oddA ++ oddB, Sm (D + 2) (W + 30) (N + 1) x := fun x hx => (odd_const x hx).mono (by omega) (by omega) (by omega)
  intro x hx
  cases d with
  | none => exact base x hx
  | str z => exact base x hx
  | dict kvs => exact base x hx
  | int i =>
    have hi : i.natAbs ≤ N := by
      have := h.itm.num
      rw [intsB] at this
      exact of_decide_eq_true this
    have no := odd_num (D := D) (W := W) (v := .int i) (d := .int i) hi hN (sm_strI (by omega) hN)
    rcases List.mem_append.mp (show x ∈ (oddA ++ oddB) ++ (oddN i (.int i) (.int i) ++ oddN i (.int i) (.int i)) from hx) with q | q
    · exact base x q
    · rcases List.mem_append.mp q with q | q
      · exact no x q
      · exact no x q
  | bool b =>
    have no := odd_num (D := D) (W := W) (z := if b = true then 1 else 0) (v := .bl b) (d := .bool b) (by split <;> omega) hN ((sm_of (d := .str (strV (.bl b))) (D := 0) (W := 30) (N := 0) (by cases b <;> decide +kernel)).mono (Nat.le_refl _) (Nat.le_refl _) (Nat.zero_le _))
    rcases List.mem_append.mp (show x ∈ (oddA ++ oddB) ++ (oddN (if b = true then 1 else 0) (.bl b) (.bool b) ++ oddN (if b = true then 1 else 0) (.bl b) (.bool b)) from hx) with q | q
    · exact base x q
    · rcases List.mem_append.mp q with q | q
      · exact no x q
      · exact no x q
  | list ds =>
    obtain ⟨D', rfl, hl, hi⟩ := itm_pred (.inl h.itm)
    have hw := h.wt
    rw [wt_list] at hw
    have no := odd_seq hl hi hw (mk := .list) (.inl rfl)
    rcases List.mem_append.mp (show x ∈ (oddA ++ oddB) ++ (oddS .list ds ++ oddS .list ds) from hx) with q | q
    · exact base x q
    · rcases List.mem_append.mp q with q | q
      · exact (no x q).mono (by omega) (by omega) (by omega)
      · exact (no x q).mono (by omega) (by omega) (by omega)
  | tuple ds =>
    obtain ⟨D', rfl, hl, hi⟩ := itm_pred (.inr h.itm)
    have hw := h.wt
    rw [wt_tuple] at hw
    have no := odd_seq hl hi hw (mk := .tuple) (.inr rfl)
    rcases List.mem_append.mp (show x ∈ (oddA ++ oddB) ++ (oddS .tuple ds ++ oddS .tuple ds) from hx) with q | q
    · exact base x q
    · rcases List.mem_append.mp q with q | q
      · exact (no x q).mono (by omega) (by omega) (by omega)
      · exact (no x q).mono (by omega) (by omega) (by omega)
/-- what repr asks -/
theorem sm_show {D W N : Nat} {d : PyData} (h : Sm D W N d) (hD : D ≤ 60) (hW : W ≤ 1048576) (hN : N ≤ 100000) : SeqAt.shaped d = true ∧ PyData.depth d ≤ 60 := by
  have h1 := h.itm.lay
  have h2 := h.itm.dep
  unfold SeqAt.shaped
  rw [h1, Bool.true_and]
  exact ⟨decide_eq_true (by omega), by omega⟩
end NS
namespace NS
open PySem L2
theorem seqIx {a n : Nat} (h : a < n) : seqIndex? (a : Int) n = some a := by
  unfold seqIndex?
  simp
  omega
theorem ixn {a n : Nat} (h : a < n) : ixN n (a : Int) = some a := by
  unfold ixN
  rw [if_pos (by omega), if_pos (by omega)]
  simp
theorem cut_two {xs : List V} {a : Nat} (h : a < xs.length) : cutV xs (some (a : Int)) (some ((a : Int) + 2)) = (xs.drop a).take (min (a + 2) xs.length - a) := by
  unfold cutV
  have e : ((a : Int) + 2) = ((a + 2 : Nat) : Int) := by omega
  rw [e, HT.sIx_nat, HT.sIx_nat, Nat.min_eq_left (by omega : a ≤ xs.length)]
end NS
namespace NS
open PySem L2
theorem short_int {i : Int} (h : i.natAbs ≤ 100000) : (PyData.shown (.int i)).length ≤ 13 := by
  rw [PyData.shown]
  by_cases h0 : 0 ≤ i
  · have l := PyProof.Rows.toString_length_le (v := i) h0 (k := 6) (by decide) (by omega)
    omega
  · rw [PyProof.Rows.len_text_neg (by omega)]
    have l := PyProof.Rows.toString_length_le (v := 0 - i) (by omega) (k := 6) (by decide) (by omega)
    omega
mutual
theorem short_of {N : Nat} (hN : N ≤ 100000) : ∀ d : PyData, intsB N d = true → PyData.canLay0 d = true → PyData.intsShort 13 d = true ∧ PyData.showable d = true ∧ PyData.hasDict d = false
  | .int i, h, _ => by
    rw [intsB, decide_eq_true_eq] at h
    refine ⟨by rw [PyData.intsShort]; exact decide_eq_true (short_int (by omega)), ?_, by rw [PyData.hasDict]⟩
    rw [PyData.showable]
    refine decide_eq_true ?_
    by_cases h0 : i.natAbs = 0
    · rw [h0]
      decide
    · exact Nat.lt_of_lt_of_le ((Nat.log2_lt h0).mpr (Nat.lt_of_le_of_lt (Nat.le_trans h hN) (by decide : 100000 < 2 ^ 20))) (by decide)
  | .none, _, _ => ⟨by rw [PyData.intsShort], by rw [PyData.showable], by rw [PyData.hasDict]⟩
  | .bool _, _, _ => ⟨by rw [PyData.intsShort], by rw [PyData.showable], by rw [PyData.hasDict]⟩
  | .str _, _, _ => ⟨by rw [PyData.intsShort], by rw [PyData.showable], by rw [PyData.hasDict]⟩
  | .list ds, h, l => by
    rw [intsB, Bool.and_eq_true] at h
    rw [PyData.canLay0] at l
    rw [PyData.intsShort, PyData.showable, PyData.hasDict]
    exact short_ofA hN ds h.2 l
  | .tuple ds, h, l => by
    rw [intsB, Bool.and_eq_true] at h
    rw [PyData.canLay0] at l
    rw [PyData.intsShort, PyData.showable, PyData.hasDict]
    exact short_ofA hN ds h.2 l
  | .dict kvs, _, l => by
    rw [PyData.canLay0] at l
    cases l
theorem short_ofA {N : Nat} (hN : N ≤ 100000) : ∀ ds : List PyData, intsAll N ds = true → PyData.canLayAll0 ds = true → PyData.intsShortAll 13 ds = true ∧ PyData.showableAll ds = true ∧ PyData.hasDictAll ds = false
  | [], _, _ => ⟨by rw [PyData.intsShortAll], by rw [PyData.showableAll], by rw [PyData.hasDictAll]⟩
  | d :: ds, h, l => by
    rw [intsAll, Bool.and_eq_true] at h
    rw [PyData.canLayAll0, Bool.and_eq_true] at l
    obtain ⟨a1, a2, a3⟩ := short_of hN d h.1 l.1
    obtain ⟨b1, b2, b3⟩ := short_ofA hN ds h.2 l.2
    rw [PyData.intsShortAll, PyData.showableAll, PyData.hasDictAll, a1, a2, a3, b1, b2, b3]
    exact ⟨rfl, rfl, rfl⟩
end
theorem sm_repr {D W N : Nat} {d : PyData} (h : Sm D W N d) (hD : D ≤ 60) (hW : W ≤ 1048576) (hN : N ≤ 100000) : PyData.showable d = true ∧ d.hasDict = false ∧ d.depth ≤ 60 ∧ d.shown.length ≤ sizeLine := by
  obtain ⟨a1, a2, a3⟩ := short_of hN d h.itm.num h.itm.lay
  have hd := h.itm.dep
  have hw := h.wt
  have lay : PyData.layable0 d = true := by
    unfold PyData.layable0
    rw [h.itm.lay, decide_eq_true (by omega : PyData.depth d ≤ 64), decide_eq_true (Nat.le_trans hw (Nat.le_trans hW (by decide)) : PyData.weight d ≤ 2 ^ 20)]
    rfl
  exact ⟨a2, a3, by omega, Nat.le_trans (PyProof.Rows.shown_le13 lay a1) (by decide)⟩
end NS

/-! ### rows that are filled -/
namespace NS
open PySem L2
def oV : Option Int → V
  | none => .non
  | some h => .int h
/-- the free cells below i -/
def frees (sh : List (Option Int)) (i : Nat) : List Nat := (List.range i).filter fun x => (sh.getD x (some 0)).isNone
theorem frees_succ (sh : List (Option Int)) (i : Nat) : frees sh (i + 1) = frees sh i ++ (if (sh.getD i (some 0)).isNone = true then [i] else []) := by
  unfold frees
  rw [List.range_succ, List.filter_append]
  congr 1
  rw [List.filter_cons, List.filter_nil]
theorem frees_len (sh : List (Option Int)) (i : Nat) : (frees sh i).length ≤ i := by
  unfold frees
  refine Nat.le_trans (List.length_filter_le _ _) ?_
  rw [List.length_range]
  exact Nat.le_refl _
theorem mem_frees {sh : List (Option Int)} {i x : Nat} : x ∈ frees sh i ↔ x < i ∧ (sh.getD x (some 0)) = none := by
  unfold frees
  rw [List.mem_filter, List.mem_range, Option.isNone_iff_eq_none]
theorem getD_none {sh : List (Option Int)} {x : Nat} : sh.getD x (some 0) = none ↔ sh[x]? = some none := by
  rw [List.getD_eq_getElem?_getD]
  cases h : sh[x]? with
  | none => exact ⟨(fun z => nomatch z), (fun z => nomatch z)⟩
  | some o => exact ⟨fun z => congrArg some z, fun z => Option.some.inj z⟩
/-- the free cell that is nearest -/
structure Spot (n : Nat) (sh : List (Option Int)) (h : Int) (c : Nat) : Prop where
  lt : c < n
  free : sh[c]? = some none
  best : ∀ x : Nat, x < n → sh[x]? = some none → near h (c : Int) (x : Int) = false
inductive Fill (n : Nat) : List Int → List (Option Int) → List Int → Prop
  | nil : Fill n [] (List.replicate n none) []
  | snoc {hs : List Int} {sh : List (Option Int)} {qs : List Int} {h : Int} {c : Nat} : Fill n hs sh qs → Spot n sh h c → Fill n (hs ++ [h]) (sh.set c (some h)) (qs ++ [(c : Int)])
theorem Fill.len {n : Nat} {hs : List Int} {sh : List (Option Int)} {qs : List Int} (f : Fill n hs sh qs) : sh.length = n := by
  induction f with
  | nil => exact List.length_replicate
  | snoc _ _ ih => rw [List.length_set]; exact ih
def fr (sh : List (Option Int)) : Nat := (sh.filter Option.isNone).length
theorem fr_cons (o : Option Int) (sh : List (Option Int)) : fr (o :: sh) = (if o.isNone = true then 1 else 0) + fr sh := by
  unfold fr
  rw [List.filter_cons]
  split
  · rw [List.length_cons]
    omega
  · omega
theorem fr_set : ∀ {sh : List (Option Int)} {c : Nat} {h : Int}, sh[c]? = some none → fr (sh.set c (some h)) + 1 = fr sh
  | [], _, _, q => by simp at q
  | o :: sh, 0, h, q => by
    have e : o = none := Option.some.inj q
    subst e
    rw [List.set_cons_zero, fr_cons, fr_cons]
    show (0 + fr sh) + 1 = 1 + fr sh
    omega
  | o :: sh, c + 1, h, q => by
    have ih := fr_set (sh := sh) (c := c) (h := h) (by simpa using q)
    rw [List.set_cons_succ, fr_cons, fr_cons]
    omega
theorem fr_rep (n : Nat) : fr (List.replicate n none) = n := by
  induction n with
  | zero => rfl
  | succ n ih =>
    rw [List.replicate_succ, fr_cons, ih]
    show 1 + n = n + 1
    omega
theorem Fill.free {n : Nat} {hs : List Int} {sh : List (Option Int)} {qs : List Int} (f : Fill n hs sh qs) : fr sh + hs.length = n := by
  induction f with
  | nil => rw [fr_rep]; rfl
  | @snoc hs sh qs h c _ sp ih =>
    have e := fr_set (h := h) sp.free
    rw [List.length_append, List.length_singleton]
    omega
theorem fr_pos : ∀ {sh : List (Option Int)}, 0 < fr sh → ∃ c, c < sh.length ∧ sh[c]? = some none
  | [], h => absurd h (by decide)
  | none :: sh, _ => ⟨0, Nat.succ_pos _, rfl⟩
  | some z :: sh, h => by
    rw [fr_cons] at h
    obtain ⟨c, h1, h2⟩ := fr_pos (sh := sh) (by
      have e : (if (some z : Option Int).isNone = true then 1 else 0) = 0 := rfl
      omega)
    exact ⟨c + 1, Nat.succ_lt_succ h1, by simpa using h2⟩
theorem Fill.ent {n : Nat} {hs : List Int} {sh : List (Option Int)} {qs : List Int} (f : Fill n hs sh qs) : ∀ z : Int, some z ∈ sh → z ∈ hs := by
  induction f with
  | nil =>
    intro z hz
    have := List.eq_of_mem_replicate hz
    cases this
  | snoc _ _ ih =>
    intro z hz
    rcases List.mem_or_eq_of_mem_set hz with hz | hz
    · exact List.mem_append_left _ (ih z hz)
    · cases hz
      exact List.mem_append_right _ (List.mem_singleton.mpr rfl)
/-- some wishes are veiled -/
structure Veil (xs ys : List V) : Prop where
  len : ys.length = xs.length
  at_ : ∀ i : Nat, ys[i]? = xs[i]? ∨ (ys[i]? = some (.str "?") ∧ ∃ v, xs[i]? = some v ∧ v ≠ .non)
/-- an entry of a table of n cells -/
def TabV (n : Nat) (v : V) : Prop := v = .non ∨ v = .str "?" ∨ ∃ i : Nat, v = .int (i : Int) ∧ i < n
end NS
namespace NS
open PySem L2
theorem oV_isN (o : Option Int) : decide (oV o = V.non) = o.isNone := by
  cases o with
  | none => rfl
  | some h => exact decide_eq_false fun z => nomatch z
theorem oV_get {sh : List (Option Int)} {j : Nat} (h : j < sh.length) : (sh.map oV)[j]? = some (oV (sh.getD j (some 0))) := by
  rw [List.getElem?_map, List.getD_eq_getElem?_getD, List.getElem?_eq_getElem h]
  rfl
theorem spot_of {n : Nat} {sh : List (Option Int)} {h : Int} {i x : Nat} (hx : (frees sh n)[i]? = some x) (hb : ∀ ms ∈ (frees sh n).map (fun (x : Nat) => [dist (x : Int) h, (x : Int)]), HT.lexLt ms [dist (x : Int) h, (x : Int)] = false) : Spot n sh h x := by
  have hm := mem_frees.mp (List.mem_of_getElem? hx)
  refine ⟨hm.1, getD_none.mp hm.2, fun y hy hf => ?_⟩
  exact hb _ (List.mem_map.mpr ⟨y, mem_frees.mpr ⟨hy, getD_none.mpr hf⟩, rfl⟩)
theorem take_snoc {hs : List Int} {i : Nat} (h : i < hs.length) : hs.take (i + 1) = hs.take i ++ [hs[i]] := by
  rw [List.take_add_one, List.getElem?_eq_getElem h]
  rfl
end NS
namespace NS
open PySem L2
theorem ixn' {a n : Nat} (h : a < n) : ixN n (a : Int) = some a := by
  unfold ixN
  rw [if_pos (by omega), if_pos (by omega)]
  simp
theorem Fill.qlen {n : Nat} {hs : List Int} {sh : List (Option Int)} {qs : List Int} (f : Fill n hs sh qs) : qs.length = hs.length := by
  induction f with
  | nil => rfl
  | snoc _ _ ih => rw [List.length_append, List.length_append, ih]; rfl
theorem veil_tab {n : Nat} {hs : List Int} {sh : List (Option Int)} {qs : List Int} {ys : List V} (f : Fill n hs sh qs) (hr : ∀ h ∈ hs, 0 ≤ h ∧ h < (n : Int)) (v : Veil (sh.map oV) ys) : ys.length = n ∧ ∀ y ∈ ys, TabV n y := by
  have hl := v.len
  rw [List.length_map, f.len] at hl
  refine ⟨hl, fun y hy => ?_⟩
  obtain ⟨i, hi, rfl⟩ := List.getElem_of_mem hy
  have gi : ys[i]? = some ys[i] := List.getElem?_eq_getElem hi
  rcases v.at_ i with q | ⟨q, _⟩
  · rw [gi, List.getElem?_map] at q
    cases ho : sh[i]? with
    | none => rw [ho] at q; cases q
    | some o =>
      rw [ho] at q
      have e : ys[i] = oV o := Option.some.inj q
      rw [e]
      cases o with
      | none => exact .inl rfl
      | some z =>
        have := hr z (f.ent z (List.mem_of_getElem? ho))
        exact .inr (.inr ⟨z.toNat, by show V.int z = V.int ((z.toNat : Nat) : Int); congr 1; omega, by omega⟩)
  · rw [gi] at q
    exact .inr (.inl (Option.some.inj q))
end NS

/-! ### enumerate of a tuple -/
namespace NS
open PySem PySem.Spec PyProof.Rows L2
open AutoSeq1 (wpAny_loadPart')
section
variable {P : Program} {w : World} {A : Around} {E : Value → Shared → Prop} {s : Shared}
/-- the enumerate over the iterator at j, its number n; what it gave last -/
abbrev EnO (h : Heap) (c j : Addr) (n : Int) (v : Value) : Prop := IsEnum h c j n v
theorem en_new (t : Addr) (its : Array Value) (m : Nat) (dc : Option Addr) (sl : Array (Option Value)) :
    Meets (Builtin.«enumerate.__new__» ⟨[.type "enumerate", .ref t], []⟩) (fun _ R s => s.heap.get? t = some { cls := .type "tuple", dict := dc, data := .seq its m, slots := sl } ∧
      R (.ok (.ret (.ref (s.heap.push { cls := .type "tuple_iterator", data := .fields #[.ref t, .int 0 0] }).objs.size)))
        { s with heap := (s.heap.push { cls := .type "tuple_iterator", data := .fields #[.ref t, .int 0 0] }).push { cls := .type "enumerate", data := .fields #[.none, .bool false, .ref s.heap.objs.size, rawInt 0, .none, .none] } }) :=
  .of_wp fun P w A R s h => by
    obtain ⟨hp, g, dr, tk, os⟩ := s
    obtain ⟨ht, h⟩ := h
    have hs := sub_enumerate
    have hT : Heap.IsTuple (Shared.heap ⟨hp, g, dr, tk, os⟩) t its := ⟨_, ht, rfl, m, rfl⟩
    wp_walk using wpAny_loadPart' ht
    refine wpAny_stack_any fun st => wpAny_pure ?_
    split
    · rename_i c _ _ _ _ _
      cases (c == Value.type "enumerate") <;> (wp_walk using wpAny_loadPart' ht, wpAny_pyIter_tuple hT; exact ⟨_, rfl, h⟩)
    · (wp_walk using wpAny_loadPart' ht, wpAny_pyIter_tuple hT; exact ⟨_, rfl, h⟩)
theorem en_make {t : Addr} {its : Array Value} {Q : Value → Shared → Prop} (hT : s.heap.IsTuple t its)
    (h : ∀ h1, EnO h1 (s.heap.objs.size + 1) s.heap.objs.size 0 .none → h1.IsTupleIter s.heap.objs.size t 0 → (∀ b o, s.heap.get? b = some o → h1.get? b = some o) → Q (.ref (s.heap.objs.size + 1)) { s with heap := h1 }) :
    wpAny (model P w) A (call (.type "enumerate") [.ref t]) Q E s := by
  obtain ⟨⟨c, dc, dt, sl⟩, ht, hc, m, hd⟩ := hT
  cases (show c = .type "tuple" from hc)
  cases (show dt = .seq its m from hd)
  have z1 : (s.heap.push { cls := .type "tuple_iterator", data := .fields #[.ref t, .int 0 0] }).objs.size = s.heap.objs.size + 1 := Heap.size_push ..
  refine callType_new F.called_enumerate (by decide) (F.typeCall_enumerate_1 _) (F.newCall_enumerate_1 _) (fun o => F.args_object_init_2 o _) F.entry_enumerate_new (en_new t its m dc sl) ⟨ht, ?_⟩
  show _ ∧ _
  have hE : EnO ((s.heap.push { cls := .type "tuple_iterator", data := .fields #[.ref t, .int 0 0] }).push { cls := .type "enumerate", data := .fields #[.none, .bool false, .ref s.heap.objs.size, rawInt 0, .none, .none] }) (s.heap.objs.size + 1) s.heap.objs.size 0 .none := by
    rw [← z1]
    exact Heap.get?_push_size (s.heap.push { cls := .type "tuple_iterator", data := .fields #[.ref t, .int 0 0] }) (o := { cls := .type "enumerate", data := .fields #[.none, .bool false, .ref s.heap.objs.size, rawInt 0, .none, .none] }) rfl
  rw [z1]
  exact ⟨⟨_, hE, rfl⟩, h _ hE ⟨_, Heap.get?_push_of_some _ (Heap.get?_push_size _ rfl), rfl, rfl⟩ fun b o z => Heap.get?_push_of_some _ (Heap.get?_push_of_some _ z)⟩
/-- one more, whatever the iterator within is -/
theorem en_step {c j : Addr} {i : Nat} {x v0 : Value} {φ : Obj → Prop} {Q : Value → Shared → Prop} (he : EnO s.heap c j i v0) (hn : c ≠ j)
    (inner : ∀ Q1 : Value → Shared → Prop, (∀ h1, (∃ o, h1.get? j = some o ∧ φ o) → Heap.SameBut j s.heap h1 → Q1 x { s with heap := h1 }) → wpAny (model P w) A (Builtin.SmallTypes.nextOf (.ref j)) Q1 E s)
    (hQ : ∀ h1, IsEnumOut h1 c j ((i : Int) + 1) x s.heap.objs.size → (∃ o, h1.get? j = some o ∧ φ o) → h1.get? s.heap.objs.size = some { cls := .type "tuple", data := .seq #[.int i s.toks, x] } →
      (∀ b o, b ≠ c → b ≠ j → s.heap.get? b = some o → h1.get? b = some o) → Q (.ref s.heap.objs.size) { s with heap := h1, toks := s.toks + 1 }) :
    wpAny (model P w) A (Builtin.«enumerate.__next__» ⟨[.ref c], []⟩) (fun fin s' => ∃ v, fin = .done (.ret v) ∧ Q v s') E s := by
  obtain ⟨hp, g, dr, tk, os⟩ := s
  show wpAny _ _ (field (.ref c) 2 >>= _) _ _ _
  refine wpAny_bind (wpAny_field he rfl (x := .ref j) rfl (wpAny_bind (inner _ fun h1 gj1 s1 => ?_)))
  obtain ⟨oj, gj1, fj⟩ := gj1
  replace s1 : Heap.SameBut j hp h1 := s1
  have e1 : EnO h1 c j i v0 := (s1.2 c hn).trans he
  show wpAny _ _ (field (.ref c) 3 >>= _) _ _ ⟨h1, g, dr, tk, os⟩
  refine wpAny_bind (wpAny_field e1 rfl (x := rawInt i) rfl ?_)
  show wpAny _ _ (field (.ref c) 4 >>= _) _ _ ⟨h1, g, dr, tk, os⟩
  refine wpAny_bind (wpAny_field e1 rfl (x := .none) rfl ?_)
  show wpAny _ _ (mkInt i >>= _) _ _ ⟨h1, g, dr, tk, os⟩
  refine wpAny_bind (wpAny_mkInt ?_)
  show wpAny _ _ (setField (.ref c) 3 (rawInt ((i : Int) + 1)) >>= _) _ _ ⟨h1, g, dr, tk + 1, os⟩
  refine wpAny_bind (wpAny_setField_rec e1 (by simp) fun h2 e2 s2 => ?_)
  replace s2 : Heap.SameBut c h1 h2 := s2
  replace e2 : EnO h2 c j ((i : Int) + 1) v0 := e2
  show wpAny _ _ (setField (.ref c) 4 .none >>= _) _ _ ⟨h2, g, dr, tk + 1, os⟩
  refine wpAny_bind (wpAny_setField_rec e2 (by simp) fun h3 e3 s3 => ?_)
  replace s3 : Heap.SameBut c h2 h3 := s3
  replace e3 : EnO h3 c j ((i : Int) + 1) v0 := e3
  show wpAny _ _ (newTuple [.int i tk, x] >>= _) _ _ ⟨h3, g, dr, tk + 1, os⟩
  refine wpAny_bind (wpAny_newTuple ?_)
  have z3 : h3.objs.size = hp.objs.size := by rw [s3.1, s2.1, s1.1]
  have hc : c < hp.objs.size := Heap.lt_size he
  have e4 : EnO (h3.push { cls := .type "tuple", data := .seq #[.int i tk, x] }) c j ((i : Int) + 1) v0 := Heap.get?_push_of_some _ e3
  have t4 : (h3.push { cls := .type "tuple", data := .seq #[.int i tk, x] }).get? hp.objs.size = some { cls := .type "tuple", data := .seq #[.int i tk, x] } := by
    rw [← z3]
    exact Heap.get?_push_size _ rfl
  have j4 : (h3.push { cls := .type "tuple", data := .seq #[.int i tk, x] }).get? j = some oj := Heap.get?_push_of_some _ ((s3.2 j hn.symm).trans ((s2.2 j hn.symm).trans gj1))
  have k4 : ∀ b o, b ≠ c → b ≠ j → hp.get? b = some o → (h3.push { cls := .type "tuple", data := .seq #[.int i tk, x] }).get? b = some o := fun b o n1 n2 z =>
    Heap.get?_push_of_some _ ((s3.2 b n1).trans ((s2.2 b n1).trans ((s1.2 b n2).trans z)))
  generalize h3.push { cls := .type "tuple", data := .seq #[.int i tk, x] } = h4 at e4 t4 j4 k4
  show wpAny _ _ (Builtin.SmallTypes.ownedTupleIsFree (.ref c) >>= _) _ _ ⟨h4, g, dr, tk + 1, os⟩
  rw [z3]
  refine wpAny_bind ?_
  unfold Builtin.SmallTypes.ownedTupleIsFree
  refine wpAny_bind (wpAny_field e4 rfl (x := .none) rfl (wpAny_pure ?_))
  simp only [if_true]
  refine wpAny_bind (wpAny_rule (wpAny_bind (wpAny_field e4 rfl (x := v0) rfl (wpAny_bind (wpAny_setField_rec e4 (by simp) fun h5 e5 s5 => ?_)))))
  replace s5 : Heap.SameBut c h4 h5 := s5
  replace e5 : EnO h5 c j ((i : Int) + 1) x := e5
  show wpAny _ _ (Builtin.SmallTypes.ownedTupleHandOut (.ref c) (.ref hp.objs.size) >>= _) _ _ ⟨h5, g, dr, tk + 1, os⟩
  refine wpAny_bind ?_
  unfold Builtin.SmallTypes.ownedTupleHandOut
  refine wpAny_bind (wpAny_setField_rec e5 (by simp) fun h6 e6 s6 => ?_)
  replace s6 : Heap.SameBut c h5 h6 := s6
  replace e6 : IsEnumOut h6 c j ((i : Int) + 1) x hp.objs.size := e6
  refine wpAny_setField_rec e6 (by simp) fun h7 e7 s7 => ?_
  replace s7 : Heap.SameBut c h6 h7 := s7
  replace e7 : IsEnumOut h7 c j ((i : Int) + 1) x hp.objs.size := e7
  have up : ∀ b o, b ≠ c → h4.get? b = some o → h7.get? b = some o := fun b o n z => (s7.2 b n).trans ((s6.2 b n).trans ((s5.2 b n).trans z))
  exact wpAny_bind (wpAny_letGo (wpAny_pure ⟨_, rfl, hQ h7 e7 ⟨oj, up j _ hn.symm j4, fj⟩ (up _ _ (Nat.ne_of_gt hc) t4) fun b o n1 n2 z => up b o n1 (k4 b o n1 n2 z)⟩))
theorem en_next {c j t : Addr} {i : Nat} {its : Array Value} {x v0 : Value} {Q : Option Value → Shared → Prop} (he : EnO s.heap c j i v0) (hj : s.heap.IsTupleIter j t i) (ht : s.heap.IsTuple t its) (hx : its[i]? = some x) (hn : c ≠ j)
    (hQ : ∀ h1, IsEnumOut h1 c j ((i : Int) + 1) x s.heap.objs.size → h1.IsTupleIter j t (i + 1) → h1.get? s.heap.objs.size = some { cls := .type "tuple", data := .seq #[.int i s.toks, x] } →
      (∀ b o, b ≠ c → b ≠ j → s.heap.get? b = some o → h1.get? b = some o) → Q (some (.ref s.heap.objs.size)) { s with heap := h1, toks := s.toks + 1 }) : wpAny (model P w) A (pyNext (.ref c)) Q E s := by
  have hT : s.TypeIs (.ref c) "enumerate" := ⟨_, he, rfl⟩
  unfold pyNext
  refine wpAny_bind (wpAny_attempt (wpAny_callSpecial?_slot (name := Str.ofString "__next__") hT F.slot_enumerate_next (wpAny_call_entry F.slot_enumerate_next hT F.entry_enumerate_next ?_ (F.args_enumerate_next_1 _))))
  exact en_step (φ := fun o => o.cls = .type "tuple_iterator" ∧ o.data = .fields #[.ref t, .int ((i + 1 : Nat) : Int) 0]) he hn (fun Q1 q1 => RZ.nextOf_tuple_item hj ht hx fun h1 a b => q1 h1 a b) fun h1 a b z k => wpAny_pure (hQ h1 a b z k)
theorem en_end {c j t : Addr} {i : Nat} {its : Array Value} {v0 : Value} {Q : Option Value → Shared → Prop} (hh : A.handled = none) (he : EnO s.heap c j i v0) (hj : s.heap.IsTupleIter j t i) (ht : s.heap.IsTuple t its) (hx : its[i]? = none)
    (hQ : ∀ h1, Heap.ExtBut j s.heap h1 → Q none { s with heap := h1 }) : wpAny (model P w) A (pyNext (.ref c)) Q E s := by
  have hT : s.TypeIs (.ref c) "enumerate" := ⟨_, he, rfl⟩
  unfold pyNext
  refine wpAny_bind (wpAny_attempt (wpAny_callSpecial?_slot (name := Str.ofString "__next__") hT F.slot_enumerate_next (wpAny_call_entry F.slot_enumerate_next hT F.entry_enumerate_next ?_ (F.args_enumerate_next_1 _))))
  show wpAny _ _ (field (.ref c) 2 >>= _) _ _ _
  refine wpAny_bind (wpAny_field he rfl (x := .ref j) rfl (wpAny_bind (RZ.nextOf_tuple_end hh hj ht hx fun h1 x k ⟨o, ho, hc⟩ => ?_)))
  exact wpAny_bind (wpAny_isInstance (T := "StopIteration") (b := true) ⟨o, ho, hc⟩ isSubtype_stop (wpAny_pure (hQ _ k)))
end
/-- the tuple at a, each item in a new pair -/
def ItE (K : PySem.W.Frag) (a : Addr) : It :=
  ⟨fun i H => ∃ (xs : List V) (x : V), SqT K H a xs ∧ xs[i]? = some x, fun i H v H' => ∃ T x, v = .ref T ∧ H T = none ∧ H' = upd H T (.tup [.int (i : Nat), x]) ∧ ∀ xs, SqT K H a xs → xs[i]? = some x, fun i H => ∃ xs : List V, SqT K H a xs ∧ xs.length ≤ i⟩
theorem turn_enT {P : Program} {w : World} {K : PySem.W.Frag} {elts : List Expr} {kk : Nat} {tpos : Pos} (a c j : Addr) :
    Turn P w K (.Tuple elts kk tpos) (ItE K a) [c, j] c (fun i h => (∃ v0, EnO h c j ((i : Nat) : Int) v0) ∧ h.IsTupleIter j a i ∧ c ≠ j) where
  mem := by simp
  obj := fun i h st b hb => by
    obtain ⟨⟨v0, he⟩, ⟨o, ho, hc, hd⟩, _⟩ := st
    rcases (show b = c ∨ b = j by simpa using hb) with rfl | rfl
    · exact ⟨_, he, fun v q => nomatch q⟩
    · exact ⟨o, ho, fun v q => by rw [hd] at q; cases q⟩
  keep := fun i h h' st k => st.elim fun he z => ⟨he.elim fun v0 y => ⟨v0, k c (by simp) _ y⟩, z.1.at fun o y => k j (by simp) o y, z.2⟩
  item := by
    intro X hP hw hK hc i pins s σ H E I hf st hg
    subst hP hw hK
    obtain ⟨⟨v0, he⟩, hj, hn⟩ := st
    obtain ⟨xs, x, hq, hx⟩ := hg
    obtain ⟨its, rv, ht, hz⟩ := I.tuple hq
    obtain ⟨u, hu, ru⟩ := rv.get hx
    have hcl : c < s.heap.objs.size := Heap.lt_size he
    have hjl : j < s.heap.objs.size := hj.elim fun _ z => Heap.lt_size z.1
    refine en_next he hj ht (x := u) (by simpa using hu) hn fun h1 ho hj1 hT hk => ?_
    refine ⟨_, rfl, wpAny_letOwnedTupleGo_enum (s := { s with heap := h1, toks := s.toks + 1 }) ho fun h2 he2 sb => ?_⟩
    have hT2 : h2.get? s.heap.objs.size = some { cls := .type "tuple", data := .seq #[.int i s.toks, u] } := (sb.2 _ (Nat.ne_of_gt hcl)).trans hT
    have I1 : Inv X pins σ (upd H s.heap.objs.size (.tup [.int (i : Nat), x])) { s with heap := h2, toks := s.toks + 1 } :=
      I.turnedNew (ch := [c, j]) (fun b ob hb q => (sb.2 b (fun z => hb (by simp [z]))).trans (hk b ob (fun z => hb (by simp [z])) (fun z => hb (by simp [z])) q)) hf (Nat.le_refl _)
        ⟨by show 2 ≤ sizeLine; decide, [.int i s.toks, u], .cons ⟨_, rfl⟩ (.cons ru .nil), ⟨_, hT2, rfl, _, rfl⟩⟩
    refine ⟨.ref s.heap.objs.size, _, I1, rfl, ⟨_, x, rfl, I.hok.fresh (Nat.le_refl _), rfl, fun ys hy => by rw [I.tuple_inj hy hq]; exact hx⟩, ⟨⟨u, ?_⟩, hj1.at fun o q => (sb.2 j (Ne.symm hn)).trans q, hn⟩, fun b hb => ?_⟩
    · rw [show ((i + 1 : Nat) : Int) = (i : Int) + 1 by omega]
      exact he2
    · have hlt : b < s.heap.objs.size := by
        rcases (show b = c ∨ b = j by simpa using hb) with rfl | rfl
        · exact hcl
        · exact hjl
      rw [upd_ne (Nat.ne_of_lt hlt)]
      exact (hf b hb).1
  done := by
    intro X hP hw hK hc i pins s σ H E I hf st hg
    subst hP hw hK
    obtain ⟨⟨v0, he⟩, hj, hn⟩ := st
    obtain ⟨xs, hq, hx⟩ := hg
    obtain ⟨its, rv, ht, hz⟩ := I.tuple hq
    have hl := rv.length
    obtain ⟨f0, f1, f2, f3, f4, f5⟩ := hf j (by simp)
    exact en_end (I.ok.hd hc) he hj ht (by simp; omega) fun h1 eb => ⟨rfl, I.turned (t' := s.toks) (fun b o hb q => eb b o hb q) f0 f1 f3 f4 f5⟩
  self := fun A i s Q E st h => st.1.elim fun _ he => wpAny_pyIter_enum he h
def iEnT (K : PySem.W.Frag) (ta : TA) : TI := fun σ H R => ta σ H fun vs H1 => ∃ a xs, vs = [.ref a] ∧ SqT K H1 a xs ∧ R (ItE K a) H1
theorem pi_enT {X : Cx} {e : Expr} {ta : TA} {p pos tpos : Pos} {elts : List Expr} {kk : Nat} (hg : Gl X "enumerate") (hm : X.mg "enumerate" = none) (ha : PA X [e] ta) (hs : starEach [e] X.env = [(false, eval e X.env)] := by rfl) :
    PI X (.Tuple elts kk tpos) (.Call (.Name "enumerate" p) [e] [] pos) (iEnT X.K ta) := by
  constructor
  intro pins s σ H R I h
  refine Call_ (ld_blt I hg hm boot_enumerate (PyProof.Rows.callWith_type1 (thn (ha.run pos pins s σ H _ I h) fun us s1 ⟨vs, H1, I1, r1, q1⟩ => ?_) hs rfl))
  obtain ⟨a, xs, rfl, hq, q⟩ := q1
  cases r1 with
  | cons r rr =>
    cases rr
    cases r
    obtain ⟨its, rv, ht, hz⟩ := I1.tuple hq
    refine en_make ht fun h1 he hj hk => wpAny_pyIter_enum he ?_
    have I2 : Inv X pins σ H1 { s1 with heap := h1 } := I1.kept (t' := s1.toks) hk
    refine ⟨s1.heap.objs.size + 1, [s1.heap.objs.size + 1, s1.heap.objs.size], _, _, H1, rfl, I2, turn_enT a (s1.heap.objs.size + 1) s1.heap.objs.size, ⟨⟨.none, he⟩, hj, Nat.succ_ne_self _⟩, fun b hb => ?_, q⟩
    have hle : s1.heap.objs.size ≤ b := by
      rcases (show b = s1.heap.objs.size + 1 ∨ b = s1.heap.objs.size by simpa using hb) with rfl | rfl
      · exact Nat.le_succ _
      · exact Nat.le_refl _
    exact I1.fpOk hle (I1.hok.fresh hle)
/-- a comprehension over it -/
theorem lc_enT {K : PySem.W.Frag} {a : Addr} {xs : List V} {g : TG} {tt : TT} {te : TE} {vs : List Nat} {σ : L2.St} {H1 : Hp} {D : Addr} {Qd : Hp → Prop} (Pv : Nat → Hp → Prop) (h0 : Pv 0 (upd H1 D (.lst []))) (hq : ∀ i H, Pv i H → SqT K H a xs)
    (hs : ∀ (i : Nat) (x : V) (T : Addr) (H : Hp), xs[i]? = some x → Pv i H → H T = none → g (.ref T) (wipe σ vs) (upd H T (.tup [.int (i : Nat), x])) fun σ2 H2 => wipe σ2 vs = wipe σ vs ∧ tt σ2 H2 fun b H3 =>
      if b = true then te σ2 H3 fun y H4 => ∃ acc, H4 D = some (.lst acc) ∧ acc.length < sizeLine ∧ Pv (i + 1) (upd H4 D (.lst (acc ++ [y]))) else Pv (i + 1) H3) (hd : ∀ H, Pv xs.length H → Qd H) :
    ∃ W : Nat → Nat → Hp → Prop, (∃ m, W 0 m (upd H1 D (.lst []))) ∧ ∀ i m H, W i m H →
      ((ItE K a).stop i H ∧ Qd H) ∨ ((ItE K a).go i H ∧ ∃ Nx : Hp → Prop, (∀ H', Nx H' → ∃ m', m' < m ∧ W (i + 1) m' H') ∧ ∀ x H', (ItE K a).yld i H x H' → g x (wipe σ vs) H' fun σ2 H2 => wipe σ2 vs = wipe σ vs ∧ tt σ2 H2 fun b H3 =>
        if b = true then te σ2 H3 fun y H4 => ∃ acc, H4 D = some (.lst acc) ∧ acc.length < sizeLine ∧ Nx (upd H4 D (.lst (acc ++ [y]))) else Nx H3) := by
  refine ⟨fun i m H => m = xs.length - i ∧ i ≤ xs.length ∧ Pv i H, ⟨xs.length, by simp, Nat.zero_le _, h0⟩, ?_⟩
  rintro i m H ⟨rfl, hi, pv⟩
  have qx := hq i H pv
  by_cases hlt : i < xs.length
  · refine .inr ⟨⟨xs, xs[i], qx, by simp [hlt]⟩, Pv (i + 1), fun H' p' => ⟨xs.length - (i + 1), by omega, rfl, hlt, p'⟩, fun x H' y => ?_⟩
    obtain ⟨T, x', rfl, hT, rfl, hx⟩ := y
    exact hs i x' T H (hx xs qx) pv hT
  · have ei : i = xs.length := by omega
    subst ei
    exact .inl ⟨⟨xs, qx, Nat.le_refl _⟩, hd H pv⟩
end NS

/-! ### tables: the taken cells, what their objects want -/
namespace NS
open PySem L2
def isN : V → Bool
  | .non => true
  | _ => false
def fullN (ys : List V) (k : Nat) : List Int := ((List.range k).filter fun i => !isN (ys.getD i .non)).map fun (i : Nat) => (i : Int)
abbrev fullL (ys : List V) : List Int := fullN ys ys.length
theorem fullN_zero (ys : List V) : fullN ys 0 = [] := rfl
theorem fullN_succ (ys : List V) (k : Nat) : fullN ys (k + 1) = fullN ys k ++ (if isN (ys.getD k .non) = true then [] else [(k : Int)]) := by
  unfold fullN
  rw [List.range_succ, List.filter_append, List.map_append]
  congr 1
  cases h : isN (ys.getD k .non)
  · rw [List.filter_cons_of_pos (by rw [h]; rfl)]
    rfl
  · rw [List.filter_cons_of_neg (by rw [h]; decide)]
    rfl
theorem fullN_len (ys : List V) (k : Nat) : (fullN ys k).length ≤ k := by
  unfold fullN
  rw [List.length_map]
  exact Nat.le_trans (List.length_filter_le _ _) (by rw [List.length_range]; exact Nat.le_refl _)
theorem fullL_mem {ys : List V} {z : Int} : z ∈ fullL ys ↔ ∃ i : Nat, z = (i : Int) ∧ i < ys.length ∧ isN (ys.getD i .non) = false := by
  unfold fullL fullN
  constructor
  · intro h
    obtain ⟨i, hi, rfl⟩ := List.mem_map.mp h
    obtain ⟨h1, h2⟩ := List.mem_filter.mp hi
    exact ⟨i, rfl, List.mem_range.mp h1, by simpa using h2⟩
  · rintro ⟨i, rfl, h1, h2⟩
    exact List.mem_map.mpr ⟨i, List.mem_filter.mpr ⟨List.mem_range.mpr h1, by rw [h2]; rfl⟩, rfl⟩
/-- the cells that the object in c wants, by the entry there -/
def wantV (n : Nat) (c : Int) : V → List Int
  | .int w => needsL n c w
  | _ => []
def wantL (ys : List V) (c : Int) : List Int := wantV ys.length c (ys.getD c.toNat .non)
theorem wantV_len (n : Nat) (c : Int) (v : V) : (wantV n c v).length ≤ n := by
  cases v with
  | int w => exact needsL_len n c w
  | _ => exact Nat.zero_le _
theorem isN_dec (x : V) : isN x = decide (x = .non) := by cases x <;> simp [isN]
theorem inV_ints (c : Int) (xs : List Int) : inV (.int c) (xs.map V.int) = decide (c ∈ xs) := by
  unfold inV
  rw [Bool.eq_iff_iff, List.any_eq_true, decide_eq_true_eq]
  constructor
  · rintro ⟨y, hy, he⟩
    obtain ⟨z, hz, rfl⟩ := List.mem_map.mp hy
    have e : z = c := by simpa [eqV] using he
    rw [← e]
    exact hz
  · intro h
    exact ⟨_, List.mem_map.mpr ⟨c, h, rfl⟩, by simp [eqV]⟩
theorem flat_ints (xs : List Int) : (xs.map V.int).all flatV = true := by
  rw [List.all_eq_true]
  intro y hy
  obtain ⟨z, _, rfl⟩ := List.mem_map.mp hy
  rfl
theorem needsL_lt {n : Nat} {c w e : Int} (h : e ∈ needsL n c w) : ∃ j : Nat, e = (j : Int) ∧ j < n := by
  unfold needsL at h
  obtain ⟨j, hj, rfl⟩ := List.mem_map.mp (List.mem_filter.mp h).1
  exact ⟨j, rfl, List.mem_range.mp hj⟩
theorem wantL_lt {ys : List V} {c e : Int} (h : e ∈ wantL ys c) : ∃ j : Nat, e = (j : Int) ∧ j < ys.length := by
  unfold wantL at h
  cases hv : ys.getD c.toNat .non with
  | int w =>
    rw [hv] at h
    exact needsL_lt h
  | _ =>
    rw [hv] at h
    cases h
theorem isInt_ex {d : PyData} (h : isIntD d = true) : ∃ c, d = .int c := by
  cases d with
  | int c => exact ⟨c, rfl⟩
  | _ => cases h
/-- an entry of a taken cell -/
theorem tab_taken {ys : List V} {i : Nat} (tab : ∀ y ∈ ys, TabV ys.length y) (hi : i < ys.length) (h : isN (ys.getD i .non) = false) : ys[i]? = some (.str "?") ∨ ∃ w : Int, ys[i]? = some (.int w) := by
  have g : ys[i]? = some ys[i] := List.getElem?_eq_getElem hi
  have gd : ys.getD i .non = ys[i] := by rw [List.getD_eq_getElem?_getD, g]; rfl
  rw [gd] at h
  rcases tab _ (List.getElem_mem hi) with e | e | ⟨z, e, _⟩
  · rw [e] at h
    cases h
  · exact .inl (by rw [g, e])
  · exact .inr ⟨_, by rw [g, e]⟩
theorem lenD_num {N : Nat} {d : PyData} (h : intsB N d = true) : lenD d ≤ N := by
  cases d with
  | list ds =>
    rw [intsB, Bool.and_eq_true, decide_eq_true_eq] at h
    exact h.1
  | tuple ds =>
    rw [intsB, Bool.and_eq_true, decide_eq_true_eq] at h
    exact h.1
  | _ => exact Nat.zero_le _
/-! rules whose readings do not hang on the block -/
theorem pi_listK {X : Cx} {K : PySem.W.Frag} {tg l : Expr} {tl : TE} (e : X.K = K) (hl : PE X l tl) : PI X tg l (iList K tl) := by
  subst e
  exact pi_list hl
theorem pi_tupK {X : Cx} {K : PySem.W.Frag} {tg l : Expr} {tl : TE} (e : X.K = K) (hl : PE X l tl) : PI X tg l (iTup K tl) := by
  subst e
  exact pi_tup hl
theorem sl_tupAK {X : Cx} {K : PySem.W.Frag} (e : X.K = K) : SlR X (rSlA K) := by
  subst e
  exact sl_tupA
/-- a block within a block -/
theorem relabel_cf (env : Env) (y : Str) : ∀ {ns : List (Str × NameKind)}, ns.lookup y = some .cell ∨ ns.lookup y = some .free →
    (ns.map fun (n, k) => if (k == NameKind.free && env.scope.kind == .function && env.kindOf n == some .cell) then (n, NameKind.cell) else (n, k)).lookup y = some .cell ∨ (ns.map fun (n, k) => if (k == NameKind.free && env.scope.kind == .function && env.kindOf n == some .cell) then (n, NameKind.cell) else (n, k)).lookup y = some .free
  | [], h => by
    rcases h with h | h
    · cases h
    · cases h
  | (n, k) :: r, h => by
    have ih := relabel_cf env y (ns := r)
    rw [List.map_cons]
    cases hy : y == n with
    | true =>
      simp only [List.lookup_cons, hy, Option.some.injEq] at h
      by_cases c : (k == NameKind.free && env.scope.kind == .function && env.kindOf n == some .cell) = true
      · simp [c, List.lookup_cons, hy]
      · simp only [c, List.lookup_cons, hy, Option.some.injEq, Bool.false_eq_true, if_false]
        exact h
    | false =>
      simp only [List.lookup_cons, hy] at h
      by_cases c : (k == NameKind.free && env.scope.kind == .function && env.kindOf n == some .cell) = true
      · simp only [c, List.lookup_cons, hy, if_true]
        exact ih h
      · simp only [c, List.lookup_cons, hy, Bool.false_eq_true, if_false]
        exact ih h
theorem blkOk_sub {X : Cx} {s : Shared} {H : Hp} {sc scope : Scope} {cl : List (Str × Addr)} {C : Addr} {e : Env} {fp : List Addr} {N : List Str} {own : List (Str × Nat)} (h : blkC N sc scope own = true) : BlkOk N (X.blk s H sc (compEnvC sc cl C e) fp).env.scope scope own := by
  have k := blkOk_by h
  exact ⟨k.kind, k.uniq, k.ix, fun y hy hf => relabel_cf e y.1 (k.free y hy hf), k.own⟩
theorem sIx_le {n i : Nat} (h : i ≤ n) (d : Nat) : HT.sIx n d (some (i : Int)) = i := by
  unfold HT.sIx
  simp only
  split <;> omega
theorem cut_to {xs : List V} {i : Nat} (h : i ≤ xs.length) : cutV xs none (some (i : Int)) = xs.take i := by
  unfold cutV
  rw [sIx_le h]
  show (xs.drop 0).take (i - 0) = _
  rw [List.drop_zero, Nat.sub_zero]
/-- an order agrees: by its beginnings -/
def agB (ys : List V) (qs : List Int) (j : Nat) : Bool := (wantL ys (qs.getD j 0)).all fun e => decide (e ∈ qs.take j)
def agreesN (ys : List V) (qs : List Int) (k : Nat) : Bool := ((List.range k).map (agB ys qs)).all id
abbrev agreesL (ys : List V) (qs : List Int) : Bool := agreesN ys qs qs.length
theorem if_then {c : TT} {a b : TS} {D : Ends} {σ : L2.St} {H : Hp} (R : Hp → Prop) (k : ∀ H', R H' → D.nx σ H') (h : ∀ D' : Ends, (∀ H', R H' → D'.nx σ H') → tIfS c a b D' σ H) : tIfS c a b D σ H := h D k
end NS

/-! ### sorted of a tuple of ints -/
namespace NS
open PySem PySem.Spec PyProof.Rows L2
section
variable {prog : Program} {w : World} {A : Around} {E : Value → Shared → Prop} {s : Shared}
theorem gather_tup {t : Addr} {vs : List Value} {Q : List Value → Shared → Prop} (ht : s.heap.IsTuple t vs.toArray)
    (h : Q vs { s with heap := (s.heap.push (seqObj "list" #[] 0)).update s.heap.objs.size (Obj.mapSeq (· ++ vs.toArray)) }) (hz : vs.length ≤ sizeLine) : wpAny (model prog w) A (collect (.ref t)) Q E s := by
  obtain ⟨ob, hob, hcl, m, hdt⟩ := id ht
  have hob2 : (s.heap.push (seqObj "list" #[] 0)).get? t = some ob := Heap.get?_push_of_some _ hob
  have hnew : (s.heap.push (seqObj "list" #[] 0)).get? s.heap.objs.size = some (seqObj "list" #[] 0) := Heap.get?_push_size _ rfl
  unfold collect
  refine wpAny_bind (wpAny_runValue (codeAny_builtin entry_proto_collect' ?_))
  show wpAny _ _ (do again (.builtin "list.__iadd__" ⟨[← newList [], .ref t], []⟩)) _ _ s
  refine wpAny_bind (wpAny_newList (wpAny_pure ⟨Code.quiet_builtin _ (by decide +kernel), codeAny_builtin entry_list_iadd' ?_⟩))
  show wpAny _ _ (Builtin.List.listExtendWith (.ref s.heap.objs.size) (.ref t) (.ref s.heap.objs.size)) _ _ { s with heap := s.heap.push (seqObj "list" #[] 0) }
  unfold Builtin.List.listExtendWith
  refine wpAny_bind (wpAny_typeOf (T := "tuple") ⟨ob, hob2, hcl⟩ ?_)
  have hty : (Value.type "tuple" == Value.type "tuple") = true := by rfl
  rw [if_pos (by rw [hty]; simp)]
  refine wpAny_bind (listItems_at hob2 hdt (wpAny_bind (listItems_at (xs := #[]) (n := 0) hnew rfl ?_)))
  rw [if_neg (by simp)]
  refine wpAny_bind (listUpdate_at (xs := #[]) (n := 0) hnew rfl (wpAny_pure ?_) (Nat.zero_le _) (by show (#[] ++ vs.toArray).size ≤ sizeLine + 1; simp only [Array.size_append, List.size_toArray, List.length_nil]; omega))
  show wpAny (model prog w) A (do
      let o ← load s.heap.objs.size
      match o.data with
      | .seq ys _ => pure ys.toList
      | _ => unsupported "internal:collect") Q E { s with heap := (s.heap.push (seqObj "list" #[] 0)).update s.heap.objs.size (Obj.mapSeq (· ++ vs.toArray)) }
  refine wpAny_bind (wpAny_load (get?_update_seq hnew _) ?_)
  show wpAny _ _ (pure ((#[] : Array Value) ++ vs.toArray).toList) Q E _
  have ev : ((#[] : Array Value) ++ vs.toArray).toList = vs := by simp
  rw [ev]
  exact wpAny_pure h
theorem sorted_tupI {t : Addr} {vs : List Value} {ns : List Int} {Q : Value → Shared → Prop} (ht : s.heap.IsTuple t vs.toArray) (hI : IntsAre vs ns) (h64 : vs.length < 64)
    (h : ∀ (out : Array Value) (ms : List Int), IntsAre out.toList ms → ms.Perm ns → ms.Pairwise (· ≤ ·) → Q (.ref (s.heap.objs.size + 1)) { s with heap := sortedAll s.heap vs out }) :
    wpAny (model prog w) A (call (.builtin "sorted") [.ref t]) Q E s := by
  refine Calls.call_function_entry kind_sorted plain_sorted entry_sorted (args_sorted1 _) ?_
  unfold Builtin.«sorted»
  refine wpAny_bind (m := checkCount "sorted" 1 1 _) (wpAny_pure (wpAny_bind (gather_tup ht (wpAny_bind (wpAny_newList ?_)) (small64 h64))))
  have z1 : ((s.heap.push (seqObj "list" #[] 0)).update s.heap.objs.size (Obj.mapSeq (· ++ vs.toArray))).objs.size = s.heap.objs.size + 1 := by rw [Heap.size_update, size_push']
  have g1 : (((s.heap.push (seqObj "list" #[] 0)).update s.heap.objs.size (Obj.mapSeq (· ++ vs.toArray))).push (seqObj "list" vs.toArray 0)).get? (s.heap.objs.size + 1) = some (seqObj "list" vs.toArray 0) := by
    rw [← z1]
    exact Heap.get?_push_size _ rfl
  show wpAny _ _ _ _ _ { s with heap := ((s.heap.push (seqObj "list" #[] 0)).update s.heap.objs.size (Obj.mapSeq (· ++ vs.toArray))).push (seqObj "list" vs.toArray 0) }
  rw [z1]
  exact wpAny_bind (wpAny_holding (wpAny_call_entry slot_list_sort ⟨_, g1, rfl⟩ entry_list_sort (list_sort_tree g1 hI h64 fun out ms a1 a2 a3 => ⟨_, rfl, wpAny_pure ⟨_, rfl, h out ms a1 a2 a3⟩⟩) (args_list_sort _)))
end
def rSortT (K : PySem.W.Frag) : List V → Hp → VK → Prop := fun vs H Q => ∃ (a : Addr) (ns : List Int), vs = [V.ref a] ∧ SqT K H a (ns.map V.int) ∧ ns.length < 64 ∧
  ∀ (ms : List Int) (p : Addr), ms.Perm ns → ms.Pairwise (· ≤ ·) → H p = none → Q (.ref p) (upd H p (.lst (ms.map V.int)))
theorem cr_sortT {X : Cx} : CallR X (.builtin "sorted") (rSortT X.K) := by
  intro pins s σ H vs us Q I r h
  obtain ⟨a, ns, rfl, hs, h64, q⟩ := h
  obtain ⟨its, rv, ht, _⟩ := I.tuple hs
  rw [Vals.ref1 r]
  have hi := rv.ints
  refine sorted_tupI ht hi (by rw [hi.length]; exact h64) fun out ms h1 h2 h3 => ?_
  obtain ⟨ep, he⟩ := sortedAll_at s.heap its out
  have hn : H (s.heap.objs.size + 1) = none := I.hok.fresh (Nat.le_succ _)
  exact ⟨.ref _, upd H (s.heap.objs.size + 1) (.lst (ms.map V.int)), I.laid (t' := s.toks) (fun _ _ => sortedAll_old) (Nat.le_succ _) ⟨by rw [List.length_map, h2.length_eq]; exact small64 h64, out.toList, ep, vals_of_ints h1, he⟩, rfl, q ms _ h2 h3 hn⟩
theorem cr_sortedK {X : Cx} {K : PySem.W.Frag} (e : X.K = K) : CallR X (.builtin "sorted") (rSorted K) := by subst e; exact cr_sorted
theorem cr_sortTK {X : Cx} {K : PySem.W.Frag} (e : X.K = K) : CallR X (.builtin "sorted") (rSortT K) := by subst e; exact cr_sortT
end NS

/-! ### rows that are lists or tuples -/
namespace NS
open PySem PySem.Spec PyProof.Rows L2
abbrev Sq (K : PySem.W.Frag) (H : Hp) (a : Addr) (xs : List V) : Prop := SqL K H a xs ∨ SqT K H a xs
/-- the object at a is as it was -/
def AtS (a : Addr) (H H' : Hp) : Prop := ∀ o, H a = some o → H' a = some o
theorem ats_same {a : Addr} {H H' : Hp} (e : Same H H') : AtS a H H' := fun o h => e a o h
theorem ats_stay {s a : Addr} {H H' : Hp} (e : Stay s H H') (n : a ≠ s) : AtS a H H' := fun o h => e a o n h
theorem AtS.sqL {K : PySem.W.Frag} {a : Addr} {H H' : Hp} {xs : List V} (e : AtS a H H') (h : SqL K H a xs) : SqL K H' a xs := by
  rcases h with (h | ⟨o, h⟩) | h
  · exact .inl (.inl (e _ h))
  · exact .inl (.inr ⟨o, e _ h⟩)
  · exact .inr h
theorem AtS.sqT {K : PySem.W.Frag} {a : Addr} {H H' : Hp} {xs : List V} (e : AtS a H H') (h : SqT K H a xs) : SqT K H' a xs := by
  rcases h with (h | ⟨o, h⟩) | h
  · exact .inl (.inl (e _ h))
  · exact .inl (.inr ⟨o, e _ h⟩)
  · exact .inr h
theorem Same.sq {K : PySem.W.Frag} {a : Addr} {H H' : Hp} {xs : List V} (e : Same H H') (h : Sq K H a xs) : Sq K H' a xs :=
  h.imp (ats_same e).sqL (ats_same e).sqT
theorem sq_lst {K : PySem.W.Frag} {H : Hp} {a : Addr} {xs : List V} (h : H a = some (.lst xs)) : Sq K H a xs := .inl (sqL h)
theorem sq_tup {K : PySem.W.Frag} {H : Hp} {a : Addr} {xs : List V} (h : H a = some (.tup xs)) : Sq K H a xs := .inr (sqT h)
theorem walk_enT {K : PySem.W.Frag} {a : Addr} {xs : List V} : Walk (ItE K a) xs.length (fun H => SqT K H a xs) (YPair (fun i => some (.int (i : Nat))) (fun i => xs[i]?)) := by
  refine ⟨fun i H hi hG => ⟨xs, xs[i], hG, by simp [hi]⟩, fun H hG => ⟨xs, hG, Nat.le_refl _⟩, fun i H v H' hi hG hy => ?_⟩
  obtain ⟨T, x, e1, e2, e3, e4⟩ := hy
  exact ⟨T, _, x, e1, e2, e3, rfl, e4 xs hG⟩
theorem hu1 {k : Nat} {A : Around} (hr : Room k A) : A.units + 1 < cLine := Nat.lt_of_le_of_lt (by omega) hr.units
section
variable {X : Cx}
def rIxA (K : PySem.W.Frag) : R2 := fun x y H Q => ∃ p xs i v, x = .ref p ∧ y = .int i ∧ Sq K H p xs ∧ atI xs i = some v ∧ Q v H
theorem ix_seq : IxR X (rIxA X.K) := by
  intro e1 e2 pins s σ H x y v u Q I rx ry h hs
  obtain ⟨p, xs, i, z, h1, h2, hq, h3, q⟩ := h
  rcases hq with hq | hq
  · exact ix_list e1 e2 pins s σ H x y v u Q I rx ry ⟨p, xs, i, z, h1, h2, hq, h3, q⟩ hs
  · exact ix_tup e1 e2 pins s σ H x y v u Q I rx ry ⟨p, xs, i, z, h1, h2, hq, h3, q⟩ hs
theorem ix_seqK {K : PySem.W.Frag} (e : X.K = K) : IxR X (rIxA K) := by subst e; exact ix_seq
theorem op_catAK {K : PySem.W.Frag} (e : X.K = K) : OpR X (binaryOp .Add) (rCatA K) := by subst e; exact op_catA
/-- xs[lo:hi]: a row of the same kind -/
def rSlS (K : PySem.W.Frag) : V → Option Int → Option Int → Hp → VK → Prop := fun x lo hi H Q => ∃ a xs, x = .ref a ∧ Sq K H a xs ∧ ∀ p H', Same H H' → Sq K H' p (cutV xs lo hi) → Q (.ref p) H'
theorem sl_seq : SlR X (rSlS X.K) := by
  intro pins s σ H x v vl vu lo hi sl Q I rx hs pl pu h
  obtain ⟨a, xs, ex, hq, q⟩ := h
  rcases hq with hq | hq
  · exact sl_list pins s σ H x v vl vu lo hi sl Q I rx hs pl pu ⟨a, xs, ex, hq, fun p hp => q p _ (same_upd hp) (.inl (sqL upd_same))⟩
  · refine sl_tupA pins s σ H x v vl vu lo hi sl Q I rx hs pl pu ⟨a, xs, ex, hq, fun c => q a _ (Same.refl _) (.inr ?_), fun _ p hp => q p _ (same_upd hp) (.inr (sqT upd_same))⟩
    have e : cutV xs lo hi = xs := by
      unfold cutV
      rw [c.1, c.2, List.drop_zero, Nat.sub_zero, List.take_length]
    rw [e]
    exact hq
theorem sl_seqK {K : PySem.W.Frag} (e : X.K = K) : SlR X (rSlS K) := by subst e; exact sl_seq
def iSeq (K : PySem.W.Frag) (tl : TE) : TI := fun σ H R => tl σ H fun x H1 => ∃ a xs, x = .ref a ∧ Sq K H1 a xs ∧ ∀ J G, Walk J xs.length G (YAt xs) → (∀ H2, AtS a H1 H2 → G H2) → R J H1
theorem pi_seq {tg l : Expr} {tl : TE} (hl : PE X l tl) : PI X tg l (iSeq X.K tl) := by
  constructor
  intro pins s σ H R I h
  refine thn (hl.run pins s σ H _ I h) fun v s1 z => ?_
  obtain ⟨x, H1, I1, r1, a, xs, rfl, hq, q⟩ := z
  cases r1
  rcases hq with hq | hq
  · obtain ⟨its, rv, pl, _⟩ := I1.list hq
    exact wpAny_pyIter_list pl.isList (pi_one (tk := s1.toks) I1 _ (turn_list a _) ⟨_, Heap.get?_push_size _ rfl, rfl, rfl⟩ (q _ _ walk_list fun H2 e => e.sqL hq))
  · obtain ⟨its, rv, pl, _⟩ := I1.tuple hq
    exact wpAny_pyIter_tuple (show s1.heap.IsTuple a its.toArray from pl) (pi_one (tk := s1.toks) I1 _ (turn_tuple a _) ⟨_, Heap.get?_push_size _ rfl, rfl, rfl⟩ (q _ _ walk_tup fun H2 e => e.sqT hq))
theorem pi_seqK {K : PySem.W.Frag} {tg l : Expr} {tl : TE} (e : X.K = K) (hl : PE X l tl) : PI X tg l (iSeq K tl) := by subst e; exact pi_seq hl
def iEnS (K : PySem.W.Frag) (ta : TA) : TI := fun σ H R => ta σ H fun vs H1 => ∃ a xs, vs = [.ref a] ∧ Sq K H1 a xs ∧ ∀ J G, Walk J xs.length G (YPair (fun i => some (.int (i : Nat))) (fun i => xs[i]?)) → (∀ H2, AtS a H1 H2 → G H2) → R J H1
theorem pi_enS {e : Expr} {ta : TA} {p pos tpos : Pos} {elts : List Expr} {kk : Nat} (hg : Gl X "enumerate") (hm : X.mg "enumerate" = none) (ha : PA X [e] ta) (hs : starEach [e] X.env = [(false, eval e X.env)] := by rfl) :
    PI X (.Tuple elts kk tpos) (.Call (.Name "enumerate" p) [e] [] pos) (iEnS X.K ta) := by
  constructor
  intro pins s σ H R I h
  refine Call_ (ld_blt I hg hm boot_enumerate (PyProof.Rows.callWith_type1 (thn (ha.run pos pins s σ H _ I h) fun us s1 ⟨vs, H1, I1, r1, q1⟩ => ?_) hs rfl))
  obtain ⟨a, xs, rfl, hq, q⟩ := q1
  cases r1 with
  | cons r rr =>
    cases rr
    cases r
    have hfp : ∀ b ∈ [s1.heap.objs.size + 1, s1.heap.objs.size], FpOk X pins H1 b := fun b hb => by
      have hle : s1.heap.objs.size ≤ b := by
        rcases (show b = s1.heap.objs.size + 1 ∨ b = s1.heap.objs.size by simpa using hb) with rfl | rfl
        · exact Nat.le_succ _
        · exact Nat.le_refl _
      exact I1.fpOk hle (I1.hok.fresh hle)
    rcases hq with hq | hq
    · obtain ⟨its, rv, hl, _⟩ := I1.list hq
      refine call_enumerate_list hl.isList fun h1 he hj _ hk => wpAny_pyIter_enum he ?_
      exact ⟨_, _, _, _, H1, rfl, I1.kept (t' := s1.toks) hk, turn_enum a (s1.heap.objs.size + 1) s1.heap.objs.size, ⟨⟨.none, he⟩, hj, Nat.succ_ne_self _⟩, hfp, q _ _ walk_enum fun H2 e => e.sqL hq⟩
    · obtain ⟨its, rv, ht, _⟩ := I1.tuple hq
      refine en_make ht fun h1 he hj hk => wpAny_pyIter_enum he ?_
      exact ⟨_, _, _, _, H1, rfl, I1.kept (t' := s1.toks) hk, turn_enT a (s1.heap.objs.size + 1) s1.heap.objs.size, ⟨⟨.none, he⟩, hj, Nat.succ_ne_self _⟩, hfp, q _ _ walk_enT fun H2 e => e.sqT hq⟩
end
end NS
namespace NS
open PySem L2
/-- a statement that is never reached -/
theorem ps_never {X : Cx} {st : Stmt} : PS X st (fun _ _ _ => False) := ⟨fun _ _ _ _ _ _ h => h.elim⟩
/-- a comprehension with two fors: the outer one -/
theorem lc2_out {J : It} {n : Nat} {G : Hp → Prop} {Y : Nat → Hp → V → Hp → Prop} (w : Walk J n G Y) {st : Nat → Hp → V → (Hp → Prop) → Hp → Prop} {H1 : Hp} {D : Addr} {Qd : Hp → Prop} (Pv : Nat → Hp → Prop) (h0 : Pv 0 (upd H1 D (.lst []))) (hG : ∀ i H, i ≤ n → Pv i H → G H)
    (hs : ∀ i x H H', i < n → Pv i H → Y i H x H' → st i H x (Pv (i + 1)) H') (hd : ∀ H, Pv n H → Qd H) :
    ∃ W : Nat → Nat → Hp → Prop, (∃ m, W 0 m (upd H1 D (.lst []))) ∧ ∀ i m H, W i m H → (J.stop i H ∧ Qd H) ∨ (J.go i H ∧ ∃ Nx : Hp → Prop, (∀ H', Nx H' → ∃ m', m' < m ∧ W (i + 1) m' H') ∧ ∀ x H', J.yld i H x H' → st i H x Nx H') := by
  refine ⟨fun i m H => m + i = n ∧ Pv i H, ⟨n, Nat.add_zero n, h0⟩, fun i m H hW => ?_⟩
  obtain ⟨hm, pv⟩ := hW
  by_cases lt : i < n
  · exact .inr ⟨w.goes i H lt (hG i H (Nat.le_of_lt lt) pv), Pv (i + 1), fun H' p' => ⟨m - 1, by omega, by omega, p'⟩, fun x H' y => hs i x H H' lt pv (w.yields i H x H' lt (hG i H (Nat.le_of_lt lt) pv) y)⟩
  · have e : i = n := by omega
    subst e
    exact .inl ⟨w.stops H (hG i H (Nat.le_refl _) pv), hd H pv⟩
theorem lc2_in {J : It} {n : Nat} {G : Hp → Prop} {Y : Nat → Hp → V → Hp → Prop} (w : Walk J n G Y) {st : Nat → Hp → V → (Hp → Prop) → Hp → Prop} {H1 : Hp} {Nx : Hp → Prop} (Pv : Nat → Hp → Prop) (h0 : Pv 0 H1) (hG : ∀ i H, i ≤ n → Pv i H → G H)
    (hs : ∀ i x H H', i < n → Pv i H → Y i H x H' → st i H x (Pv (i + 1)) H') (hd : ∀ H, Pv n H → Nx H) :
    ∃ W : Nat → Nat → Hp → Prop, (∃ m, W 0 m H1) ∧ ∀ i m H, W i m H → (J.stop i H ∧ Nx H) ∨ (J.go i H ∧ ∃ N : Hp → Prop, (∀ H', N H' → ∃ m', m' < m ∧ W (i + 1) m' H') ∧ ∀ x H', J.yld i H x H' → st i H x N H') := by
  refine ⟨fun i m H => m + i = n ∧ Pv i H, ⟨n, Nat.add_zero n, h0⟩, fun i m H hW => ?_⟩
  obtain ⟨hm, pv⟩ := hW
  by_cases lt : i < n
  · exact .inr ⟨w.goes i H lt (hG i H (Nat.le_of_lt lt) pv), Pv (i + 1), fun H' p' => ⟨m - 1, by omega, by omega, p'⟩, fun x H' y => hs i x H H' lt pv (w.yields i H x H' lt (hG i H (Nat.le_of_lt lt) pv) y)⟩
  · have e : i = n := by omega
    subst e
    exact .inl ⟨w.stops H (hG i H (Nat.le_refl _) pv), hd H pv⟩
end NS

/-! ### the real order agrees -/
namespace NS
open PySem L2
structure FillF (n : Nat) (sh : List (Option Int)) (qs : List Int) : Prop where
  free : ∀ i : Nat, i < n → (sh[i]? = some none ↔ (i : Int) ∉ qs)
  cell : ∀ z ∈ qs, ∃ c : Nat, z = (c : Int) ∧ c < n
  nd : qs.Nodup
  ord : ∀ (j c : Nat) (h : Int) (x : Nat), qs[j]? = some (c : Int) → sh[c]? = some (some h) → x < n → near h (c : Int) (x : Int) = true → (x : Int) ∈ qs.take j
theorem Fill.facts {n : Nat} {hs : List Int} {sh : List (Option Int)} {qs : List Int} (f : Fill n hs sh qs) : FillF n sh qs := by
  induction f with
  | nil =>
    refine ⟨fun i hi => ⟨(fun _ h => nomatch h), fun _ => ?_⟩, (fun z h => nomatch h), List.nodup_nil, fun j c h x hj => ?_⟩
    · rw [List.getElem?_replicate, if_pos hi]
    · simp at hj
  | @snoc hs sh qs h c fl sp ih =>
    have hlen := fl.len
    have cfree : (c : Int) ∉ qs := (ih.free c sp.lt).mp sp.free
    refine ⟨fun i hi => ?_, fun z hz => ?_, ?_, fun j c' h' x hj hs' hx hn => ?_⟩
    · by_cases e : i = c
      · subst e
        have hcn := sp.lt
        rw [List.getElem?_set_self (by omega)]
        constructor
        · intro q
          cases q
        · intro q
          exact absurd (List.mem_append_right _ (List.mem_singleton.mpr rfl)) q
      · rw [List.getElem?_set_ne (Ne.symm e), ih.free i hi, List.mem_append, List.mem_singleton]
        constructor
        · rintro a (b | b)
          · exact a b
          · omega
        · exact fun a b => a (.inl b)
    · rcases List.mem_append.mp hz with hz | hz
      · exact ih.cell z hz
      · exact ⟨c, List.mem_singleton.mp hz, sp.lt⟩
    · rw [List.nodup_append]
      refine ⟨ih.nd, List.nodup_cons.mpr ⟨(fun q => nomatch q), List.nodup_nil⟩, fun a ha b hb => ?_⟩
      rw [List.mem_singleton.mp hb]
      exact fun e => cfree (by rw [← e]; exact ha)
    · by_cases hlt : j < qs.length
      · rw [List.getElem?_append_left hlt] at hj
        have ne : c ≠ c' := fun e => cfree (by rw [e]; exact List.mem_of_getElem? hj)
        rw [List.getElem?_set_ne ne] at hs'
        rw [List.take_append_of_le_length (Nat.le_of_lt hlt)]
        exact ih.ord j c' h' x hj hs' hx hn
      · have hj2 : j = qs.length := by
          have := (List.getElem?_eq_some_iff.mp hj).1
          rw [List.length_append] at this
          simp at this
          omega
        subst hj2
        rw [List.getElem?_append_right (Nat.le_refl _), Nat.sub_self] at hj
        have ec : c = c' := by
          have := Option.some.inj hj
          omega
        subst ec
        have hcn := sp.lt
        rw [List.getElem?_set_self (by omega)] at hs'
        have eh : h = h' := Option.some.inj (Option.some.inj hs')
        subst eh
        rw [List.take_left]
        by_cases hin : (x : Int) ∈ qs
        · exact hin
        · have := sp.best x hx ((ih.free x hx).mpr hin)
          rw [this] at hn
          cases hn
structure CaseF (ys : List V) (qs : List Int) : Prop where
  mem : ∀ z : Int, z ∈ qs ↔ z ∈ fullL ys
  nd : qs.Nodup
  ag : agreesL ys qs = true
theorem case_facts {n : Nat} {hs : List Int} {sh : List (Option Int)} {qs : List Int} {ys : List V} (f : Fill n hs sh qs) (v : Veil (sh.map oV) ys) : CaseF ys qs := by
  have F := f.facts
  have hyl : ys.length = n := by
    rw [v.len, List.length_map, f.len]
  have ent : ∀ i : Nat, i < n → (ys[i]? = (sh.map oV)[i]? ∨ ys[i]? = some (.str "?") ∧ ∃ u, (sh.map oV)[i]? = some u ∧ u ≠ .non) := fun i _ => v.at_ i
  have shg : ∀ i : Nat, i < n → ∃ o, sh[i]? = some o := fun i hi => ⟨_, List.getElem?_eq_getElem (by rw [f.len]; exact hi)⟩
  have full : ∀ i : Nat, i < n → (isN (ys.getD i .non) = false ↔ (i : Int) ∈ qs) := fun i hi => by
    obtain ⟨o, ho⟩ := shg i hi
    have hm : (sh.map oV)[i]? = some (oV o) := by rw [List.getElem?_map, ho]; rfl
    have fr := F.free i hi
    rw [ho] at fr
    cases o with
    | none =>
      have nq : (i : Int) ∉ qs := fr.mp rfl
      rcases ent i hi with e | ⟨_, u, e, ne⟩
      · rw [List.getD_eq_getElem?_getD, e, hm]
        exact ⟨(fun q => nomatch q), fun q => absurd q nq⟩
      · rw [hm] at e
        exact absurd (Option.some.inj e).symm ne
    | some z =>
      have iq : (i : Int) ∈ qs := by
        by_cases q : (i : Int) ∈ qs
        · exact q
        · have := fr.mpr q
          cases this
      rcases ent i hi with e | ⟨e, _⟩
      · rw [List.getD_eq_getElem?_getD, e, hm]
        exact ⟨fun _ => iq, fun _ => rfl⟩
      · rw [List.getD_eq_getElem?_getD, e]
        exact ⟨fun _ => iq, fun _ => rfl⟩
  refine ⟨fun z => ?_, F.nd, ?_⟩
  · rw [fullL_mem]
    constructor
    · intro hz
      obtain ⟨c, rfl, hc⟩ := F.cell z hz
      exact ⟨c, rfl, by omega, (full c hc).mpr hz⟩
    · rintro ⟨i, rfl, hi, hn⟩
      exact (full i (by omega)).mp hn
  · show ((List.range qs.length).map (agB ys qs)).all id = true
    rw [List.all_map, List.all_eq_true]
    intro j hj
    have hj' : j < qs.length := List.mem_range.mp hj
    obtain ⟨c, ec, hc⟩ := F.cell qs[j] (List.getElem_mem hj')
    have gj : qs[j]? = some (c : Int) := by rw [List.getElem?_eq_getElem hj', ec]
    have gd : qs.getD j 0 = (c : Int) := by rw [List.getD_eq_getElem?_getD, gj]; rfl
    show agB ys qs j = true
    unfold agB
    rw [gd, List.all_eq_true]
    intro e he
    refine decide_eq_true ?_
    unfold wantL at he
    rw [Int.toNat_natCast, hyl] at he
    cases hv : ys.getD c .non with
    | int w =>
      rw [hv] at he
      obtain ⟨x, rfl, hx⟩ := needsL_lt he
      have hn : near w (c : Int) (x : Int) = true := (List.mem_filter.mp he).2
      obtain ⟨o, ho⟩ := shg c hc
      have hm : (sh.map oV)[c]? = some (oV o) := by rw [List.getElem?_map, ho]; rfl
      have eo : o = some w := by
        rcases ent c hc with e | ⟨e, _⟩
        · rw [List.getD_eq_getElem?_getD, e, hm] at hv
          cases o with
          | none => cases hv
          | some z => cases hv; rfl
        · rw [List.getD_eq_getElem?_getD, e] at hv
          cases hv
      subst eo
      exact F.ord j c w x gj ho hx hn
    | _ =>
      rw [hv] at he
      cases he
end NS

/-! ### slices and sums of tuples, by data -/
namespace NS
open PySem L2
def cutL {α : Type} (xs : List α) (lo hi : Option Int) : List α := (xs.drop (HT.sIx xs.length 0 lo)).take (HT.sIx xs.length xs.length hi - HT.sIx xs.length 0 lo)
theorem cutL_sub {α : Type} {xs : List α} {lo hi : Option Int} {x : α} (h : x ∈ cutL xs lo hi) : x ∈ xs := List.mem_of_mem_drop (List.mem_of_mem_take h)
theorem cutL_len {α : Type} (xs : List α) (lo hi : Option Int) : (cutL xs lo hi).length ≤ xs.length := by
  unfold cutL
  rw [List.length_take, List.length_drop]
  omega
section
variable {K : PySem.W.Frag} {S : List Addr} {σ : L2.St} {H : Hp} {te ta tb : TE} {ds es : List PyData} {tl th : TO} {lo hi : Option Int}
def EvO (p : Option Int) (t : TO) (σ : L2.St) (H : Hp) : Prop := ∀ H1, Same H H1 → ∀ Q, Q p H1 → t σ H1 Q
theorem eo_none : EvO none tNoPart σ H := fun _ _ _ q => q
theorem eo_int {i : Int} : EvO (some i) (tPart (tC (.int i))) σ H := fun _ _ _ q => ⟨i, rfl, q⟩
theorem eo_var {j : Nat} {i : Int} (h : σ[j]? = some (some (.int i))) : EvO (some i) (tPart (tVar j)) σ H := fun _ _ _ q => ⟨_, h, i, rfl, q⟩
theorem eo_add {j : Nat} {i k : Int} (h : σ[j]? = some (some (.int i))) : EvO (some (i + k)) (tPart (tOp (rI0 fun i j => V.int (i + j)) (tVar j) (tC (.int k)))) σ H := fun _ _ _ q => ⟨_, h, _, _, rfl, rfl, _, rfl, q⟩
theorem ee_slA (hs : HasA H S) (h : EvE K S (.tuple ds) te σ H) (hl : EvO lo tl σ H) (hu : EvO hi th σ H) : EvE K S (.tuple (cutL ds lo hi)) (tSl (rSlA K) te tl th) σ H := fun H1 e Q q =>
  h H1 e _ fun v H2 e2 hv => hl H2 (e.trans e2) _ (hu H2 (e.trans e2) _ (by
    cases hv with
    | @tup a xs _ h1 h2 =>
      have hn := dpAll_len h2
      refine ⟨a, xs, rfl, Same.tup same_hid h1, fun c => ?_, fun c p hp => ?_⟩
      · have ec : cutL ds lo hi = ds := by
          unfold cutL
          rw [← hn, c.1, c.2, List.drop_zero, Nat.sub_zero, hn, List.take_length]
        exact q _ H2 e2 (by rw [ec]; exact .tup h1 h2)
      · have np := has_ne (hasA_same hs (e.trans e2)) hp
        refine q _ _ (e2.trans (same_upd hp)) (.tup (sqT_hid np upd_same) (dp_sameA (hid_mono (same_upd hp)) ?_))
        unfold cutV cutL
        rw [hn]
        exact dpAll_take _ (dpAll_drop _ h2)))
theorem ee_catA (hs : HasA H S) (ha : EvE K S (.tuple ds) ta σ H) (hb : EvE K S (.tuple es) tb σ H) (hz : ds.length + es.length ≤ 1000) : EvE K S (.tuple (ds ++ es)) (tOp (rCatA K) ta tb) σ H := fun H1 e Q q =>
  ha H1 e _ fun v H2 e2 hv => hb H2 (e.trans e2) _ fun u H3 e3 hu => by
    cases hv with
    | @tup a xs _ h1 h2 =>
      cases hu with
      | @tup b ys _ h3 h4 =>
        have hn := dpAll_len h2
        have hm := dpAll_len h4
        have h1' := Same.tup (hid_mono e3) h1
        have h2' := dp_sameA (hid_mono e3) h2
        refine ⟨a, b, xs, ys, rfl, rfl, Same.tup same_hid h1', Same.tup same_hid h3, small (by omega), fun c => ?_, fun _ c => ?_, fun _ _ p hp => ?_⟩
        · subst c
          have ed : ds = [] := List.eq_nil_of_length_eq_zero (by rw [← hn]; rfl)
          subst ed
          exact q _ _ (e2.trans e3) (.tup h3 h4)
        · subst c
          have ed : es = [] := List.eq_nil_of_length_eq_zero (by rw [← hm]; rfl)
          subst ed
          exact q _ _ (e2.trans e3) (by rw [List.append_nil]; exact .tup h1' h2')
        · have np := has_ne (hasA_same hs ((e.trans e2).trans e3)) hp
          exact q _ _ ((e2.trans e3).trans (same_upd hp)) (.tup (sqT_hid np upd_same) (dp_sameA (hid_mono (same_upd hp)) (dpAll_app h2' h4)))
theorem ee_revT (hs : HasA H S) (h : EvE K S (.tuple ds) te σ H) : EvE K S (.tuple ds.reverse) (tRevT K te) σ H := fun H1 e Q q =>
  h H1 e _ fun v H2 e2 hv => by
    cases hv with
    | @tup a xs _ h1 h2 =>
      refine ⟨a, xs, rfl, Same.tup same_hid h1, fun p hp => ?_⟩
      have np := has_ne (hasA_same hs (e.trans e2)) hp
      exact q _ _ (e2.trans (same_upd hp)) (.tup (sqT_hid np upd_same) (dp_sameA (hid_mono (same_upd hp)) (dpAll_rev h2)))
/-- list(t) of a tuple -/
theorem ee_lstOf (hs : HasA H S) (h : EvE K S (.tuple ds) te σ H) : EvE K S (.list ds) (tCB (fun xs H Q => ∃ p ys, xs = [V.ref p] ∧ (SqL K H p ys ∨ SqT K H p ys) ∧ ∀ (l : Addr), H l = none → Q (V.ref l) (upd H l (HO.lst ys))) (tCons te tNil)) σ H := fun H1 e Q q =>
  h H1 e _ fun v H2 e2 hv => by
    cases hv with
    | @tup a xs _ h1 h2 =>
      refine ⟨a, xs, rfl, .inr (Same.tup same_hid h1), fun p hp => ?_⟩
      have np := has_ne (hasA_same hs (e.trans e2)) hp
      exact q _ _ (e2.trans (same_upd hp)) (.lst (sqL_hid np upd_same) (dp_sameA (hid_mono (same_upd hp)) h2))
/-- small ints in a row -/
theorem sm_row {ds : List PyData} (h : ∀ x ∈ ds, Sm 0 4 8 x) (hl : ds.length ≤ 10) : Sm 2 60 10 (.tuple ds) ∧ Sm 2 60 10 (.list ds) := by
  have hw : wS ds ≤ 50 := by
    have : ∀ es : List PyData, (∀ x ∈ es, Sm 0 4 8 x) → wS es ≤ 5 * es.length := fun es => by
      induction es with
      | nil => intro _; exact Nat.le_refl _
      | cons z zs ih =>
        intro hz
        rw [wS_cons, List.length_cons]
        have h1 := (hz z (List.mem_cons_self ..)).wt
        have h2 := ih fun y hy => hz y (List.mem_cons_of_mem _ hy)
        omega
    have := this ds h
    omega
  have hi : ∀ x ∈ ds, Itm 1 10 x := fun x hx => (h x hx).itm.mono (by decide) (by decide)
  exact ⟨⟨itm_tuple.mpr ⟨hl, hi⟩, by rw [wt_tuple]; omega⟩, ⟨itm_list.mpr ⟨hl, hi⟩, by rw [wt_list]; omega⟩⟩
theorem sm_cell {z : Int} (h0 : 0 ≤ z) (h1 : z ≤ 8) : Sm 0 4 8 (.int z) := by
  have h8 : ∀ j : Fin 9, smB 0 4 8 (.int ((j : Nat) : Int)) = true := by decide +kernel
  have e : z = (((⟨z.toNat, by omega⟩ : Fin 9) : Nat) : Int) := by
    show z = (z.toNat : Int)
    omega
  rw [e]
  exact sm_of (h8 _)
theorem sm_bl (b : Bool) : Sm 0 4 8 (.bool b) := by cases b <;> exact sm_of (by decide +kernel)
end
/-- a list of values that grows at L, while draws are made at s -/
structure VI (K : PySem.W.Frag) (s L : Addr) (H0 H5 H' : Hp) (xs : List V) (es : List PyData) (k : Nat) : Prop where
  st : Stay s H0 H'
  kp : ∀ b o, b ≠ s → b ≠ L → H5 b = some o → H' b = some o
  sr : Src H' s k
  gL : H' L = some (.lst xs)
  dp : DpAll K (Hid [L, s] H') xs es
theorem VI.has {K : PySem.W.Frag} {s L : Addr} {H0 H5 H' : Hp} {xs : List V} {es : List PyData} {k : Nat} (h : VI K s L H0 H5 H' xs es k) : HasA H' [L, s] := fun b hb => by
  rcases List.mem_cons.mp hb with rfl | hb
  · exact ⟨_, h.gL⟩
  · rw [List.mem_singleton.mp hb]
    exact src_has h.sr
theorem VI.len {K : PySem.W.Frag} {s L : Addr} {H0 H5 H' : Hp} {xs : List V} {es : List PyData} {k : Nat} (h : VI K s L H0 H5 H' xs es k) : xs.length = es.length := dpAll_len h.dp
theorem VI.app {K : PySem.W.Frag} {s L : Addr} {H0 H5 Ha Hb : Hp} {xs : List V} {es : List PyData} {k kb : Nat} {v : V} {d : PyData} (h : VI K s L H0 H5 Ha xs es k) (nL : H0 L = none) (ne : L ≠ s) (st : Stay s Ha Hb) (sr : Src Hb s kb) (hd : Dp K (Hid [L, s] Hb) v d) :
    VI K s L H0 H5 (upd Hb L (.lst (xs ++ [v]))) (xs ++ [v]) (es ++ [d]) kb := by
  refine ⟨(h.st.trans st).mut nL, fun b o nb nbL hb => ?_, sr.elim fun o z => ⟨o, by rw [upd_ne ne.symm]; exact z.1, z.2⟩, upd_same, ?_⟩
  · rw [upd_ne nbL]
    exact st _ _ nb (h.kp b o nb nbL hb)
  · rw [hid_upd (List.mem_cons_self ..)]
    exact dpAll_app (dp_sameA (hid_stay (List.mem_cons_of_mem _ (List.mem_singleton.mpr rfl)) st) h.dp) (.cons hd .nil)
theorem VI.step {K : PySem.W.Frag} {s L : Addr} {H0 H5 Ha Hb : Hp} {xs : List V} {es : List PyData} {k kb : Nat} (h : VI K s L H0 H5 Ha xs es k) (ne : L ≠ s) (st : Stay s Ha Hb) (sr : Src Hb s kb) : VI K s L H0 H5 Hb xs es kb :=
  ⟨h.st.trans st, fun b o nb nL hb => st _ _ nb (h.kp b o nb nL hb), sr, st _ _ ne h.gL, dp_sameA (hid_stay (List.mem_cons_of_mem _ (List.mem_singleton.mpr rfl)) st) h.dp⟩
theorem cut3_len {α : Type} (ds : List α) (a : Nat) (h : a ≤ ds.length) : (cutL ds none (some (a : Int))).length + (cutL ds (some (a : Int)) (some ((a : Int) + 2))).length + (cutL ds (some ((a : Int) + 2)) none).length ≤ ds.length := by
  have e : ((a : Int) + 2) = ((a + 2 : Nat) : Int) := by omega
  unfold cutL
  simp only [e, HT.sIx_nat]
  show ((ds.drop 0).take (min a ds.length - 0)).length + _ + ((ds.drop (min (a + 2) ds.length)).take (ds.length - min (a + 2) ds.length)).length ≤ _
  rw [List.length_take, List.length_take, List.length_take, List.length_drop, List.length_drop, List.length_drop]
  omega
theorem if_thenS {c : TT} {a b : TS} {D : Ends} {σ : L2.St} {H : Hp} (R : L2.St → Hp → Prop) (k : ∀ σ' H', R σ' H' → D.nx σ' H') (h : ∀ D' : Ends, (∀ σ' H', R σ' H' → D'.nx σ' H') → tIfS c a b D' σ H) : tIfS c a b D σ H := h D k
end NS

/-! ### rows of ints -/
namespace NS
open PySem L2
theorem ints_inv {K : PySem.W.Frag} {H : Hp} : ∀ {ns : List Int} {xs : List V}, DpAll K H xs (ns.map PyData.int) → xs = ns.map V.int
  | [], _, h => by
    cases h
    rfl
  | n :: ns, _, h => by
    cases h with
    | cons a b =>
      cases a
      rw [ints_inv b]
      rfl
end NS

/-! ### rows of rows of ints in the heap -/
namespace NS
open PySem L2
section
variable {K : PySem.W.Frag}
theorem sqT_updL {H : Hp} {L a : Addr} {zs xs : List V} {o : HO} (hL : H L = some (.lst zs)) (h : SqT K H a xs) : SqT K (upd H L o) a xs := by
  rcases h with (h | ⟨o', h⟩) | h
  · exact .inl (.inl (by rw [upd_ne (fun e => by rw [e, hL] at h; cases h)]; exact h))
  · exact .inl (.inr ⟨o', by rw [upd_ne (fun e => by rw [e, hL] at h; cases h)]; exact h⟩)
  · exact .inr h
/-- a row of orders does not change with a list -/
theorem ords_upd {H : Hp} {L : Addr} {zs : List V} {o : HO} (hL : H L = some (.lst zs)) : ∀ {vs : List V} {os : List (List Int)}, DpAll K H vs (os.map dT) → DpAll K (upd H L o) vs (os.map dT)
  | _, [], .nil => .nil
  | _, q :: os, .cons h r => by
    refine .cons ?_ (ords_upd hL r)
    cases h with
    | @tup a xs _ h1 h2 =>
      obtain rfl := ints_inv h2
      exact dp_T (sqT_updL hL h1)
theorem ord_at {H : Hp} {v : V} {o : List Int} (h : Dp K H v (dT o)) : ∃ a, v = .ref a ∧ SqT K H a (o.map V.int) := by
  cases h with
  | @tup a xs _ h1 h2 =>
    obtain rfl := ints_inv h2
    exact ⟨a, rfl, h1⟩
theorem paired_imp {α β : Type} {F G : α → β → Prop} (h : ∀ a b, F a b → G a b) : ∀ {l₁ : List α} {l₂ : List β}, Paired F l₁ l₂ → Paired G l₁ l₂
  | _, _, .nil => .nil
  | _, _, .cons a r => .cons (h _ _ a) (paired_imp h r)
theorem merge_get {Pk : Key → V → Prop} {k : Key} : ∀ (kvs acc : List (Key × V)), (∀ kv ∈ kvs, Pk kv.1 kv.2) → (k ∈ kvs.map Prod.fst ∨ ∃ v, valV acc k = some v ∧ Pk k v) → ∃ v, valV (mergeK acc kvs) k = some v ∧ Pk k v
  | [], acc, _, h => by
    rcases h with h | h
    · cases h
    · exact h
  | kv :: r, acc, hp, h => by
    show ∃ v, valV (mergeK (putK acc kv.1 kv.2) r) k = some v ∧ Pk k v
    refine merge_get r _ (fun x hx => hp x (List.mem_cons_of_mem _ hx)) ?_
    by_cases hk : k ∈ r.map Prod.fst
    · exact .inl hk
    · refine .inr ?_
      rw [valV_put]
      by_cases e : k = kv.1
      · rw [if_pos e]
        exact ⟨kv.2, rfl, by rw [e]; exact hp kv (List.mem_cons_self ..)⟩
      · rw [if_neg e]
        rcases h with h | h
        · rw [List.map_cons] at h
          rcases List.mem_cons.mp h with h | h
          · exact absurd h e
          · exact absurd h hk
        · exact h
theorem line_ok {n : Nat} (h : n ≤ 1000000) : n < sizeLine := Nat.lt_of_le_of_lt h (by decide)
theorem cat_one {H : Hp} {b t : Addr} {so : List Int} {c : Int} {Q : VK} (hb : SqT K H b (so.map V.int)) (ht : H t = some (.tup [.int c])) (hz : so.length ≤ 1000)
    (q : ∀ p H', Same H H' → SqT K H' p ((so ++ [c]).map V.int) → Q (.ref p) H') : rCatA K (.ref b) (.ref t) H Q := by
  refine ⟨b, t, _, [.int c], rfl, rfl, hb, sqT ht, ?_, fun e0 => ?_, (fun _ e0 => nomatch e0), fun _ _ p hp => ?_⟩
  · rw [List.length_map]
    exact Nat.le_of_lt (line_ok (by simp; omega))
  · refine q t H (Same.refl _) ?_
    rw [List.map_append, e0]
    exact sqT ht
  · refine q p _ (same_upd hp) ?_
    rw [List.map_append]
    exact sqT upd_same
theorem fil_step {l : List Int} {p : Int → Bool} {i : Nat} {c : Int} (g : l[i]? = some c) : ((l.take (i + 1)).filter p).map V.int = ((l.take i).filter p).map V.int ++ (if p c = true then [V.int c] else []) := by
  rw [List.take_succ, g, List.filter_append, List.map_append]
  congr 1
  simp only [Option.toList_some]
  cases h : p c
  · rw [List.filter_cons_of_neg (by rw [h]; decide)]
    rfl
  · rw [List.filter_cons_of_pos h]
    rfl
theorem fil_small {l : List Int} {p : Int → Bool} {i : Nat} (h : l.length ≤ 1000) : (((l.take i).filter p).map V.int).length < sizeLine := by
  rw [List.length_map]
  refine small1000 (Nat.le_trans (List.length_filter_le _ _) ?_)
  rw [List.length_take]
  omega
theorem slA_take {H : Hp} {b : Addr} {qs : List Int} {k : Nat} {Q : VK} (hb : SqT K H b (qs.map V.int)) (hk : k ≤ qs.length) (q : ∀ p H', Same H H' → SqT K H' p ((qs.take k).map V.int) → Q (.ref p) H') : rSlA K (.ref b) none (some (k : Int)) H Q := by
  refine ⟨b, _, rfl, hb, fun c => ?_, fun _ p hp => ?_⟩
  · have h1 := c.2
    rw [List.length_map, sIx_le hk] at h1
    refine q b H (Same.refl _) ?_
    rw [h1, List.take_length]
    exact hb
  · refine q p _ (same_upd hp) ?_
    rw [cut_to (by rw [List.length_map]; exact hk), ← List.map_take]
    exact sqT upd_same
theorem eqvA_i : ∀ a b : List Int, PyData.eqvAll (a.map PyData.int) (b.map PyData.int) = decide (a = b)
  | [], [] => by rw [List.map_nil, PyData.eqvAll]; rfl
  | [], _ :: _ => by rw [List.map_nil, List.map_cons, PyData.eqvAll]; rfl
  | _ :: _, [] => by rw [List.map_nil, List.map_cons, PyData.eqvAll]; rfl
  | x :: a, y :: b => by
    rw [List.map_cons, List.map_cons, PyData.eqvAll, PyData.eqv, eqvA_i a b, Bool.eq_iff_iff]
    simp
theorem eqv_T (a b : List Int) : PyData.eqv (dT a) (dT b) = decide (a = b) := by
  unfold dT
  rw [PyData.eqv]
  exact eqvA_i a b
end
end NS

/-! ### orders that agree, one by one; what is ready; the reason -/
namespace NS
open PySem L2
theorem near_iff (w c x : Int) : near w c x = true ↔ dist x w < dist c w ∨ (dist x w = dist c w ∧ x < c) := by
  unfold near
  generalize dist x w = a
  generalize dist c w = b
  simp only [HT.lexLt]
  by_cases h1 : a < b
  · simp [h1]
    omega
  · by_cases h2 : b < a
    · simp [h1]
      omega
    · have e : a = b := by omega
      simp [e]
      omega
theorem needs_iff {n : Nat} {c w x : Int} : x ∈ needsL n c w ↔ (0 ≤ x ∧ x < n) ∧ (dist x w < dist c w ∨ (dist x w = dist c w ∧ x < c)) := by
  unfold needsL
  rw [List.mem_filter, near_iff]
  refine and_congr_left fun _ => ?_
  constructor
  · intro h
    obtain ⟨i, hi, rfl⟩ := List.mem_map.mp h
    have := List.mem_range.mp hi
    omega
  · rintro ⟨h0, h1⟩
    exact List.mem_map.mpr ⟨x.toNat, List.mem_range.mpr (by omega), by omega⟩
theorem dist_abs (c w : Int) : (dist c w = c - w ∧ w ≤ c) ∨ (dist c w = w - c ∧ c < w) := by
  unfold dist
  split <;> omega
/-- what is needed is an interval directly beside the cell, on one side -/
theorem needs_left {n : Nat} {c w x z : Int} (hx : x ∈ needsL n c w) (hc : c < n) (h2 : x ≤ z) (h3 : z < c) : z ∈ needsL n c w := by
  rw [needs_iff] at hx ⊢
  have a := dist_abs x w
  have b := dist_abs c w
  have d := dist_abs z w
  omega
theorem needs_right {n : Nat} {c w x z : Int} (hx : x ∈ needsL n c w) (hc : 0 ≤ c) (h2 : z ≤ x) (h3 : c < z) : z ∈ needsL n c w := by
  rw [needs_iff] at hx ⊢
  have a := dist_abs x w
  have b := dist_abs c w
  have d := dist_abs z w
  omega
theorem needs_side {n : Nat} {c w x z : Int} (hx : x ∈ needsL n c w) (h1 : x < c) (hz : z ∈ needsL n c w) : z < c := by
  rw [needs_iff] at hx hz
  have a := dist_abs x w
  have b := dist_abs c w
  have d := dist_abs z w
  omega
theorem needs_self {n : Nat} {c w : Int} (h : c ∈ needsL n c w) : False := by
  rw [needs_iff] at h
  omega
theorem needs_lt (n : Nat) (c w : Int) : (needsL n c w).Pairwise (· < ·) := by
  unfold needsL
  refine List.Pairwise.filter _ ?_
  rw [List.pairwise_map]
  exact List.pairwise_lt_range.imp fun h => by omega
/-- the same of wantL -/
theorem want_cases {ys : List V} {c x : Int} (h : x ∈ wantL ys c) : ∃ w, wantL ys c = needsL ys.length c w := by
  unfold wantL at h ⊢
  cases hv : ys.getD c.toNat .non with
  | int w => exact ⟨w, rfl⟩
  | _ =>
    rw [hv] at h
    cases h
theorem want_left {ys : List V} {c x z : Int} (hx : x ∈ wantL ys c) (hc : c < ys.length) (h2 : x ≤ z) (h3 : z < c) : z ∈ wantL ys c := by
  obtain ⟨w, e⟩ := want_cases hx
  rw [e] at hx ⊢
  exact needs_left hx hc h2 h3
theorem want_right {ys : List V} {c x z : Int} (hx : x ∈ wantL ys c) (hc : 0 ≤ c) (h2 : z ≤ x) (h3 : c < z) : z ∈ wantL ys c := by
  obtain ⟨w, e⟩ := want_cases hx
  rw [e] at hx ⊢
  exact needs_right hx hc h2 h3
theorem want_side {ys : List V} {c x z : Int} (hx : x ∈ wantL ys c) (h1 : x < c) (hz : z ∈ wantL ys c) : z < c := by
  obtain ⟨w, e⟩ := want_cases hx
  rw [e] at hx hz
  exact needs_side hx h1 hz
theorem want_self {ys : List V} {c : Int} (h : c ∈ wantL ys c) : False := by
  obtain ⟨w, e⟩ := want_cases h
  rw [e] at h
  exact needs_self h
theorem want_lt (ys : List V) (c : Int) : (wantL ys c).Pairwise (· < ·) := by
  unfold wantL
  cases ys.getD c.toNat .non with
  | int w => exact needs_lt _ _ _
  | _ => exact List.Pairwise.nil
/-- the least of what there is -/
theorem least_of {p : Nat → Prop} : ∀ k, p k → ∃ m, p m ∧ ∀ j, j < m → ¬ p j := by
  intro k
  induction k using Nat.strongRecOn with
  | ind k ih =>
    intro hk
    by_cases h : ∃ j, j < k ∧ p j
    · obtain ⟨j, hj, pj⟩ := h
      exact ih j hj pj
    · exact ⟨k, hk, fun j hj pj => h ⟨j, hj, pj⟩⟩
/-- no object needs an empty cell, no two need one another -/
structure Poss (ys : List V) : Prop where
  gap : ∀ c ∈ fullL ys, ∀ e ∈ wantL ys c, e ∈ fullL ys
  both : ∀ c ∈ fullL ys, ∀ e ∈ wantL ys c, c ∉ wantL ys e
/-- what can come next -/
def readyB (ys : List V) (came : List Int) (c : Int) : Bool := decide (c ∉ came) && (wantL ys c).all fun e => decide (e ∈ came)
def readyL (ys : List V) (came : List Int) : List Int := (fullL ys).filter (readyB ys came)
theorem ready_iff {ys : List V} {came : List Int} {c : Int} : c ∈ readyL ys came ↔ c ∈ fullL ys ∧ c ∉ came ∧ ∀ e ∈ wantL ys c, e ∈ came := by
  unfold readyL readyB
  rw [List.mem_filter, Bool.and_eq_true, decide_eq_true_eq, List.all_eq_true]
  simp
/-- as long as some are left, one of them is ready -/
theorem ready_some {ys : List V} (hp : Poss ys) {came : List Int} (h : ∃ c ∈ fullL ys, c ∉ came) : readyL ys came ≠ [] := by
  intro h0
  have hno : ∀ c, c ∈ fullL ys → c ∉ came → ∃ e ∈ wantL ys c, e ∉ came := fun c hc hn => by
    false_or_by_contra
    rename_i hx
    have : c ∈ readyL ys came := ready_iff.mpr ⟨hc, hn, fun e he => by
      false_or_by_contra
      rename_i he2
      exact hx ⟨e, he, he2⟩⟩
    rw [h0] at this
    cases this
  have hnat : ∀ {c : Int}, c ∈ fullL ys → ∃ i : Nat, c = (i : Int) ∧ i < ys.length := fun hc => by
    obtain ⟨i, e, hi, _⟩ := fullL_mem.mp hc
    exact ⟨i, e, hi⟩
  -- none of the rest needs one of the rest to its right
  have hr : ∀ k : Nat, ∀ c : Nat, ys.length - c = k → (c : Int) ∈ fullL ys → (c : Int) ∉ came → ∀ x : Nat, (x : Int) ∈ wantL ys c → (x : Int) ∉ came → c < x → False := by
    intro k
    induction k using Nat.strongRecOn with
    | ind k ih =>
      intro c hk hc hcn x hx hxn hcx
      obtain ⟨d, ⟨hd1, hd2, hd3⟩, hd4⟩ := least_of (p := fun d => c < d ∧ (d : Int) ∈ fullL ys ∧ (d : Int) ∉ came) x ⟨hcx, hp.gap _ hc _ hx, hxn⟩
      have hdx : d ≤ x := by
        rcases Nat.lt_or_ge x d with h | h
        · exact absurd ⟨hcx, hp.gap _ hc _ hx, hxn⟩ (hd4 x h)
        · exact h
      have hcd : (d : Int) ∈ wantL ys c := want_right hx (by omega) (by omega) (by omega)
      obtain ⟨e, he, hen⟩ := hno d hd2 hd3
      obtain ⟨e', rfl, hel⟩ := hnat (hp.gap _ hd2 _ he)
      obtain ⟨d', ed, hdl⟩ := hnat hd2
      rcases Nat.lt_trichotomy d e' with h | h | h
      · exact ih (ys.length - d) (by omega) d rfl hd2 hd3 e' he hen h
      · subst h
        exact want_self he
      · have hec : e' ≤ c := by
          rcases Nat.lt_or_ge c e' with h2 | h2
          · exact absurd ⟨h2, hp.gap _ hd2 _ he, hen⟩ (hd4 e' h)
          · exact h2
        exact hp.both _ hc _ hcd (want_left he (by omega) (by omega) (by omega))
  obtain ⟨c, hc, hcn⟩ := h
  obtain ⟨c', rfl, _⟩ := hnat hc
  obtain ⟨m, ⟨hm1, hm2⟩, hm3⟩ := least_of (p := fun d => (d : Int) ∈ fullL ys ∧ (d : Int) ∉ came) c' ⟨hc, hcn⟩
  obtain ⟨e, he, hen⟩ := hno m hm1 hm2
  obtain ⟨e', rfl, _⟩ := hnat (hp.gap _ hm1 _ he)
  rcases Nat.lt_trichotomy m e' with h | h | h
  · exact hr _ m rfl hm1 hm2 e' he hen h
  · subst h
    exact want_self he
  · exact hm3 e' h ⟨hp.gap _ hm1 _ he, hen⟩
/-- all beginnings of k cells -/
def fitN (ys : List V) : Nat → List (List Int)
  | 0 => [[]]
  | k + 1 => (fitN ys k).flatMap fun s => (readyL ys s).map fun c => s ++ [c]
abbrev fitL (ys : List V) : List (List Int) := fitN ys (fullL ys).length
theorem fit_mem {ys : List V} : ∀ {k : Nat} {o : List Int}, o ∈ fitN ys k → o.length = k ∧ o.Nodup ∧ (∀ c ∈ o, c ∈ fullL ys) ∧ agreesL ys o = true
  | 0, o, h => by
    rw [fitN, List.mem_singleton] at h
    subst h
    exact ⟨rfl, List.nodup_nil, (fun c h => nomatch h), rfl⟩
  | k + 1, o, h => by
    rw [fitN, List.mem_flatMap] at h
    obtain ⟨s, hs, ho⟩ := h
    obtain ⟨c, hc, rfl⟩ := List.mem_map.mp ho
    obtain ⟨h1, h2, h3, h4⟩ := fit_mem hs
    obtain ⟨r1, r2, r3⟩ := ready_iff.mp hc
    refine ⟨by rw [List.length_append, h1]; rfl, ?_, ?_, ?_⟩
    · rw [List.nodup_append]
      refine ⟨h2, List.nodup_cons.mpr ⟨List.not_mem_nil, List.nodup_nil⟩, fun a ha b hb => ?_⟩
      rw [List.mem_singleton] at hb
      subst hb
      intro e
      subst e
      exact r2 ha
    · intro x hx
      rcases List.mem_append.mp hx with hx | hx
      · exact h3 x hx
      · rw [List.mem_singleton] at hx
        subst hx
        exact r1
    · exact agrees_snoc.mpr ⟨h4, r3⟩
where
  agrees_snoc {ys : List V} {s : List Int} {c : Int} : agreesL ys (s ++ [c]) = true ↔ agreesL ys s = true ∧ ∀ e ∈ wantL ys c, e ∈ s := by
    unfold agreesL agreesN
    rw [List.length_append, List.length_singleton, List.range_succ, List.map_append, List.all_append, Bool.and_eq_true]
    have e1 : ((List.range s.length).map (agB ys (s ++ [c]))) = ((List.range s.length).map (agB ys s)) := by
      refine List.map_congr_left fun j hj => ?_
      have hj' := List.mem_range.mp hj
      unfold agB
      rw [List.take_append_of_le_length (by omega), List.getD_eq_getElem?_getD, List.getD_eq_getElem?_getD, List.getElem?_append_left hj']
    rw [e1]
    refine and_congr_right fun _ => ?_
    have e2 : agB ys (s ++ [c]) s.length = (wantL ys c).all fun e => decide (e ∈ s) := by
      unfold agB
      rw [List.take_left, List.getD_eq_getElem?_getD, List.getElem?_concat_length]
      rfl
    simp only [List.map_cons, List.map_nil, List.all_cons, List.all_nil, Bool.and_true, id, e2, List.all_eq_true, decide_eq_true_eq]
/-- an order of all taken cells that agrees: there is no reason -/
theorem agree_poss {ys : List V} {o : List Int} (h3 : ∀ c ∈ fullL ys, c ∈ o) (hs : ∀ c ∈ o, c ∈ fullL ys) (h2 : o.Nodup) (ha : agreesL ys o = true) : Poss ys := by
  unfold agreesL agreesN at ha
  rw [List.all_map, List.all_eq_true] at ha
  have hpre : ∀ i c, o[i]? = some c → ∀ e ∈ wantL ys c, e ∈ o.take i := fun i c hi e he => by
    have hl : i < o.length := (List.getElem?_eq_some_iff.mp hi).1
    have := ha i (List.mem_range.mpr hl)
    simp only [Function.comp, id] at this
    unfold agB at this
    rw [List.all_eq_true, List.getD_eq_getElem?_getD, hi] at this
    have := this e he
    simpa using this
  refine ⟨fun c hc e he => ?_, fun c hc e he hce => ?_⟩
  · obtain ⟨i, hi⟩ := List.getElem?_of_mem (h3 c hc)
    exact hs e (List.mem_of_mem_take (hpre i c hi e he))
  · obtain ⟨i, hi⟩ := List.getElem?_of_mem (h3 c hc)
    have h1 := hpre i c hi e he
    obtain ⟨j, hj⟩ := List.getElem?_of_mem h1
    rw [List.getElem?_take] at hj
    split at hj
    · rename_i hji
      have h4 := hpre j e hj c hce
      obtain ⟨k, hk⟩ := List.getElem?_of_mem h4
      rw [List.getElem?_take] at hk
      split at hk
      · rename_i hkj
        have hil : i < o.length := (List.getElem?_eq_some_iff.mp hi).1
        have hkl : k < o.length := (List.getElem?_eq_some_iff.mp hk).1
        have := (List.getElem?_inj hkl h2).mp (hk.trans hi.symm)
        omega
      · cases hk
    · cases hj
theorem sub_len : ∀ {o l : List Int}, o.Nodup → (∀ c ∈ o, c ∈ l) → o.length ≤ l.length
  | [], _, _, _ => Nat.zero_le _
  | a :: r, l, hn, hs => by
    have hn' := List.nodup_cons.mp hn
    have ha : a ∈ l := hs a (List.mem_cons_self ..)
    have h := sub_len (o := r) (l := l.erase a) hn'.2 fun c hc => (List.mem_erase_of_ne (by intro e; subst e; exact hn'.1 hc)).mpr (hs c (List.mem_cons_of_mem _ hc))
    rw [List.length_erase_of_mem ha] at h
    have : 0 < l.length := List.length_pos_of_mem ha
    rw [List.length_cons]
    omega
theorem len_full {ys : List V} {o : List Int} (hl : o.length = (fullL ys).length) (hn : o.Nodup) (hs : ∀ c ∈ o, c ∈ fullL ys) : ∀ c ∈ fullL ys, c ∈ o := by
  intro c hc
  false_or_by_contra
  rename_i h
  have h1 := sub_len (o := c :: o) (l := fullL ys) (List.nodup_cons.mpr ⟨h, hn⟩) fun x hx => by
    rcases List.mem_cons.mp hx with rfl | hx
    · exact hc
    · exact hs x hx
  rw [List.length_cons] at h1
  omega
/-- the greedy order -/
def greedy (ys : List V) : Nat → List Int
  | 0 => []
  | k + 1 => greedy ys k ++ [(readyL ys (greedy ys k)).headD 0]
theorem left_some {ys : List V} {o : List Int} {k : Nat} (ho : o ∈ fitN ys k) (hk : k < (fullL ys).length) : ∃ c ∈ fullL ys, c ∉ o := by
  false_or_by_contra
  rename_i h
  obtain ⟨h1, h2, h3, _⟩ := fit_mem ho
  have := sub_len (o := fullL ys) (l := o) (fullN_nd ys) fun c hc => by
    false_or_by_contra
    rename_i hc2
    exact h ⟨c, hc, hc2⟩
  omega
where
  fullN_nd (ys : List V) : (fullL ys).Nodup := by
    unfold fullL fullN
    refine List.Pairwise.map _ (fun a b h => ?_) (List.Pairwise.filter _ (List.nodup_range (n := ys.length)))
    omega
theorem fit_head {ys : List V} (hp : Poss ys) : ∀ {k : Nat}, k ≤ (fullL ys).length → ∃ r, fitN ys k = greedy ys k :: r
  | 0, _ => ⟨[], rfl⟩
  | k + 1, hk => by
    obtain ⟨r, hr⟩ := fit_head hp (k := k) (by omega)
    have hm : greedy ys k ∈ fitN ys k := by rw [hr]; exact List.mem_cons_self ..
    have hn := ready_some hp (left_some hm (by omega))
    cases hc : readyL ys (greedy ys k) with
    | nil => exact absurd hc hn
    | cons c cs =>
      refine ⟨cs.map (fun c => greedy ys k ++ [c]) ++ r.flatMap fun s => (readyL ys s).map fun c => s ++ [c], ?_⟩
      rw [fitN, hr, List.flatMap_cons, hc, greedy, hc]
      rfl
theorem fit_poss {ys : List V} (h : fitL ys ≠ []) : Poss ys := by
  obtain ⟨o, ho⟩ := List.exists_mem_of_ne_nil _ h
  obtain ⟨h1, h2, h3, h4⟩ := fit_mem ho
  exact agree_poss (len_full h1 h2 h3) h3 h2 h4
/-- all that agree are there -/
theorem fit_all {ys : List V} {o : List Int} (hn : o.Nodup) (hs : ∀ c ∈ o, c ∈ fullL ys) (ha : agreesL ys o = true) : o ∈ fitN ys o.length := by
  induction hk : o.length generalizing o with
  | zero =>
    rw [List.length_eq_zero_iff.mp hk]
    exact List.mem_singleton.mpr rfl
  | succ k ih =>
    have hne : o ≠ [] := by
      intro e
      rw [e] at hk
      cases hk
    obtain ⟨s, c, rfl⟩ : ∃ s c, o = s ++ [c] := ⟨o.dropLast, o.getLast hne, (List.dropLast_concat_getLast hne).symm⟩
    obtain ⟨a1, a2⟩ := fit_mem.agrees_snoc.mp ha
    rw [List.nodup_append] at hn
    obtain ⟨n1, _, n3⟩ := hn
    rw [List.length_append, List.length_singleton] at hk
    have hs1 : ∀ x ∈ s, x ∈ fullL ys := fun x hx => hs x (List.mem_append_left _ hx)
    have hkk : s.length = k := by omega
    have := ih n1 hs1 a1 hkk
    rw [fitN, List.mem_flatMap]
    refine ⟨s, this, List.mem_map.mpr ⟨c, ready_iff.mpr ⟨hs c (by simp), fun h => n3 c h c (List.mem_singleton.mpr rfl) rfl, a2⟩, rfl⟩⟩
/-! the reason -/
def gapO (ys : List V) : Option (Int × Int) := (fullL ys).findSome? fun c => ((wantL ys c).find? fun e => isN (ys.getD e.toNat .non)).map fun e => (c, e)
def mutB (ys : List V) (c e : Int) : Bool := decide (c < e) && (decide (c ∈ wantL ys e) && decide (e ∈ wantL ys c))
def bothO (ys : List V) : Option (Int × Int) := (fullL ys).findSome? fun c => ((wantL ys c).find? fun e => mutB ys c e).map fun e => (c, e)
def bothS (ys : List V) : Option (Int × Int) := (fullL ys).findSome? fun c => ((fullL ys).find? fun e => mutB ys c e).map fun e => (c, e)
theorem find_same {a b : List Int} {p : Int → Bool} (ha : a.Pairwise (· < ·)) (hb : b.Pairwise (· < ·)) (h : ∀ x, p x = true → (x ∈ a ↔ x ∈ b)) : a.find? p = b.find? p := by
  rw [← List.head?_filter, ← List.head?_filter]
  congr 1
  have nd : ∀ {l : List Int}, l.Pairwise (· < ·) → (l.filter p).Nodup := fun hl => (List.Pairwise.filter _ hl).imp fun h e => by omega
  have hp : (a.filter p).Perm (b.filter p) := (List.perm_ext_iff_of_nodup (nd ha) (nd hb)).mpr fun x => by
    rw [List.mem_filter, List.mem_filter]
    exact and_congr_left fun hx => h x hx
  exact List.Perm.eq_of_pairwise (le := (· < ·)) (fun x y _ _ h1 h2 => by omega) (List.Pairwise.filter _ ha) (List.Pairwise.filter _ hb) hp
theorem gap_none {ys : List V} : gapO ys = none ↔ ∀ c ∈ fullL ys, ∀ e ∈ wantL ys c, e ∈ fullL ys := by
  unfold gapO
  rw [List.findSome?_eq_none_iff]
  refine forall_congr' fun c => forall_congr' fun hc => ?_
  rw [Option.map_eq_none_iff, List.find?_eq_none]
  refine forall_congr' fun e => forall_congr' fun he => ?_
  obtain ⟨j, rfl, hj⟩ := wantL_lt he
  rw [Int.toNat_natCast]
  constructor
  · intro h
    exact fullL_mem.mpr ⟨j, rfl, hj, by simpa using h⟩
  · intro h
    obtain ⟨i, e, _, h2⟩ := fullL_mem.mp h
    have : j = i := by omega
    subst this
    rw [h2]
    decide
theorem fullA_lt (ys : List V) : (fullL ys).Pairwise (· < ·) := by
  unfold fullL fullN
  rw [List.pairwise_map]
  exact (List.pairwise_lt_range.filter _).imp fun h => by omega
theorem both_same {ys : List V} (hg : gapO ys = none) : bothO ys = bothS ys := by
  unfold bothO bothS
  rw [gap_none] at hg
  suffices h : ∀ (l : List Int), (∀ c ∈ l, c ∈ fullL ys) → (l.findSome? fun c => ((wantL ys c).find? fun e => mutB ys c e).map fun e => (c, e)) = (l.findSome? fun c => ((fullL ys).find? fun e => mutB ys c e).map fun e => (c, e)) from h _ fun c hc => hc
  intro l
  induction l with
  | nil => intro _; rfl
  | cons c r ih =>
    intro hl
    rw [List.findSome?_cons, List.findSome?_cons, ih fun x hx => hl x (List.mem_cons_of_mem _ hx)]
    have e : (wantL ys c).find? (fun e => mutB ys c e) = (fullL ys).find? fun e => mutB ys c e := by
      refine find_same (want_lt ys c) (fullA_lt ys) fun x hx => ?_
      unfold mutB at hx
      rw [Bool.and_eq_true, Bool.and_eq_true, decide_eq_true_eq, decide_eq_true_eq, decide_eq_true_eq] at hx
      exact ⟨fun h => hg c (hl c (List.mem_cons_self ..)) x h, fun _ => hx.2.2⟩
    rw [e]
theorem poss_iff {ys : List V} : Poss ys ↔ gapO ys = none ∧ bothO ys = none := by
  constructor
  · intro h
    have hg := gap_none.mpr h.gap
    refine ⟨hg, ?_⟩
    unfold bothO
    rw [List.findSome?_eq_none_iff]
    intro c hc
    rw [Option.map_eq_none_iff, List.find?_eq_none]
    intro e he hm
    unfold mutB at hm
    rw [Bool.and_eq_true, Bool.and_eq_true, decide_eq_true_eq, decide_eq_true_eq, decide_eq_true_eq] at hm
    exact h.both c hc e he hm.2.1
  · rintro ⟨hg, hb⟩
    have hg' := gap_none.mp hg
    unfold bothO at hb
    rw [List.findSome?_eq_none_iff] at hb
    refine ⟨hg', fun c hc e he hce => ?_⟩
    have key : ∀ c e, c ∈ fullL ys → e ∈ wantL ys c → c ∈ wantL ys e → c < e → False := fun c e hc he hce hlt => by
      have := hb c hc
      rw [Option.map_eq_none_iff, List.find?_eq_none] at this
      refine this e he ?_
      unfold mutB
      rw [Bool.and_eq_true, Bool.and_eq_true, decide_eq_true_eq, decide_eq_true_eq, decide_eq_true_eq]
      exact ⟨hlt, hce, he⟩
    rcases Int.lt_trichotomy c e with h | h | h
    · exact key c e hc he hce h
    · subst h
      exact want_self he
    · exact key e c (hg' c hc e he) hce he h
theorem fit_bound {ys : List V} : ∀ k, (fitN ys k).length ≤ (fullL ys).length ^ k
  | 0 => Nat.le_refl _
  | k + 1 => by
    rw [fitN, List.length_flatMap, Nat.pow_succ]
    have h := fit_bound (ys := ys) k
    have h2 : ∀ l : List (List Int), ((l.map fun s => ((readyL ys s).map fun c => s ++ [c]).length)).sum ≤ l.length * (fullL ys).length := by
      intro l
      induction l with
      | nil => exact Nat.zero_le _
      | cons s r ih =>
        rw [List.map_cons, List.sum_cons, List.length_cons, Nat.succ_mul, List.length_map]
        have : (readyL ys s).length ≤ (fullL ys).length := List.length_filter_le _ _
        omega
    exact Nat.le_trans (h2 _) (Nat.mul_le_mul_right _ h)
def goOn (ys : List V) (C cs : List Int) : Nat → List Int
  | 0 => cs
  | k + 1 => goOn ys C cs k ++ [((readyL ys (goOn ys C cs k)).filter fun c => decide (c ∈ C)).headD 0]
theorem goOn_len (ys : List V) (C cs : List Int) : ∀ k, (goOn ys C cs k).length = cs.length + k
  | 0 => rfl
  | k + 1 => by
    rw [goOn, List.length_append, goOn_len ys C cs k]
    rfl
theorem goOn_full (ys : List V) : ∀ k, goOn ys (fullL ys) [] k = greedy ys k
  | 0 => rfl
  | k + 1 => by
    rw [goOn, greedy, goOn_full ys k]
    congr 2
    rw [List.filter_eq_self.mpr]
    intro c hc
    exact decide_eq_true (List.mem_filter.mp hc).1
end NS

/-! ### counting orders by their last object -/
namespace NS
open PySem L2
def bin : Nat → Nat → Nat
  | _, 0 => 1
  | 0, _ + 1 => 0
  | n + 1, k + 1 => bin n k + bin n (k + 1)
theorem bin_zero (n : Nat) : bin n 0 = 1 := by cases n <;> rfl
theorem bin_big : ∀ {n k : Nat}, n < k → bin n k = 0
  | n, 0, h => absurd h (Nat.not_lt_zero _)
  | 0, k + 1, _ => rfl
  | n + 1, k + 1, h => by
    rw [bin, bin_big (by omega), bin_big (by omega)]
theorem bin_self : ∀ n : Nat, bin n n = 1
  | 0 => rfl
  | n + 1 => by
    rw [bin, bin_self n, bin_big (Nat.lt_succ_self n)]
/-- the next one from the one before -/
theorem bin_step : ∀ (n k : Nat), bin n k * (n - k) = bin n (k + 1) * (k + 1)
  | 0, k => by
    rw [Nat.zero_sub, Nat.mul_zero, show bin 0 (k + 1) = 0 from rfl, Nat.zero_mul]
  | n + 1, 0 => by
    have h := bin_step n 0
    rw [bin_zero] at h ⊢
    rw [bin, bin_zero]
    simp only [Nat.sub_zero, Nat.one_mul, Nat.zero_add, Nat.mul_one] at h ⊢
    omega
  | n + 1, k + 1 => by
    have h1 := bin_step n k
    have h2 := bin_step n (k + 1)
    rw [bin, show bin (n + 1) (k + 2) = bin n (k + 1) + bin n (k + 2) from rfl]
    have e : n + 1 - (k + 1) = n - k := by omega
    rw [e, Nat.add_mul, Nat.add_mul, h1]
    rcases Nat.lt_or_ge n (k + 1) with hk | hk
    · rw [bin_big hk, bin_big (show n < k + 2 by omega)]
      simp
    · have e2 : n - k = (n - (k + 1)) + 1 := by omega
      have h3 : bin n (k + 1) * (n - k) = bin n (k + 1) * (n - (k + 1)) + bin n (k + 1) := by rw [e2, Nat.mul_add, Nat.mul_one]
      have h4 : bin n (k + 1) * (k + 1 + 1) = bin n (k + 1) * (k + 1) + bin n (k + 1) := by rw [Nat.mul_add, Nat.mul_one]
      rw [h3, h4, h2]
      show _ = _ + bin n (k + 1 + 1) * (k + 1 + 1)
      generalize bin n (k + 1 + 1) * (k + 1 + 1) = z
      generalize bin n (k + 1) * (k + 1) = y
      omega
/-- all ways to merge two rows -/
def shuf : List Int → List Int → List (List Int)
  | [], b => [b]
  | x :: a, [] => [x :: a]
  | x :: a, y :: b => (shuf a (y :: b)).map (x :: ·) ++ (shuf (x :: a) b).map (y :: ·)
termination_by a b => a.length + b.length
theorem shuf_nil (b : List Int) : shuf [] b = [b] := by rw [shuf]
theorem shuf_nil2 (a : List Int) : shuf a [] = [a] := by cases a <;> rw [shuf]
theorem shuf_len : ∀ (a b : List Int), (shuf a b).length = bin (a.length + b.length) a.length
  | [], b => by
    rw [shuf_nil, List.length_nil, bin_zero]
    rfl
  | x :: a, [] => by
    rw [shuf_nil2, List.length_nil, Nat.add_zero, bin_self]
    rfl
  | x :: a, y :: b => by
    rw [shuf, List.length_append, List.length_map, List.length_map, shuf_len a (y :: b), shuf_len (x :: a) b]
    simp only [List.length_cons]
    rw [show a.length + 1 + (b.length + 1) = (a.length + (b.length + 1)) + 1 by omega, bin]
    rw [show a.length + 1 + b.length = a.length + (b.length + 1) by omega]
termination_by a b => a.length + b.length
theorem shuf_mem {p : Int → Bool} : ∀ {a b q : List Int}, (∀ x ∈ a, p x = true) → (∀ x ∈ b, p x = false) → (q ∈ shuf a b ↔ q.filter p = a ∧ q.filter (fun x => !p x) = b)
  | [], b, q, _, hb => by
    rw [shuf_nil, List.mem_singleton]
    constructor
    · intro h
      subst h
      refine ⟨List.filter_eq_nil_iff.mpr fun x hx => by rw [hb x hx]; decide, List.filter_eq_self.mpr fun x hx => by rw [hb x hx]; rfl⟩
    · rintro ⟨h1, h2⟩
      have : ∀ x ∈ q, (!p x) = true := fun x hx => by
        have := List.filter_eq_nil_iff.mp h1 x hx
        simpa using this
      rw [List.filter_eq_self.mpr this] at h2
      exact h2
  | x :: a, [], q, ha, _ => by
    rw [shuf_nil2, List.mem_singleton]
    constructor
    · intro h
      subst h
      refine ⟨List.filter_eq_self.mpr ha, List.filter_eq_nil_iff.mpr fun x hx => by rw [ha x hx]; decide⟩
    · rintro ⟨h1, h2⟩
      have : ∀ x ∈ q, p x = true := fun x hx => by
        have := List.filter_eq_nil_iff.mp h2 x hx
        simpa using this
      rw [List.filter_eq_self.mpr this] at h1
      exact h1
  | x :: a, y :: b, q, ha, hb => by
    have hx := ha x (List.mem_cons_self ..)
    have hy := hb y (List.mem_cons_self ..)
    have i1 := fun q => shuf_mem (p := p) (a := a) (b := y :: b) (q := q) (fun z hz => ha z (List.mem_cons_of_mem _ hz)) hb
    have i2 := fun q => shuf_mem (p := p) (a := x :: a) (b := b) (q := q) ha (fun z hz => hb z (List.mem_cons_of_mem _ hz))
    rw [shuf, List.mem_append, List.mem_map, List.mem_map]
    constructor
    · rintro (⟨r, hr, rfl⟩ | ⟨r, hr, rfl⟩)
      · obtain ⟨e1, e2⟩ := (i1 r).mp hr
        rw [List.filter_cons_of_pos hx, List.filter_cons_of_neg (by rw [hx]; decide), e1, e2]
        exact ⟨rfl, rfl⟩
      · obtain ⟨e1, e2⟩ := (i2 r).mp hr
        rw [List.filter_cons_of_neg (by rw [hy]; decide), List.filter_cons_of_pos (by rw [hy]; rfl), e1, e2]
        exact ⟨rfl, rfl⟩
    · rintro ⟨h1, h2⟩
      cases q with
      | nil => cases h1
      | cons z r =>
        cases hz : p z with
        | true =>
          rw [List.filter_cons_of_pos hz] at h1
          rw [List.filter_cons_of_neg (by rw [hz]; decide)] at h2
          injection h1 with e1 e2
          subst e1
          exact .inl ⟨r, (i1 r).mpr ⟨e2, h2⟩, rfl⟩
        | false =>
          rw [List.filter_cons_of_neg (by rw [hz]; decide)] at h1
          rw [List.filter_cons_of_pos (by rw [hz]; rfl)] at h2
          injection h2 with e1 e2
          subst e1
          exact .inr ⟨r, (i2 r).mpr ⟨h1, e2⟩, rfl⟩
termination_by a b => a.length + b.length
theorem shuf_nd {p : Int → Bool} : ∀ {a b : List Int}, (∀ x ∈ a, p x = true) → (∀ x ∈ b, p x = false) → (shuf a b).Nodup
  | [], b, _, _ => by
    rw [shuf_nil]
    exact List.nodup_cons.mpr ⟨List.not_mem_nil, List.nodup_nil⟩
  | x :: a, [], _, _ => by
    rw [shuf_nil2]
    exact List.nodup_cons.mpr ⟨List.not_mem_nil, List.nodup_nil⟩
  | x :: a, y :: b, ha, hb => by
    have hx := ha x (List.mem_cons_self ..)
    have hy := hb y (List.mem_cons_self ..)
    have i1 := shuf_nd (p := p) (a := a) (b := y :: b) (fun z hz => ha z (List.mem_cons_of_mem _ hz)) hb
    have i2 := shuf_nd (p := p) (a := x :: a) (b := b) ha (fun z hz => hb z (List.mem_cons_of_mem _ hz))
    rw [shuf, List.nodup_append]
    refine ⟨List.Pairwise.map _ (fun u v h e => h (List.cons.inj e).2) i1, List.Pairwise.map _ (fun u v h e => h (List.cons.inj e).2) i2, fun u hu v hv e => ?_⟩
    obtain ⟨r, _, rfl⟩ := List.mem_map.mp hu
    obtain ⟨r', _, rfl⟩ := List.mem_map.mp hv
    have := (List.cons.inj e).1
    rw [this, hy] at hx
    cases hx
termination_by a b => a.length + b.length
section
variable (W : Int → List Int) (R : List Int)
/-- each one's needs among R come before it -/
def VO (q : List Int) : Prop := ∀ i c, q[i]? = some c → ∀ e ∈ W c, e ∈ R → e ∈ q.take i
def okB (B : List Int) (c : Int) : Bool := (W c).all fun e => !decide (e ∈ R) || decide (e ∈ B)
def ordsF : Nat → List Int → List (List Int)
  | 0, _ => [[]]
  | n + 1, B => B.flatMap fun c => if okB W R B c = true then (ordsF n (B.erase c)).map (· ++ [c]) else []
abbrev ords (B : List Int) : List (List Int) := ordsF W R B.length B
end
section
variable {W : Int → List Int} {R : List Int}
theorem okB_iff {B : List Int} {c : Int} : okB W R B c = true ↔ ∀ e ∈ W c, e ∈ R → e ∈ B := by
  unfold okB
  rw [List.all_eq_true]
  refine forall_congr' fun e => forall_congr' fun he => ?_
  rw [Bool.or_eq_true, Bool.not_eq_true', decide_eq_false_iff_not, decide_eq_true_eq]
  constructor
  · rintro (h | h) hr
    · exact absurd hr h
    · exact h
  · intro h
    by_cases hr : e ∈ R
    · exact .inr (h hr)
    · exact .inl hr
theorem vo_nil : VO W R [] := fun i c h => by simp at h
theorem vo_snoc {q : List Int} {c : Int} : VO W R (q ++ [c]) ↔ VO W R q ∧ ∀ e ∈ W c, e ∈ R → e ∈ q := by
  constructor
  · intro h
    refine ⟨fun i d hi e he hr => ?_, fun e he hr => ?_⟩
    · have hl : i < q.length := (List.getElem?_eq_some_iff.mp hi).1
      have := h i d (by rw [List.getElem?_append_left hl]; exact hi) e he hr
      rw [List.take_append_of_le_length (Nat.le_of_lt hl)] at this
      exact this
    · have := h q.length c List.getElem?_concat_length e he hr
      rw [List.take_left] at this
      exact this
  · rintro ⟨h1, h2⟩ i d hi e he hr
    rcases Nat.lt_or_ge i q.length with hl | hl
    · rw [List.getElem?_append_left hl] at hi
      rw [List.take_append_of_le_length (Nat.le_of_lt hl)]
      exact h1 i d hi e he hr
    · have hi2 : i = q.length := by
        have := (List.getElem?_eq_some_iff.mp hi).1
        rw [List.length_append, List.length_singleton] at this
        omega
      subst hi2
      rw [List.getElem?_concat_length] at hi
      cases hi
      rw [List.take_left]
      exact h2 e he hr
theorem snoc_cases {q : List Int} (h : q ≠ []) : ∃ s c, q = s ++ [c] := ⟨q.dropLast, q.getLast h, (List.dropLast_concat_getLast h).symm⟩
theorem snoc_ind {P : List Int → Prop} (h0 : P []) (h1 : ∀ q c, P q → P (q ++ [c])) : ∀ q, P q := by
  intro q
  induction hn : q.length generalizing q with
  | zero =>
    rw [List.length_eq_zero_iff.mp hn]
    exact h0
  | succ n ih =>
    obtain ⟨s, c, rfl⟩ := snoc_cases (q := q) (fun e => by rw [e] at hn; cases hn)
    rw [List.length_append, List.length_singleton] at hn
    exact h1 s c (ih s (by omega))
theorem ordsF_mem (hself : ∀ c, c ∉ W c) : ∀ {n : Nat} {B q : List Int}, B.length = n → B.Nodup → (q ∈ ordsF W R n B ↔ q.Perm B ∧ VO W R q)
  | 0, B, q, hn, _ => by
    rw [List.length_eq_zero_iff.mp hn, ordsF, List.mem_singleton]
    constructor
    · intro h
      subst h
      exact ⟨List.Perm.refl _, vo_nil⟩
    · rintro ⟨h, _⟩
      exact h.eq_nil
  | n + 1, B, q, hn, hd => by
    rw [ordsF, List.mem_flatMap]
    constructor
    · rintro ⟨c, hc, hq⟩
      split at hq
      · rename_i hok
        obtain ⟨q', hq', rfl⟩ := List.mem_map.mp hq
        have hl : (B.erase c).length = n := by rw [List.length_erase_of_mem hc, hn]; rfl
        obtain ⟨p1, p2⟩ := (ordsF_mem hself hl (hd.erase c)).mp hq'
        refine ⟨(List.perm_append_comm.trans (p1.cons c)).trans (List.perm_cons_erase hc).symm, vo_snoc.mpr ⟨p2, fun e he hr => p1.mem_iff.mpr ?_⟩⟩
        have hec : e ≠ c := fun e' => hself c (e' ▸ he)
        exact (List.mem_erase_of_ne hec).mpr (okB_iff.mp hok e he hr)
      · cases hq
    · rintro ⟨hp, hv⟩
      obtain ⟨q', c, rfl⟩ := snoc_cases (q := q) (fun e => by
        rw [e] at hp
        rw [hp.symm.eq_nil] at hn
        cases hn)
      obtain ⟨v1, v2⟩ := vo_snoc.mp hv
      have hp2 : (c :: q').Perm B := List.perm_append_comm.symm.trans hp
      obtain ⟨hc, hp3⟩ := List.cons_perm_iff_perm_erase.mp hp2
      have hl : (B.erase c).length = n := by rw [List.length_erase_of_mem hc, hn]; rfl
      refine ⟨c, hc, ?_⟩
      rw [if_pos (okB_iff.mpr fun e he hr => hp.mem_iff.mp (List.mem_append_left _ (v2 e he hr)))]
      exact List.mem_map.mpr ⟨q', (ordsF_mem hself hl (hd.erase c)).mpr ⟨hp3, v1⟩, rfl⟩
theorem ordsF_nd : ∀ {n : Nat} {B : List Int}, B.Nodup → (ordsF W R n B).Nodup
  | 0, B, _ => List.nodup_cons.mpr ⟨List.not_mem_nil, List.nodup_nil⟩
  | n + 1, B, hd => by
    rw [ordsF]
    unfold List.Nodup
    rw [List.pairwise_flatMap]
    refine ⟨fun c hc => ?_, hd.imp fun {c d} hcd x hx y hy e => ?_⟩
    · split
      · exact List.Pairwise.map _ (fun u v h e => h (List.append_inj_left' e rfl)) (ordsF_nd (hd.erase c))
      · exact List.Pairwise.nil
    · split at hx
      · split at hy
        · obtain ⟨u, _, rfl⟩ := List.mem_map.mp hx
          obtain ⟨v, _, rfl⟩ := List.mem_map.mp hy
          have := List.append_inj_right' e rfl
          exact hcd (List.cons.inj this).1
        · cases hy
      · cases hx
theorem vo_filter {p : Int → Bool} : ∀ {q : List Int}, VO W R q → (∀ c ∈ q, p c = true → ∀ e ∈ W c, e ∈ R → p e = true) → VO W R (q.filter p) := by
  intro q
  induction q using snoc_ind with
  | h0 => intro _ _; exact vo_nil
  | h1 q c ih =>
    intro hv hp
    obtain ⟨v1, v2⟩ := vo_snoc.mp hv
    have hi := ih v1 fun d hd => hp d (List.mem_append_left _ hd)
    rw [List.filter_append]
    cases hc : p c with
    | true =>
      rw [show [c].filter p = [c] by rw [List.filter_cons_of_pos hc]; rfl]
      exact vo_snoc.mpr ⟨hi, fun e he hr => List.mem_filter.mpr ⟨v2 e he hr, hp c (by simp) hc e he hr⟩⟩
    | false =>
      rw [show [c].filter p = [] by rw [List.filter_cons_of_neg (by rw [hc]; decide)]; rfl, List.append_nil]
      exact hi
theorem vo_merge {p : Int → Bool} : ∀ {q : List Int}, VO W R (q.filter p) → VO W R (q.filter fun x => !p x) → VO W R q := by
  intro q
  induction q using snoc_ind with
  | h0 => intro _ _; exact vo_nil
  | h1 q c ih =>
    intro h1 h2
    rw [List.filter_append] at h1 h2
    cases hc : p c with
    | true =>
      rw [show [c].filter p = [c] by rw [List.filter_cons_of_pos hc]; rfl] at h1
      rw [show [c].filter (fun x => !p x) = [] by rw [List.filter_cons_of_neg (by rw [hc]; decide)]; rfl, List.append_nil] at h2
      obtain ⟨a1, a2⟩ := vo_snoc.mp h1
      exact vo_snoc.mpr ⟨ih a1 h2, fun e he hr => (List.mem_filter.mp (a2 e he hr)).1⟩
    | false =>
      rw [show [c].filter p = [] by rw [List.filter_cons_of_neg (by rw [hc]; decide)]; rfl, List.append_nil] at h1
      rw [show [c].filter (fun x => !p x) = [c] by rw [List.filter_cons_of_pos (by rw [hc]; rfl)]; rfl] at h2
      obtain ⟨a1, a2⟩ := vo_snoc.mp h2
      exact vo_snoc.mpr ⟨ih h1 a1, fun e he hr => (List.mem_filter.mp (a2 e he hr)).1⟩
theorem same_len {a b : List (List Int)} (ha : a.Nodup) (hb : b.Nodup) (h : ∀ x, x ∈ a ↔ x ∈ b) : a.length = b.length := ((List.perm_ext_iff_of_nodup ha hb).mpr h).length_eq
theorem sum_const {α : Type} {f : α → Nat} {k : Nat} : ∀ {l : List α}, (∀ x ∈ l, f x = k) → (l.map f).sum = l.length * k
  | [], _ => by simp
  | x :: l, h => by
    rw [List.map_cons, List.sum_cons, h x (List.mem_cons_self ..), sum_const fun y hy => h y (List.mem_cons_of_mem _ hy), List.length_cons, Nat.succ_mul, Nat.add_comm]
/-- two sides that do not touch: their orders are merged in every way -/
theorem ords_perm (hself : ∀ c, c ∉ W c) {p : Int → Bool} {A B : List Int} (hA : A.Nodup) (hB : B.Nodup) (pA : ∀ x ∈ A, p x = true) (pB : ∀ x ∈ B, p x = false)
    (sA : ∀ c ∈ A, (∀ e ∈ W c, e ∈ R → e ∈ A ++ B) → ∀ e ∈ W c, e ∈ R → e ∈ A) (sB : ∀ c ∈ B, (∀ e ∈ W c, e ∈ R → e ∈ A ++ B) → ∀ e ∈ W c, e ∈ R → e ∈ B) :
    (ords W R (A ++ B)).Perm ((ords W R A).flatMap fun a => (ords W R B).flatMap fun b => shuf a b) := by
  have hAB : (A ++ B).Nodup := by
    rw [List.nodup_append]
    refine ⟨hA, hB, fun a ha b hb e => ?_⟩
    have := pA a ha
    rw [e, pB b hb] at this
    cases this
  have fA : (A ++ B).filter p = A := by
    rw [List.filter_append, List.filter_eq_self.mpr pA, List.filter_eq_nil_iff.mpr (fun x hx => by rw [pB x hx]; decide), List.append_nil]
  have fB : (A ++ B).filter (fun x => !p x) = B := by
    rw [List.filter_append, List.filter_eq_nil_iff.mpr (fun x hx => by rw [pA x hx]; decide), List.filter_eq_self.mpr (fun x hx => by rw [pB x hx]; rfl), List.nil_append]
  have mA := fun q => ordsF_mem (W := W) (R := R) hself (q := q) (rfl : A.length = A.length) hA
  have mB := fun q => ordsF_mem (W := W) (R := R) hself (q := q) (rfl : B.length = B.length) hB
  have mAB := fun q => ordsF_mem (W := W) (R := R) hself (q := q) (rfl : (A ++ B).length = (A ++ B).length) hAB
  have inA : ∀ a ∈ ords W R A, ∀ x ∈ a, p x = true := fun a ha x hx => pA x (((mA a).mp ha).1.mem_iff.mp hx)
  have inB : ∀ b ∈ ords W R B, ∀ x ∈ b, p x = false := fun b hb x hx => pB x (((mB b).mp hb).1.mem_iff.mp hx)
  refine (List.perm_ext_iff_of_nodup (ordsF_nd hAB) ?_).mpr fun q => ?_
  · unfold List.Nodup
    rw [List.pairwise_flatMap]
    refine ⟨fun a ha => ?_, (ordsF_nd hA).imp_of_mem fun {a a'} ha ha' haa x hx y hy exy => ?_⟩
    · rw [List.pairwise_flatMap]
      refine ⟨fun b hb => shuf_nd (inA a ha) (inB b hb), (ordsF_nd hB).imp_of_mem fun {b b'} hb hb' hbb x hx y hy exy => ?_⟩
      have h1 := ((shuf_mem (inA a ha) (inB b hb)).mp hx).2
      have h2 := ((shuf_mem (inA a ha) (inB b' hb')).mp hy).2
      rw [exy, h2] at h1
      exact hbb h1.symm
    · obtain ⟨b, hb, hx⟩ := List.mem_flatMap.mp hx
      obtain ⟨b', hb', hy⟩ := List.mem_flatMap.mp hy
      have h1 := ((shuf_mem (inA a ha) (inB b hb)).mp hx).1
      have h2 := ((shuf_mem (inA a' ha') (inB b' hb')).mp hy).1
      rw [exy, h2] at h1
      exact haa h1.symm
  · rw [mAB, List.mem_flatMap]
    constructor
    · rintro ⟨hp, hv⟩
      have hneed : ∀ c ∈ q, ∀ e ∈ W c, e ∈ R → e ∈ A ++ B := fun c hc e he hr => by
        obtain ⟨i, hi⟩ := List.getElem?_of_mem hc
        exact hp.mem_iff.mp (List.mem_of_mem_take (hv i c hi e he hr))
      have pqA : (q.filter p).Perm A := by
        have := hp.filter p
        rw [fA] at this
        exact this
      have pqB : (q.filter fun x => !p x).Perm B := by
        have := hp.filter fun x => !p x
        rw [fB] at this
        exact this
      have vA : VO W R (q.filter p) := vo_filter hv fun c hc hpc e he hr => by
        have hcA : c ∈ A := pqA.mem_iff.mp (List.mem_filter.mpr ⟨hc, hpc⟩)
        exact pA e (sA c hcA (hneed c hc) e he hr)
      have vB : VO W R (q.filter fun x => !p x) := vo_filter hv fun c hc hpc e he hr => by
        have hcB : c ∈ B := pqB.mem_iff.mp (List.mem_filter.mpr ⟨hc, hpc⟩)
        rw [pB e (sB c hcB (hneed c hc) e he hr)]
        rfl
      refine ⟨_, (mA _).mpr ⟨pqA, vA⟩, List.mem_flatMap.mpr ⟨_, (mB _).mpr ⟨pqB, vB⟩, ?_⟩⟩
      exact (shuf_mem (fun x hx => (List.mem_filter.mp hx).2) (fun x hx => by simpa using (List.mem_filter.mp hx).2)).mpr ⟨rfl, rfl⟩
    · rintro ⟨a, ha, hq⟩
      obtain ⟨b, hb, hq⟩ := List.mem_flatMap.mp hq
      obtain ⟨e1, e2⟩ := (shuf_mem (inA a ha) (inB b hb)).mp hq
      obtain ⟨a1, a2⟩ := (mA a).mp ha
      obtain ⟨b1, b2⟩ := (mB b).mp hb
      refine ⟨?_, vo_merge (p := p) (by rw [e1]; exact a2) (by rw [e2]; exact b2)⟩
      have h1 : (q.filter p ++ q.filter fun x => !p x).Perm q := List.filter_append_perm p q
      rw [e1, e2] at h1
      exact h1.symm.trans (a1.append b1)
theorem ords_split (hself : ∀ c, c ∉ W c) {p : Int → Bool} {A B : List Int} (hA : A.Nodup) (hB : B.Nodup) (pA : ∀ x ∈ A, p x = true) (pB : ∀ x ∈ B, p x = false)
    (sA : ∀ c ∈ A, (∀ e ∈ W c, e ∈ R → e ∈ A ++ B) → ∀ e ∈ W c, e ∈ R → e ∈ A) (sB : ∀ c ∈ B, (∀ e ∈ W c, e ∈ R → e ∈ A ++ B) → ∀ e ∈ W c, e ∈ R → e ∈ B) :
    (ords W R (A ++ B)).length = bin (A.length + B.length) A.length * (ords W R A).length * (ords W R B).length := by
  have mA := fun q => ordsF_mem (W := W) (R := R) hself (q := q) (rfl : A.length = A.length) hA
  have mB := fun q => ordsF_mem (W := W) (R := R) hself (q := q) (rfl : B.length = B.length) hB
  rw [(ords_perm hself hA hB pA pB sA sB).length_eq, List.length_flatMap, sum_const (k := (ords W R B).length * bin (A.length + B.length) A.length) fun a ha => ?_]
  · rw [Nat.mul_comm (bin _ _), Nat.mul_assoc, Nat.mul_comm (bin _ _)]
  · rw [List.length_flatMap, sum_const (k := bin (A.length + B.length) A.length) fun b hb => ?_]
    rw [shuf_len, ((mA a).mp ha).1.length_eq, ((mB b).mp hb).1.length_eq]
end
end NS

/-! ### counting over parts; orders with a beginning -/
namespace NS
open PySem L2
section
variable {W : Int → List Int} {R : List Int}
theorem erase_at : ∀ {B : List Int} {i : Nat} (h : i < B.length), B.Nodup → B.erase B[i] = B.take i ++ B.drop (i + 1)
  | b :: B, 0, _, _ => by
    rw [List.getElem_cons_zero, List.erase_cons_head]
    rfl
  | b :: B, i + 1, h, hd => by
    have hd' := List.nodup_cons.mp hd
    have h' : i < B.length := by simpa using h
    rw [List.getElem_cons_succ, List.erase_cons_tail (by
      simp only [beq_iff_eq]
      intro e
      exact hd'.1 (e ▸ List.getElem_mem h')), erase_at h' hd'.2]
    rfl
abbrev cnt (W : Int → List Int) (R B : List Int) : Nat := (ords W R B).length
/-- what the parts are like: rows of cells that ascend, needs that are intervals -/
structure Part (W : Int → List Int) (R B : List Int) : Prop where
  asc : B.Pairwise (· < ·)
  sub : ∀ c ∈ B, c ∈ R
theorem Part.nd {W : Int → List Int} {R B : List Int} (h : Part W R B) : B.Nodup := h.asc.imp fun h e => by omega
structure Ivl (W : Int → List Int) (R : List Int) : Prop where
  self : ∀ c, c ∉ W c
  left : ∀ c ∈ R, ∀ x ∈ W c, ∀ z, x ≤ z → z < c → z ∈ W c
  right : ∀ c ∈ R, ∀ x ∈ W c, ∀ z, z ≤ x → c < z → z ∈ W c
theorem cnt_nil : cnt W R [] = 1 := rfl
theorem cnt_rec (hi : Ivl W R) {B : List Int} (hB : Part W R B) : B ≠ [] → cnt W R B = ((List.range B.length).map fun i => if okB W R B (B.getD i 0) = true then bin (B.length - 1) i * cnt W R (B.take i) * cnt W R (B.drop (i + 1)) else 0).sum := by
  intro hne
  obtain ⟨n, hn⟩ : ∃ n, B.length = n + 1 := ⟨B.length - 1, by
    have := List.length_pos_iff.mpr hne
    omega⟩
  show (ordsF W R B.length B).length = _
  rw [hn, ordsF, List.length_flatMap, ← hn]
  have e1 : (B.map fun c => (if okB W R B c = true then (ordsF W R n (B.erase c)).map (· ++ [c]) else []).length) = (List.range B.length).map fun i => if okB W R B (B.getD i 0) = true then bin (B.length - 1) i * cnt W R (B.take i) * cnt W R (B.drop (i + 1)) else 0 := by
    refine List.ext_getElem (by rw [List.length_map, List.length_map, List.length_range]) fun i h1 h2 => ?_
    rw [List.length_map] at h1
    rw [List.getElem_map, List.getElem_map, List.getElem_range]
    have eg : B.getD i 0 = B[i] := by rw [List.getD_eq_getElem?_getD, List.getElem?_eq_getElem h1]; rfl
    rw [eg]
    cases hok : okB W R B B[i] with
    | false => rfl
    | true =>
      rw [if_pos rfl, if_pos rfl, List.length_map, erase_at h1 hB.nd]
      have hsplit : B = B.take i ++ B[i] :: B.drop (i + 1) := by rw [List.getElem_cons_drop, List.take_append_drop]
      have hasc := hB.asc
      rw [hsplit, List.pairwise_append, List.pairwise_cons] at hasc
      obtain ⟨a1, ⟨a2, a3⟩, a4⟩ := hasc
      have lA : ∀ x ∈ B.take i, x < B[i] := fun x hx => a4 x hx _ (List.mem_cons_self ..)
      have hm : B[i] ∈ R := hB.sub _ (List.getElem_mem h1)
      have hlA : (B.take i).length = i := by rw [List.length_take]; omega
      have hlB : (B.drop (i + 1)).length = n - i := by rw [List.length_drop]; omega
      have hmn : B[i] ∉ B.take i ++ B.drop (i + 1) := fun h => by
        rcases List.mem_append.mp h with h | h
        · have := lA _ h
          omega
        · have := a2 _ h
          omega
      have hs := ords_split (W := W) (R := R) hi.self (p := fun x => decide (x < B[i])) (A := B.take i) (B := B.drop (i + 1)) (a1.imp fun h e => by omega) (a3.imp fun h e => by omega)
        (fun x hx => decide_eq_true (lA x hx)) (fun x hx => decide_eq_false (by have := a2 x hx; omega))
        (fun c hc hall e he hr => by
          rcases List.mem_append.mp (hall e he hr) with h | h
          · exact h
          · have := hi.right c (hB.sub c (List.mem_of_mem_take hc)) e he B[i] (by have := a2 e h; omega) (lA c hc)
            exact absurd (hall _ this hm) hmn)
        (fun c hc hall e he hr => by
          rcases List.mem_append.mp (hall e he hr) with h | h
          · have := hi.left c (hB.sub c (List.mem_of_mem_drop hc)) e he B[i] (by have := lA e h; omega) (a2 c hc)
            exact absurd (hall _ this hm) hmn
          · exact h)
      have hlen : (B.take i ++ B.drop (i + 1)).length = n := by rw [List.length_append, hlA, hlB]; omega
      have hs2 : (ordsF W R n (B.take i ++ B.drop (i + 1))).length = bin ((B.take i).length + (B.drop (i + 1)).length) (B.take i).length * cnt W R (B.take i) * cnt W R (B.drop (i + 1)) := by
        rw [← hs, ← hlen]
      rw [hs2, hlA, hlB]
      have : i + (n - i) = B.length - 1 := by omega
      rw [this]
  rw [e1]
/-- the part from f up to e -/
def blk (R : List Int) (f e : Nat) : List Int := (R.drop f).take (e - f)
def partN (W : Int → List Int) (R : List Int) (f e : Nat) : Nat := cnt W R (blk R f e)
theorem partN_self (f : Nat) : partN W R f f = 1 := by
  unfold partN blk
  rw [Nat.sub_self, List.take_zero]
  rfl
theorem blk_len {f e : Nat} (h : f ≤ e) (h2 : e ≤ R.length) : (blk R f e).length = e - f := by
  unfold blk
  rw [List.length_take, List.length_drop]
  omega
theorem blk_take {f e i : Nat} (h : i ≤ e - f) : (blk R f e).take i = blk R f (f + i) := by
  unfold blk
  rw [List.take_take, Nat.min_eq_left h, show f + i - f = i by omega]
theorem blk_drop {f e i : Nat} : (blk R f e).drop i = blk R (f + i) e := by
  unfold blk
  rw [List.drop_take, List.drop_drop, show e - f - i = e - (f + i) by omega]
theorem blk_get {f e i : Nat} (h : i < e - f) : (blk R f e).getD i 0 = R.getD (f + i) 0 := by
  unfold blk
  rw [List.getD_eq_getElem?_getD, List.getD_eq_getElem?_getD, List.getElem?_take, if_pos h, List.getElem?_drop]
theorem blk_part (hR : R.Pairwise (· < ·)) (f e : Nat) : Part W R (blk R f e) :=
  ⟨(hR.sublist (List.drop_sublist f R)).sublist (List.take_sublist _ _), fun c hc => List.mem_of_mem_drop (List.mem_of_mem_take hc)⟩
/-- the places of one object and of all that it needs -/
def nearP (W : Int → List Int) (R : List Int) (a : Nat) : List Nat := (List.range R.length).filter fun p => decide (p = a) || decide (R.getD p 0 ∈ W (R.getD a 0))
def spanP (W : Int → List Int) (R : List Int) (a : Nat) : Nat × Nat := ((nearP W R a).headD 0, (nearP W R a).getLastD 0 + 1)
theorem mem_blk (hR : R.Nodup) {f e p : Nat} (hp : p < R.length) : R.getD p 0 ∈ blk R f e ↔ f ≤ p ∧ p < e := by
  have gp : R.getD p 0 = R[p] := by rw [List.getD_eq_getElem?_getD, List.getElem?_eq_getElem hp]; rfl
  rw [gp]
  constructor
  · intro h
    obtain ⟨i, hi⟩ := List.getElem?_of_mem h
    unfold blk at hi
    rw [List.getElem?_take] at hi
    split at hi
    · rename_i hlt
      rw [List.getElem?_drop] at hi
      have h2 : f + i < R.length := (List.getElem?_eq_some_iff.mp hi).1
      have := (List.getElem?_inj h2 hR).mp (hi.trans (List.getElem?_eq_getElem hp).symm)
      omega
    · cases hi
  · rintro ⟨h1, h2⟩
    refine List.mem_of_getElem? (i := p - f) ?_
    unfold blk
    rw [List.getElem?_take, if_pos (by omega), List.getElem?_drop, show f + (p - f) = p by omega]
    exact List.getElem?_eq_getElem hp
theorem near_mem {a p : Nat} : p ∈ nearP W R a ↔ p < R.length ∧ (p = a ∨ R.getD p 0 ∈ W (R.getD a 0)) := by
  unfold nearP
  rw [List.mem_filter, List.mem_range, Bool.or_eq_true, decide_eq_true_eq, decide_eq_true_eq]
theorem near_asc (a : Nat) : (nearP W R a).Pairwise (· < ·) := List.Pairwise.filter _ List.pairwise_lt_range
theorem near_ends {l : List Nat} (h : l.Pairwise (· < ·)) {f e : Nat} (hne : l ≠ []) : (f ≤ l.headD 0 ∧ l.getLastD 0 + 1 ≤ e) ↔ ∀ p ∈ l, f ≤ p ∧ p < e := by
  cases l with
  | nil => exact absurd rfl hne
  | cons x r =>
    have hl : (x :: r).getLastD 0 = (x :: r).getLast hne := List.getLastD_eq_getLast?.trans (by rw [List.getLast?_eq_some_getLast hne]; rfl)
    rw [hl, show (x :: r).headD 0 = x from rfl]
    constructor
    · rintro ⟨h1, h2⟩ p hp
      refine ⟨?_, ?_⟩
      · rcases List.mem_cons.mp hp with rfl | hp
        · exact h1
        · have := (List.pairwise_cons.mp h).1 p hp
          omega
      · have hd : p ∈ (x :: r).dropLast ++ [(x :: r).getLast hne] := by rw [List.dropLast_concat_getLast]; exact hp
        have hpw : ((x :: r).dropLast ++ [(x :: r).getLast hne]).Pairwise (· < ·) := by rw [List.dropLast_concat_getLast]; exact h
        rcases List.mem_append.mp hd with hd | hd
        · have := (List.pairwise_append.mp hpw).2.2 p hd _ (List.mem_singleton.mpr rfl)
          omega
        · rw [List.mem_singleton] at hd
          omega
    · intro h
      exact ⟨(h x (List.mem_cons_self ..)).1, (h _ (List.getLast_mem hne)).2⟩
theorem span_ok (hR : R.Nodup) {f e a : Nat} (ha : a < R.length) (h1 : f ≤ a) (h2 : a < e) : (decide (f ≤ (spanP W R a).1) && decide ((spanP W R a).2 ≤ e)) = okB W R (blk R f e) (R.getD a 0) := by
  have hin : a ∈ nearP W R a := near_mem.mpr ⟨ha, .inl rfl⟩
  rw [Bool.eq_iff_iff, Bool.and_eq_true, decide_eq_true_eq, decide_eq_true_eq, okB_iff]
  unfold spanP
  rw [near_ends (near_asc a) (List.ne_nil_of_mem hin)]
  constructor
  · intro h c hc hr
    obtain ⟨p, hp⟩ := List.getElem?_of_mem hr
    have hpl : p < R.length := (List.getElem?_eq_some_iff.mp hp).1
    have gp : R.getD p 0 = c := by rw [List.getD_eq_getElem?_getD, hp]; rfl
    rw [← gp]
    exact (mem_blk hR hpl).mpr (h p (near_mem.mpr ⟨hpl, .inr (by rw [gp]; exact hc)⟩))
  · intro h p hp
    obtain ⟨hpl, hpa | hpw⟩ := near_mem.mp hp
    · subst hpa
      exact ⟨h1, h2⟩
    · refine (mem_blk hR hpl).mp (h _ hpw ?_)
      rw [List.getD_eq_getElem?_getD, List.getElem?_eq_getElem hpl]
      exact List.getElem_mem hpl
/-- the objects of a part that can be its last one -/
def lastsP (W : Int → List Int) (R : List Int) (f e : Nat) : List Nat := ((List.range (e - f)).map (f + ·)).filter fun a => decide (f ≤ (spanP W R a).1) && decide ((spanP W R a).2 ≤ e)
theorem sum_filter {l : List Nat} {p : Nat → Bool} {g : Nat → Nat} : ((l.filter p).map g).sum = (l.map fun a => if p a = true then g a else 0).sum := by
  induction l with
  | nil => rfl
  | cons x r ih =>
    rw [List.map_cons, List.sum_cons]
    cases h : p x with
    | true => rw [List.filter_cons_of_pos h, List.map_cons, List.sum_cons, ih, if_pos rfl]
    | false => rw [List.filter_cons_of_neg (by rw [h]; decide), ih, if_neg Bool.false_ne_true, Nat.zero_add]
theorem part_rec (hi : Ivl W R) (hR : R.Pairwise (· < ·)) {f e : Nat} (hfe : f < e) (he : e ≤ R.length) :
    partN W R f e = ((lastsP W R f e).map fun a => bin (e - f - 1) (a - f) * partN W R f a * partN W R (a + 1) e).sum := by
  have hl := blk_len (R := R) (Nat.le_of_lt hfe) he
  have hnd : R.Nodup := hR.imp fun h e => by omega
  unfold partN
  rw [cnt_rec hi (blk_part hR f e) (fun h => by rw [h] at hl; simp at hl; omega), hl]
  unfold lastsP
  rw [sum_filter, List.map_map]
  congr 1
  refine List.map_congr_left fun i hin => ?_
  have hi' : i < e - f := List.mem_range.mp hin
  simp only [Function.comp]
  rw [span_ok hnd (by omega) (by omega) (by omega), blk_get hi', blk_take (by omega), blk_drop, show f + i - f = i by omega]
  rfl
end
/-! orders of a table -/
theorem fit_nd (ys : List V) : ∀ k, (fitN ys k).Nodup
  | 0 => List.nodup_cons.mpr ⟨List.not_mem_nil, List.nodup_nil⟩
  | k + 1 => by
    rw [fitN]
    unfold List.Nodup
    rw [List.pairwise_flatMap]
    refine ⟨fun s _ => ?_, (fit_nd ys k).imp fun {s t} hst x hx y hy e => ?_⟩
    · have hr : (readyL ys s).Nodup := List.Pairwise.filter (readyB ys s) ((fullA_lt ys).imp fun h e => by omega)
      exact List.Pairwise.map _ (fun c d h e => h (List.cons.inj (List.append_cancel_left e)).1) hr
    · obtain ⟨c, _, rfl⟩ := List.mem_map.mp hx
      obtain ⟨d, _, rfl⟩ := List.mem_map.mp hy
      exact hst (List.append_inj_left' e rfl)
/-- what is left after a beginning -/
def restL (ys : List V) (came : List Int) : List Int := (fullL ys).filter fun c => decide (c ∉ came)
theorem rest_lt (ys : List V) (came : List Int) : (restL ys came).Pairwise (· < ·) := List.Pairwise.filter _ (fullA_lt ys)
theorem rest_mem {ys : List V} {came : List Int} {c : Int} : c ∈ restL ys came ↔ c ∈ fullL ys ∧ c ∉ came := by
  unfold restL
  rw [List.mem_filter, decide_eq_true_eq]
theorem want_ivl {ys : List V} {R : List Int} (h : ∀ c ∈ R, c ∈ fullL ys) : Ivl (wantL ys) R := by
  refine ⟨fun c hc => want_self hc, fun c hc x hx z h1 h2 => ?_, fun c hc x hx z h1 h2 => ?_⟩
  · obtain ⟨i, rfl, hi, _⟩ := fullL_mem.mp (h c hc)
    exact want_left hx (by omega) h1 h2
  · obtain ⟨i, rfl, hi, _⟩ := fullL_mem.mp (h c hc)
    exact want_right hx (by omega) h1 h2
theorem agrees_vo {ys : List V} (hp : Poss ys) {came q : List Int} (hc : agreesL ys came = true) (hq : ∀ c ∈ q, c ∈ fullL ys) : agreesL ys (came ++ q) = true ↔ VO (wantL ys) (restL ys came) q := by
  induction q using snoc_ind with
  | h0 =>
    rw [List.append_nil]
    exact ⟨fun _ => vo_nil, fun _ => hc⟩
  | h1 q c ih =>
    rw [← List.append_assoc, fit_mem.agrees_snoc, vo_snoc, ih fun d hd => hq d (List.mem_append_left _ hd)]
    refine and_congr_right fun _ => ?_
    constructor
    · intro h e he hr
      rcases List.mem_append.mp (h e he) with h | h
      · exact absurd h (rest_mem.mp hr).2
      · exact h
    · intro h e he
      by_cases hec : e ∈ came
      · exact List.mem_append_left _ hec
      · exact List.mem_append_right _ (h e he (rest_mem.mpr ⟨hp.gap c (hq c (by simp)) e he, hec⟩))
theorem begins_len {ys : List V} (hp : Poss ys) {came : List Int} (hn : came.Nodup) (hs : ∀ c ∈ came, c ∈ fullL ys) (ha : agreesL ys came = true) :
    ((fitL ys).filter fun o => decide (o.take came.length = came)).length = cnt (wantL ys) (restL ys came) (restL ys came) := by
  have hrn : (restL ys came).Nodup := (rest_lt ys came).imp fun h e => by omega
  have hm := fun q => ordsF_mem (W := wantL ys) (R := restL ys came) (fun c hc => want_self hc) (q := q) (rfl : (restL ys came).length = _) hrn
  have hl : came.length + (restL ys came).length = (fullL ys).length := by
    have h1 : ((fullL ys).filter fun c => !decide (c ∉ came)).Perm came := by
      refine (List.perm_ext_iff_of_nodup (((fullA_lt ys).imp fun h e => by omega : (fullL ys).Nodup).filter _) hn).mpr fun c => ?_
      rw [List.mem_filter]
      constructor
      · rintro ⟨_, h⟩
        simpa using h
      · intro h
        exact ⟨hs c h, by simpa using h⟩
    have h2 := (List.filter_append_perm (fun c => decide (c ∉ came)) (fullL ys)).length_eq
    rw [List.length_append, h1.length_eq] at h2
    unfold restL
    omega
  show _ = (ords (wantL ys) (restL ys came) (restL ys came)).length
  rw [← List.length_map (f := (came ++ ·)) (as := ords (wantL ys) (restL ys came) (restL ys came))]
  refine same_len ((fit_nd ys _).filter _) (List.Pairwise.map _ (fun u v h e => h (List.append_cancel_left e)) (ordsF_nd hrn)) fun o => ?_
  rw [List.mem_filter, decide_eq_true_eq, List.mem_map]
  constructor
  · rintro ⟨ho, ht⟩
    obtain ⟨h1, h2, h3, h4⟩ := fit_mem ho
    have eo : o = came ++ o.drop came.length := by
      have h5 := List.take_append_drop came.length o
      rw [ht] at h5
      exact h5.symm
    refine ⟨o.drop came.length, (hm _).mpr ⟨?_, ?_⟩, eo.symm⟩
    · rw [eo, List.nodup_append] at h2
      refine (List.perm_ext_iff_of_nodup h2.2.1 hrn).mpr fun c => ?_
      rw [rest_mem]
      constructor
      · intro hc
        exact ⟨h3 c (List.mem_of_mem_drop hc), fun h => h2.2.2 c h c hc rfl⟩
      · rintro ⟨hc, hcn⟩
        have := len_full h1 (by rw [eo, List.nodup_append]; exact h2) h3 c hc
        rw [eo] at this
        rcases List.mem_append.mp this with h | h
        · exact absurd h hcn
        · exact h
    · rw [eo] at h4
      exact (agrees_vo hp ha fun c hc => h3 c (List.mem_of_mem_drop hc)).mp h4
  · rintro ⟨q, hq, rfl⟩
    obtain ⟨p1, p2⟩ := (hm q).mp hq
    have hqf : ∀ c ∈ q, c ∈ fullL ys := fun c hc => (rest_mem.mp (p1.mem_iff.mp hc)).1
    refine ⟨?_, by rw [List.take_left]⟩
    have hal := (agrees_vo hp ha hqf).mpr p2
    have hnd : (came ++ q).Nodup := by
      rw [List.nodup_append]
      refine ⟨hn, p1.symm.nodup hrn, fun a ha' b hb e => ?_⟩
      subst e
      exact (rest_mem.mp (p1.mem_iff.mp hb)).2 ha'
    have := fit_all hnd (fun c hc => by
      rcases List.mem_append.mp hc with h | h
      · exact hs c h
      · exact hqf c h) hal
    rw [List.length_append, p1.length_eq, hl] at this
    exact this
/-- how many orders begin so -/
def afterN (ys : List V) (came : List Int) : Nat := ((fitL ys).filter fun o => decide (o.take came.length = came)).length
theorem after_zero {ys : List V} {came : List Int} (h : ¬ (Poss ys ∧ agreesL ys came = true)) : afterN ys came = 0 := by
  unfold afterN
  rw [List.length_eq_zero_iff, List.filter_eq_nil_iff]
  intro o ho hd
  rw [decide_eq_true_eq] at hd
  have hp := fit_poss (List.ne_nil_of_mem ho)
  refine h ⟨hp, ?_⟩
  obtain ⟨_, _, _, h4⟩ := fit_mem ho
  rw [← hd]
  exact agrees_take h4
where
  agrees_take {ys : List V} {o : List Int} {k : Nat} (h : agreesL ys o = true) : agreesL ys (o.take k) = true := by
    induction o using snoc_ind with
    | h0 => rw [List.take_nil]; exact h
    | h1 q c ih =>
      rcases Nat.lt_or_ge q.length k with hk | hk
      · rw [List.take_of_length_le (by rw [List.length_append, List.length_singleton]; omega)]
        exact h
      · rw [List.take_append_of_le_length hk]
        exact ih (fit_mem.agrees_snoc.mp h).1
/-- what is left of ds after cs -/
def leftL (ds cs : List Int) : List Int := ds.filter fun c => decide (c ∉ cs)
end NS

/-! ### a dict comprehension whose keys are tuples -/
namespace NS
open PySem PySem.Spec PyProof.Rows L2
section
variable {X : Cx}
theorem setT {pins : List (Addr × Obj)} {σ : L2.St} {G : Hp} {t : Shared} {E : Value → Shared → Prop} {D a : Addr} {kvs : List (List Key × V)} {k : List Key} {v : V} {r : Value} {Z : Unit → Shared → Prop} (hu : X.A.units < cLine) (J : Inv X pins σ G t)
    (hD : G D = some (.dT kvs)) (ha : G a = some (.tup (k.map kV))) (hz : kvs.length < sizeLine) (rv : RelV v r) (q : ∀ t', Inv X pins σ (upd G D (.dT (putK kvs k v))) t' → Z () t') : wpAny (model X.prog X.w) X.A (dictSet D (.ref a) r) Z E t := by
  obtain ⟨z, y, xs, rel, dd⟩ := dt_of J.hok hD
  have l1 : xs.length ≤ sizeLine := by rw [← Paired.length rel]; exact z
  have l2 : (putK kvs k v).length ≤ sizeLine := by
    have := length_putK kvs k v
    omega
  refine wpAny_dictSet_heap (hsz := l1) hu (key_of J.hok ha) dd fun h1 d1 sb => q _ ?_
  obtain ⟨o, es, ep, ho, b2, b3, b4, _, b5⟩ := d1
  refine d_write J (by rw [hD]; exact True.intro) sb ⟨o, ho⟩ ⟨l2, y, _, (rel.put k ha rv).keeps fun c zs ec => ?_, o, es, ep, ho, b2, b3, b4, b5⟩
  rw [upd_ne (ne_of ec hD (fun e => nomatch e))]
  exact ec
/-- the reading: D the new dict -/
def tDcT (wi : TI) (g : TG) (tt : TT) (tk tv : TE) (vs : List Nat) : TE := fun σ G Q => wi σ G fun J G1 => ∀ D, G1 D = none → ∃ Z : Nat → Nat → Hp → Prop, (∃ m, Z 0 m (upd G1 D (.dT []))) ∧ ∀ i m G, Z i m G →
  (J.stop i G ∧ Q (.ref D) G) ∨ (J.go i G ∧ ∃ N : Hp → Prop, (∀ G', N G' → ∃ m', m' < m ∧ Z (i + 1) m' G') ∧ ∀ x G', J.yld i G x G' → g x (wipe σ vs) G' fun τ G2 => wipe τ vs = wipe σ vs ∧ tt τ G2 fun b G3 =>
    if b = true then tk τ G3 fun y G4 => tv τ G4 fun z G5 => ∃ kvs k a, y = .ref a ∧ G5 a = some (.tup (k.map kV)) ∧ G5 D = some (.dT kvs) ∧ kvs.length < sizeLine ∧ N (upd G5 D (.dT (putK kvs k z))) else N G3)
theorem dcT_core {kx vx tg itr : Expr} {ifs : List Expr} {sc : Scope} {own : List (Str × Nat)} {pos pos' : Pos} {wi : TI} {g : TG} {tt : TT} {tk tv : TE} {use : Option (Value → Sem Unit)} {Qf : Value → Shared → Prop} {pins : List (Addr × Obj)} {t : Shared} {σ : L2.St} {G : Hp} {Q : VK} (hu : X.A.units < cLine) (calm : X.calm = true) (nd : X.N.Nodup) (J : Inv X pins σ G t) (pi : PI X tg itr wi) (ok : BlkOk X.N X.env.scope sc own)
    (hg : ∀ (t : Shared) (G : Hp) (C : Addr) (cl : List (Str × Addr)) (fp : List Addr), PG (X.blk t G sc (compEnvC sc cl C X.env) fp) tg g) (ht : ∀ (t : Shared) (G : Hp) (C : Addr) (cl : List (Str × Addr)) (fp : List Addr), PTs (X.blk t G sc (compEnvC sc cl C X.env) fp) ifs tt)
    (hk : ∀ (t : Shared) (G : Hp) (C : Addr) (cl : List (Str × Addr)) (fp : List Addr), PE (X.blk t G sc (compEnvC sc cl C X.env) fp) kx tk)
    (hv : ∀ (t : Shared) (G : Hp) (C : Addr) (cl : List (Str × Addr)) (fp : List Addr), PE (X.blk t G sc (compEnvC sc cl C X.env) fp) vx tv) (hs : ∀ x, foldedSetIterable itr X.env x = pure x)
    (rd : tDcT wi g tt tk tv (own.map (·.2)) σ G Q)
    (hRR : ∀ D C s' m H', Inv X pins σ H' s' → Q (.ref D) H' → s'.heap.Ns C m → FpOk X pins H' C → compPost (model X.prog X.w) X.A X.xe use Qf (.ref D) C (.ok .next) s') :
    wpAny (model X.prog X.w) X.A (comprehension (.DictComp kx vx [⟨tg, itr, ifs, 0⟩] sc pos) sc X.env pos' newDict false (eval itr X.env) use) Qf X.xe t := by
  have cells : ∀ y ∈ sc.names, y.2 = .free → ∃ c, X.env.cells.lookup y.1 = some c := fun y hy e => (ok.free y hy e).elim (fun k => J.ok.has _ (.inl k)) fun k => J.ok.has _ (.inr k)
  refine wpAny_comprehension_free rfl hs (closure_ok cells) ok.kind (fun y hy e => by rw [ok.uniq y hy, e]) (thn (pi.run pins t σ G _ J rd) fun _ t1 h1 => thn h1 fun _ t2 h2 => ?_)
  obtain ⟨it, fp, tn, I, G2, rfl, J2, T, st2, f2, q⟩ := h2
  refine wpAny_newObj_type (newEnv_comp ?_)
  generalize eD : t2.heap.objs.size = D
  have free2 : G2 D = none := J2.hok.fresh (Nat.le_of_eq eD)
  obtain ⟨Z, ⟨m0, z0⟩, turn⟩ := q D free2
  generalize e3 : ({ t2 with heap := t2.heap.push { cls := .type "dict", data := .dict #[] } } : Shared) = t3
  have J3 : Inv X pins σ (upd G2 D (.dT [])) t3 := by
    subst e3
    refine J2.laid (t' := t2.toks) (fun b o e => Heap.get?_push_of_some _ e) (Nat.le_of_eq eD) ?_
    subst eD
    exact dt_empty t2.heap J2.big
  have hp3 : t3.heap = t2.heap.push { cls := .type "dict", data := .dict #[] } := by subst e3; rfl
  have f3 : ∀ b ∈ fp, FpOk X pins (upd G2 D (.dT [])) b ∧ b < t3.heap.objs.size := fun b hb => by
    obtain ⟨o, eo, _⟩ := T.obj _ _ st2 b hb
    have lt := Heap.lt_size eo
    refine ⟨⟨?_, (f2 b hb).2⟩, by rw [hp3, Heap.size_push]; exact Nat.lt_succ_of_lt lt⟩
    rw [upd_ne (fun e => absurd (eD ▸ e ▸ lt) (Nat.lt_irrefl _))]
    exact (f2 b hb).1
  have st3 : tn 0 t3.heap := T.keep _ _ _ st2 fun b _ o e => by rw [hp3]; exact Heap.get?_push_of_some _ e
  have J4 := block_start J3 ok nd f3
  show codeAny _ _ (.compStart (.DictComp kx vx [⟨tg, itr, ifs, 0⟩] sc pos) 0 (.ref it) (.ref D) (compEnvC sc (cellsFrom (t3.heap.objs.size + 1) sc.names (cloFrom X.env.cells sc.names [])) t3.heap.objs.size X.env)) (compPost (model X.prog X.w) X.A X.xe use _ (.ref D) t3.heap.objs.size) { t3 with heap := pushCells (t3.heap.push { cls := .type "dict", data := .dict #[] }) sc.names }
  generalize cellsFrom (t3.heap.objs.size + 1) sc.names (cloFrom X.env.cells sc.names []) = cl at J4 ⊢
  have pg := hg t3 (upd G2 D (.dT [])) t3.heap.objs.size cl fp
  have pt := ht t3 (upd G2 D (.dT [])) t3.heap.objs.size cl fp
  have pk := hk t3 (upd G2 D (.dT [])) t3.heap.objs.size cl fp
  have pw := hv t3 (upd G2 D (.dT [])) t3.heap.objs.size cl fp
  have loc : (compEnvC sc cl t3.heap.objs.size X.env).locals = t3.heap.objs.size := rfl
  have nf3 : ∀ b ∈ fp, (upd G2 D (.dT [])) b = none := fun b hb => (f3 b hb).1.1
  have st4 : tn 0 (pushCells (t3.heap.push { cls := .type "dict", data := .dict #[] }) sc.names) := T.keep _ _ _ st3 fun b _ o e => pushCells_keeps _ _ _ _ (Heap.get?_push_of_some _ e)
  generalize compEnvC sc cl t3.heap.objs.size X.env = ce at J4 pg pt pk pw loc ⊢
  generalize upd G2 D (.dT []) = G3 at J3 J4 pg pt pk pw z0 nf3 f3
  obtain ⟨t4, e4⟩ : ∃ t4 : Shared, t4 = { t3 with heap := pushCells (t3.heap.push { cls := .type "dict", data := .dict #[] }) sc.names } := ⟨_, rfl⟩
  have st4' : tn 0 t4.heap := by rw [e4]; exact st4
  rw [← e4] at J4 ⊢
  have still : ∀ {τ : L2.St} {G' : Hp} {t' : Shared}, Inv (X.blk t3 G3 sc ce fp) [] τ G' t' → (∀ b ∈ fp, G' b = none) → ∀ b ∈ fp, FpOk (X.blk t3 G3 sc ce fp) [] G' b := fun {τ G' t'} J' none' b hb =>
    ⟨none' b hb, (J'.ok.exf b hb).1, J'.ok.exfs b hb, .inl hb, fun x c e => (J'.ok.exf b hb).2 x c e, fun p hp => absurd (show p ∈ ([] : List (Addr × Obj)) ++ [] from hp) (by simp)⟩
  have loop : codeAny (model X.prog X.w) X.A (.compLoop (.DictComp kx vx [⟨tg, itr, ifs, 0⟩] sc pos) 0 (.ref it) (.ref D) ce) (compPost (model X.prog X.w) X.A X.xe use Qf (.ref D) t3.heap.objs.size) t4 := by
    refine compLoop_anyD (fun n u => ∃ i G', Inv (X.blk t3 G3 sc ce fp) [] (wipe σ (own.map (·.2))) G' u ∧ tn i u.heap ∧ (∀ b ∈ fp, G' b = none) ∧ Z i n G') (fun n u hI => ?_) m0 ⟨0, G3, J4, st4', nf3, z0⟩
    obtain ⟨i, G5, J5, st5, n5, z5⟩ := hI
    rcases turn i n G5 z5 with ⟨stop, fin⟩ | ⟨go, N, hN, step⟩
    · refine thnF (T.done (X.blk t3 G3 sc ce fp) rfl rfl rfl calm i [] u _ G5 (fun _ _ => False) J5 (still J5 n5) st5 stop) fun _ u6 ⟨er, J6⟩ => ?_
      subst er
      have J7 : Inv X pins σ G5 u6 := J3.call' (ch := fp) J6.os J6.base J6.hok J6.bare fun b hb =>
        let z := (f3 b hb).1.2
        ⟨z.2.2.1, z.1, z.2.2.2.1, z.2.2.2.2⟩
      have nC : G5 ce.locals = none := J6.free
      obtain ⟨m, hm, _⟩ := J6.loc
      change u6.heap.Ns ce.locals m at hm
      rw [loc] at hm nC
      exact hRR D _ u6 m G5 J7 fin hm (J3.fpOk (Nat.le_refl _) nC)
    · refine thnF (T.item (X.blk t3 G3 sc ce fp) rfl rfl rfl calm i [] u _ G5 (fun _ _ => False) J5 (still J5 n5) st5 go) fun _ u6 ⟨v, er, h6⟩ => ?_
      subst er
      refine thnF h6 fun _ u7 ⟨x, G7, J7, r7, y7, st7, n7⟩ => ?_
      refine thnF (pg.run _ u7 _ G7 x v _ (J7.pinned (still J7 n7) (T.obj _ _ st7)) r7 (step x G7 y7)) fun _ u8 ⟨τ, G8, J8, ew, q8⟩ => ?_
      refine thnF (pt.run _ u8 τ G8 _ J8 q8) fun b u9 ⟨G9, J9, q9⟩ => ?_
      have close : ∀ {u' : Shared} {G' : Hp}, Inv (X.blk t3 G3 sc ce fp) ([] ++ pinsAt fp u7.heap) τ G' u' → N G' → ∃ m, m < n ∧ ∃ i G', Inv (X.blk t3 G3 sc ce fp) [] (wipe σ (own.map (·.2))) G' u' ∧ tn i u'.heap ∧ (∀ b ∈ fp, G' b = none) ∧ Z i m G' := fun {u' G'} J' nx => by
        obtain ⟨m', lt, z'⟩ := hN G' nx
        have pins' : ∀ b ∈ fp, ∀ o, u7.heap.get? b = some o → u'.heap.get? b = some o ∧ G' b = none := fun b hb o e =>
          let z := J'.pin (b, o) (List.mem_append_right _ (List.mem_append_right _ (mem_pinsAt hb e)))
          ⟨z.1, z.2.1⟩
        refine ⟨m', lt, i + 1, G', (J'.unpinned (pins := [])).weak (by rw [← ew, wipe_length]) (fun j v e => ?_), T.keep _ _ _ st7 fun b hb o e => (pins' b hb o e).1, fun b hb => ?_, z'⟩
        · rw [← ew] at e
          exact (wipe_some e).1
        · obtain ⟨o, e, _⟩ := T.obj _ _ st7 b hb
          exact (pins' b hb o e).2
      cases b with
      | false =>
        rw [if_neg Bool.false_ne_true] at q9 ⊢
        exact close J9 q9
      | true =>
        rw [if_pos rfl] at q9 ⊢
        refine thnF (pk.run _ u9 τ G9 _ J9 q9) fun kv u10 ⟨y, G10, J10, r10, q10⟩ => ?_
        refine thnF (pw.run _ u10 τ G10 _ J10 q10) fun vv u11 ⟨z, G11, J11, r11, kvs, k, a, ey, hka, hD, hz, nx⟩ => ?_
        subst ey
        cases r10
        exact setT (X := X.blk t3 G3 sc ce fp) hu J11 hD hka hz r11 fun u12 J12 => close J12 nx
  exact codeAny_compStart_dict loop (T.self X.A 0 _ _ _ st4' loop)
theorem pe_dcT {kx vx tg itr : Expr} {ifs : List Expr} {sc : Scope} {own : List (Str × Nat)} {pos : Pos} {wi : TI} {g : TG} {tt : TT} {tk tv : TE} (hu : X.A.units < cLine) (calm : X.calm = true) (nd : X.N.Nodup) (pi : PI X tg itr wi) (ok : BlkOk X.N X.env.scope sc own)
    (hg : ∀ (t : Shared) (G : Hp) (C : Addr) (cl : List (Str × Addr)) (fp : List Addr), PG (X.blk t G sc (compEnvC sc cl C X.env) fp) tg g) (ht : ∀ (t : Shared) (G : Hp) (C : Addr) (cl : List (Str × Addr)) (fp : List Addr), PTs (X.blk t G sc (compEnvC sc cl C X.env) fp) ifs tt)
    (hk : ∀ (t : Shared) (G : Hp) (C : Addr) (cl : List (Str × Addr)) (fp : List Addr), PE (X.blk t G sc (compEnvC sc cl C X.env) fp) kx tk)
    (hv : ∀ (t : Shared) (G : Hp) (C : Addr) (cl : List (Str × Addr)) (fp : List Addr), PE (X.blk t G sc (compEnvC sc cl C X.env) fp) vx tv) (hs : ∀ x, foldedSetIterable itr X.env x = pure x := by intro _; rfl) :
    PE X (.DictComp kx vx [⟨tg, itr, ifs, 0⟩] sc pos) (tDcT wi g tt tk tv (own.map (·.2))) := by
  constructor
  intro pins t σ G Q J rd
  rw [arm_eval_DictComp]
  refine dcT_core hu calm nd J pi ok hg ht hk hv hs rd fun D C u6 m H' J7 q hm f => ⟨m, hm, fun h7 sb => ?_⟩
  obtain ⟨c0, c1, c2, c3, c4, c5⟩ := f
  exact ⟨.ref D, H', J7.turned (t' := u6.toks) (fun b o hb e => (sb.2 b hb).trans e) c0 c1 c3 c4 c5, rfl, q⟩
/-- name = {..} on one line, the name a local -/
theorem ps_setDcT {i : Nat} {y : Str} {py : Pos} {kx vx tg itr : Expr} {ifs : List Expr} {sc : Scope} {own : List (Str × Nat)} {pos spos : Pos} {wi : TI} {g : TG} {tt : TT} {tk tv : TE} (hu : X.A.units < cLine) (calm : X.calm = true) (nd : X.N.Nodup) (hy : X.N[i]? = some y) (hyl : X.env.scope.names.lookup y = some .local)
    (hsw : swapsWith (.DictComp kx vx [⟨tg, itr, ifs, 0⟩] sc pos) (some (.Name y py)) spos.line X.env = pure true) (pi : PI X tg itr wi) (ok : BlkOk X.N X.env.scope sc own)
    (hg : ∀ (t : Shared) (G : Hp) (C : Addr) (cl : List (Str × Addr)) (fp : List Addr), PG (X.blk t G sc (compEnvC sc cl C X.env) fp) tg g) (ht : ∀ (t : Shared) (G : Hp) (C : Addr) (cl : List (Str × Addr)) (fp : List Addr), PTs (X.blk t G sc (compEnvC sc cl C X.env) fp) ifs tt)
    (hk : ∀ (t : Shared) (G : Hp) (C : Addr) (cl : List (Str × Addr)) (fp : List Addr), PE (X.blk t G sc (compEnvC sc cl C X.env) fp) kx tk)
    (hv : ∀ (t : Shared) (G : Hp) (C : Addr) (cl : List (Str × Addr)) (fp : List Addr), PE (X.blk t G sc (compEnvC sc cl C X.env) fp) vx tv) (hs : ∀ x, foldedSetIterable itr X.env x = pure x := by intro _; rfl) :
    PS X (.Assign [.Name y py] (.DictComp kx vx [⟨tg, itr, ifs, 0⟩] sc pos) spos) (tAsg (tDcT wi g tt tk tv (own.map (·.2))) (gName i)) := by
  refine ⟨fun pins s σ H D I h => ?_⟩
  rw [exec_Assign_Name_used _ _ _ _ hsw]
  refine wpAny_bind (wpAny_standAt (wpAny_bind ?_))
  show wpAny _ X.A (do let _ ← comprehension (.DictComp kx vx [⟨tg, itr, ifs, 0⟩] sc pos) sc X.env (firstIterPos [⟨tg, itr, ifs, 0⟩] pos) newDict false (eval itr X.env) (some (assign (.Name y py) X.env))) _ _ s
  have h : tDcT wi g tt tk tv (own.map (·.2)) σ H (fun x H1 => gName i x σ H1 D.nx) := h
  refine wpAny_bind (thn (dcT_core (Qf := fun _ s' => SP X pins D .next s') hu calm nd I pi ok hg ht hk hv hs h fun L C s' m H' I' q hn f => ?_) fun _ s' hq => wpAny_pure (wpAny_pure hq))
  show wpAny _ _ (assign (.Name y py) X.env (.ref L)) _ _ _
  refine wpAny_assign_Name (store_ok2 (v := V.ref L) I' nd hy (.inl hyl) rfl (fun s2 I2 ⟨a, sb, ha⟩ => ?_) (.inr hyl))
  obtain ⟨f0, f1, f2, f3, f4, f5⟩ := f
  have haC : C ≠ a := by
    rcases ha with z | z
    · rw [z]; exact f1
    · exact fun e => f4 y a z e.symm
  refine ⟨m, hn.sameBut sb haC, fun h3 sb3 => ?_⟩
  exact ⟨_, H', I2.turned (t' := s2.toks) (fun b o hb e => (sb3.2 b hb).trans e) f0 f1 f3 f4 f5, q⟩
theorem sw_trueD {kx vx : Expr} {gs : List Comprehension} {scope : Scope} {pos py : Pos} {y : Str} {l : Nat} {env : Env} (hk : env.scope.kind = .function) (hy : env.scope.names.lookup y = some .local) (hl : (py.line == pos.line) = true)
    (ha : (scope.names.any fun (n, k) => n == y && (k == .local || k == .cell)) = false) : swapsWith (.DictComp kx vx gs scope pos) (some (.Name y py)) l env = pure true := by
  have ky : env.kindOf y = some .local := hy
  have hb : env.blockKind = .function := by unfold Env.blockKind; rw [hk]; rfl
  unfold swapsWith
  simp only [hb, ky, ha, Expr.pos, hl]
  rfl
end
/-- over a walk -/
theorem dcT_it {J : It} {n : Nat} {Gd : Hp → Prop} {Y : Nat → Hp → V → Hp → Prop} (wk : Walk J n Gd Y) {g : TG} {tt : TT} {tk tv : TE} {vs : List Nat} {σ : L2.St} {H1 : Hp} {D : Addr} {Qd : Hp → Prop} (Pv : Nat → Hp → Prop) (h0 : Pv 0 (upd H1 D (.dT []))) (hG : ∀ i H, i ≤ n → Pv i H → Gd H)
    (hs : ∀ i x H H', i < n → Pv i H → Y i H x H' → g x (wipe σ vs) H' fun τ H2 => wipe τ vs = wipe σ vs ∧ tt τ H2 fun b H3 =>
      if b = true then tk τ H3 fun y H4 => tv τ H4 fun z H5 => ∃ kvs k a, y = .ref a ∧ H5 a = some (.tup (k.map kV)) ∧ H5 D = some (.dT kvs) ∧ kvs.length < sizeLine ∧ Pv (i + 1) (upd H5 D (.dT (putK kvs k z))) else Pv (i + 1) H3) (hd : ∀ H, Pv n H → Qd H) :
    ∃ Z : Nat → Nat → Hp → Prop, (∃ m, Z 0 m (upd H1 D (.dT []))) ∧ ∀ i m G, Z i m G →
      (J.stop i G ∧ Qd G) ∨ (J.go i G ∧ ∃ N : Hp → Prop, (∀ G', N G' → ∃ m', m' < m ∧ Z (i + 1) m' G') ∧ ∀ x G', J.yld i G x G' → g x (wipe σ vs) G' fun τ G2 => wipe τ vs = wipe σ vs ∧ tt τ G2 fun b G3 =>
        if b = true then tk τ G3 fun y G4 => tv τ G4 fun z G5 => ∃ kvs k a, y = .ref a ∧ G5 a = some (.tup (k.map kV)) ∧ G5 D = some (.dT kvs) ∧ kvs.length < sizeLine ∧ N (upd G5 D (.dT (putK kvs k z))) else N G3) := by
  refine ⟨fun i m H => m + i = n ∧ Pv i H, ⟨n, Nat.add_zero n, h0⟩, fun i m H hZ => ?_⟩
  obtain ⟨hm, pv⟩ := hZ
  by_cases lt : i < n
  · exact .inr ⟨wk.goes i H lt (hG i H (Nat.le_of_lt lt) pv), Pv (i + 1), fun H' p' => ⟨m - 1, by omega, by omega, p'⟩, fun x H' y => hs i x H H' lt pv (wk.yields i H x H' lt (hG i H (Nat.le_of_lt lt) pv) y)⟩
  · have e : i = n := by omega
    subst e
    exact .inl ⟨wk.stops H (hG i H (Nat.le_refl _) pv), hd H pv⟩
end NS

/-! ### orders by their numbers -/
namespace NS
open PySem L2
/-- all orders that go on from a beginning, j cells more -/
def fitFrom (ys : List V) : Nat → List Int → List (List Int)
  | 0, s => [s]
  | j + 1, s => (readyL ys s).flatMap fun c => fitFrom ys j (s ++ [c])
theorem fitN_from (ys : List V) : ∀ (j k : Nat), fitN ys (k + j) = (fitN ys k).flatMap (fitFrom ys j)
  | 0, k => by
    rw [Nat.add_zero]
    have : fitFrom ys 0 = fun s => [s] := rfl
    rw [this, List.flatMap_singleton']
  | j + 1, k => by
    rw [show k + (j + 1) = (k + 1) + j by omega, fitN_from ys j (k + 1), fitN, List.flatMap_assoc]
    congr 1
    funext s
    rw [List.flatMap_map]
    rfl
theorem fitL_from (ys : List V) : fitL ys = fitFrom ys (fullL ys).length [] := by
  have := fitN_from ys (fullL ys).length 0
  rw [Nat.zero_add] at this
  show fitN ys (fullL ys).length = _
  rw [this, fitN, List.flatMap_cons, List.flatMap_nil, List.append_nil]
theorem from_take {ys : List V} : ∀ {j : Nat} {s o : List Int}, o ∈ fitFrom ys j s → o.take s.length = s
  | 0, s, o, h => by
    rw [fitFrom, List.mem_singleton] at h
    subst h
    exact List.take_length
  | j + 1, s, o, h => by
    rw [fitFrom, List.mem_flatMap] at h
    obtain ⟨c, _, ho⟩ := h
    have h1 := from_take ho
    rw [List.length_append, List.length_singleton] at h1
    have h2 : (o.take (s.length + 1)).take s.length = (s ++ [c]).take s.length := by rw [h1]
    rw [List.take_take, Nat.min_eq_left (Nat.le_succ _), List.take_left] at h2
    exact h2
theorem from_len {ys : List V} {s : List Int} {k j : Nat} (hs : s ∈ fitN ys k) (hj : k + j = (fullL ys).length) : (fitFrom ys j s).length = afterN ys s := by
  obtain ⟨hk, _⟩ := fit_mem hs
  have hL : fitL ys = (fitN ys k).flatMap (fitFrom ys j) := by
    show fitN ys (fullL ys).length = _
    rw [← hj]
    exact fitN_from ys j k
  have hnd : (fitL ys).Nodup := fit_nd ys _
  unfold afterN
  refine same_len ?_ (hnd.filter _) fun o => ?_
  · rw [hL] at hnd
    unfold List.Nodup at hnd
    rw [List.pairwise_flatMap] at hnd
    exact hnd.1 s hs
  · rw [List.mem_filter, decide_eq_true_eq]
    constructor
    · intro h
      refine ⟨?_, from_take h⟩
      rw [hL]
      exact List.mem_flatMap.mpr ⟨s, hs, h⟩
    · rintro ⟨h1, h2⟩
      rw [hL] at h1
      obtain ⟨s', hs', h3⟩ := List.mem_flatMap.mp h1
      have h4 := from_take h3
      rw [(fit_mem hs').1] at h4
      rw [hk] at h2
      rw [h4] at h2
      subst h2
      exact h3
/-- what one part holds, and where it begins -/
theorem flat_at {α β : Type} {f : α → List β} : ∀ {l : List α} {i : Nat} {x : α}, l[i]? = some x → ∀ n, n < (f x).length → (l.flatMap f)[((l.take i).map fun y => (f y).length).sum + n]? = (f x)[n]?
  | [], i, x, h, n, _ => by simp at h
  | y :: l, 0, x, h, n, hn => by
    cases h
    rw [List.flatMap_cons, List.take_zero, List.map_nil, List.sum_nil, Nat.zero_add, List.getElem?_append_left hn]
  | y :: l, i + 1, x, h, n, hn => by
    rw [List.flatMap_cons, List.take_succ_cons, List.map_cons, List.sum_cons, Nat.add_assoc, List.getElem?_append_right (by omega), Nat.add_sub_cancel_left]
    exact flat_at (l := l) (i := i) (by simpa using h) n hn
theorem flat_pos {ys : List V} {s : List Int} {c : Int} {j n : Nat} (hc : c ∈ readyL ys s) (hn : n < (fitFrom ys j (s ++ [c])).length) :
    (fitFrom ys (j + 1) s)[(((readyL ys s).filter fun d => decide (d < c)).map fun d => (fitFrom ys j (s ++ [d])).length).sum + n]? = (fitFrom ys j (s ++ [c]))[n]? := by
  obtain ⟨i, hi⟩ := List.getElem?_of_mem hc
  have e : (readyL ys s).filter (fun d => decide (d < c)) = (readyL ys s).take i := by
    have hasc : (readyL ys s).Pairwise (· < ·) := List.Pairwise.filter _ (fullA_lt ys)
    obtain ⟨hil, hic⟩ := List.getElem?_eq_some_iff.mp hi
    have hsplit : readyL ys s = (readyL ys s).take i ++ (readyL ys s).drop i := (List.take_append_drop i _).symm
    have hd : (readyL ys s).drop i = c :: (readyL ys s).drop (i + 1) := by rw [← hic, List.getElem_cons_drop]
    rw [hsplit, hd, List.pairwise_append, List.pairwise_cons] at hasc
    obtain ⟨_, ⟨a2, _⟩, a3⟩ := hasc
    conv => lhs; rw [hsplit, hd]
    rw [List.filter_append, List.filter_eq_self.mpr fun d hd' => decide_eq_true (a3 d hd' c (List.mem_cons_self ..)), List.filter_eq_nil_iff.mpr, List.append_nil]
    intro d hd'
    rw [decide_eq_true_eq]
    rcases List.mem_cons.mp hd' with rfl | hd'
    · omega
    · have := a2 d hd'
      omega
  rw [e]
  exact flat_at (f := fun d => fitFrom ys j (s ++ [d])) hi n hn
theorem ready_fit {ys : List V} {s : List Int} {k : Nat} {c : Int} (hs : s ∈ fitN ys k) (hc : c ∈ readyL ys s) : s ++ [c] ∈ fitN ys (k + 1) := by
  rw [fitN]
  exact List.mem_flatMap.mpr ⟨s, hs, List.mem_map.mpr ⟨c, hc, rfl⟩⟩
/-- how many lie before those that begin with s and then c -/
def lowerN (ys : List V) (s : List Int) (c : Int) : Nat := (((readyL ys s).filter fun d => decide (d < c)).map fun d => afterN ys (s ++ [d])).sum
def numberN (ys : List V) (o : List Int) (t : Nat) : Nat := ((List.range t).map fun i => lowerN ys (o.take i) (o.getD i 0)).sum
theorem number_at {ys : List V} {o : List Int} (ho : o ∈ fitL ys) : ∀ (t j : Nat), t + j = (fullL ys).length → o.take t ∈ fitN ys t ∧ ∀ n, n < (fitFrom ys j (o.take t)).length → (fitL ys)[numberN ys o t + n]? = (fitFrom ys j (o.take t))[n]?
  | 0, j, h => by
    rw [Nat.zero_add] at h
    subst h
    refine ⟨List.mem_singleton.mpr rfl, fun n _ => ?_⟩
    rw [fitL_from]
    show _[0 + n]? = _
    rw [Nat.zero_add]
    rfl
  | t + 1, j, h => by
    obtain ⟨h1, h2⟩ := number_at ho t (j + 1) (by omega)
    obtain ⟨ol, on, os, oa⟩ := fit_mem ho
    have htl : t < o.length := by omega
    have et : o.take (t + 1) = o.take t ++ [o.getD t 0] := by
      rw [List.take_succ, List.getElem?_eq_getElem htl, List.getD_eq_getElem?_getD, List.getElem?_eq_getElem htl]
      rfl
    have hag := after_zero.agrees_take (k := t + 1) oa
    rw [et] at hag
    have hnd : (o.take (t + 1)).Nodup := on.sublist (List.take_sublist _ _)
    rw [et, List.nodup_append] at hnd
    have hc : o.getD t 0 ∈ readyL ys (o.take t) := by
      refine ready_iff.mpr ⟨os _ ?_, fun hm => hnd.2.2 _ hm _ (List.mem_singleton.mpr rfl) rfl, (fit_mem.agrees_snoc.mp hag).2⟩
      rw [List.getD_eq_getElem?_getD, List.getElem?_eq_getElem htl]
      exact List.getElem_mem htl
    refine ⟨by rw [et]; exact ready_fit h1 hc, fun n hn => ?_⟩
    rw [et] at hn ⊢
    have hp := flat_pos hc hn
    have el : (((readyL ys (o.take t)).filter fun d => decide (d < o.getD t 0)).map fun d => (fitFrom ys j (o.take t ++ [d])).length).sum = lowerN ys (o.take t) (o.getD t 0) := by
      unfold lowerN
      congr 1
      refine List.map_congr_left fun d hd => ?_
      exact from_len (ready_fit h1 (List.mem_filter.mp hd).1) (by omega)
    rw [el] at hp
    have en : numberN ys o (t + 1) = numberN ys o t + lowerN ys (o.take t) (o.getD t 0) := by
      unfold numberN
      rw [List.range_succ, List.map_append, List.sum_append]
      simp
    rw [en, Nat.add_assoc, h2 _ ?_]
    · exact hp
    · rw [List.getElem?_eq_getElem hn] at hp
      exact (List.getElem?_eq_some_iff.mp hp).1
theorem number_is {ys : List V} {o : List Int} (ho : o ∈ fitL ys) : (fitL ys)[numberN ys o o.length]? = some o := by
  obtain ⟨ol, _⟩ := fit_mem ho
  obtain ⟨_, h⟩ := number_at ho o.length 0 (by omega)
  have := h 0 (by rw [fitFrom]; exact Nat.one_pos)
  rw [Nat.add_zero, fitFrom, List.take_length] at this
  exact this
theorem number_eq {ys : List V} {o : List Int} {r : Nat} (h : (fitL ys)[r]? = some o) : numberN ys o o.length = r := by
  have h1 := number_is (List.mem_of_getElem? h)
  have hl : numberN ys o o.length < (fitL ys).length := (List.getElem?_eq_some_iff.mp h1).1
  exact (List.getElem?_inj hl (fit_nd ys _)).mp (h1.trans h.symm)
theorem fit_grow {ys : List V} (hp : Poss ys) {k : Nat} (hk : k < (fullL ys).length) : (fitN ys k).length ≤ (fitN ys (k + 1)).length := by
  rw [fitN, List.length_flatMap]
  have : ∀ l : List (List Int), (∀ s ∈ l, s ∈ fitN ys k) → l.length ≤ (l.map fun s => ((readyL ys s).map fun c => s ++ [c]).length).sum := fun l => by
    induction l with
    | nil => intro _; exact Nat.zero_le _
    | cons s r ih =>
      intro hl
      rw [List.map_cons, List.sum_cons, List.length_cons, List.length_map]
      have h1 := ih fun x hx => hl x (List.mem_cons_of_mem _ hx)
      have h2 := List.length_pos_iff.mpr (ready_some hp (left_some (hl s (List.mem_cons_self ..)) hk))
      omega
  exact this _ fun s hs => hs
theorem fit_most {ys : List V} (hp : Poss ys) {k : Nat} (hk : k ≤ (fullL ys).length) : (fitN ys k).length ≤ (fitL ys).length := by
  have : ∀ j, k + j ≤ (fullL ys).length → (fitN ys k).length ≤ (fitN ys (k + j)).length := fun j => by
    induction j with
    | zero => intro _; exact Nat.le_refl _
    | succ j ih => intro h; exact Nat.le_trans (ih (by omega)) (fit_grow hp (by omega))
  have h := this ((fullL ys).length - k) (by omega)
  rw [show k + ((fullL ys).length - k) = (fullL ys).length by omega] at h
  exact h
theorem after_nil (ys : List V) : afterN ys [] = (fitL ys).length := by
  unfold afterN
  congr 1
  exact List.filter_eq_self.mpr fun o _ => by simp
end NS

/-! ### what comes next after a beginning -/
namespace NS
open PySem L2
theorem from_some {ys : List V} (hp : Poss ys) : ∀ {j k : Nat} {s : List Int}, s ∈ fitN ys k → k + j = (fullL ys).length → fitFrom ys j s ≠ []
  | 0, _, _, _, _ => List.cons_ne_nil _ _
  | j + 1, k, s, hs, hk => by
    have hr := ready_some hp (left_some hs (by omega))
    obtain ⟨c, hc⟩ := List.exists_mem_of_ne_nil _ hr
    obtain ⟨o, ho⟩ := List.exists_mem_of_ne_nil _ (from_some hp (j := j) (ready_fit hs hc) (by omega))
    rw [fitFrom]
    exact List.ne_nil_of_mem (List.mem_flatMap.mpr ⟨c, hc, ho⟩)
theorem from_fit {ys : List V} {j k : Nat} {s o : List Int} (hs : s ∈ fitN ys k) (hk : k + j = (fullL ys).length) (ho : o ∈ fitFrom ys j s) : o ∈ fitL ys := by
  show o ∈ fitN ys (fullL ys).length
  rw [← hk, fitN_from ys j k]
  exact List.mem_flatMap.mpr ⟨s, hs, ho⟩
def goodL (ys : List V) (ld : List Int) : List (List Int) := (fitL ys).filter fun o => decide (o.take ld.length = ld)
theorem next_mem {ys : List V} {ld : List Int} (hn : ld.Nodup) (hs : ∀ c ∈ ld, c ∈ fullL ys) {c : Int} (b : Bool) (hb : b = true ↔ Poss ys ∧ agreesL ys ld = true) : c ∈ (if b = true then readyL ys ld else []) ↔ ∃ o ∈ goodL ys ld, o[ld.length]? = some c := by
  unfold goodL
  constructor
  · intro h
    cases b with
    | false => cases h
    | true =>
      rw [if_pos rfl] at h
      obtain ⟨hp, ha⟩ := hb.mp rfl
      have hf := fit_all hn hs ha
      have hf2 := ready_fit hf h
      have hle : ld.length + 1 ≤ (fullL ys).length := by
        obtain ⟨h1, h2, h3, _⟩ := fit_mem hf2
        have := sub_len h2 h3
        omega
      obtain ⟨o, ho⟩ := List.exists_mem_of_ne_nil _ (from_some hp (j := (fullL ys).length - (ld.length + 1)) hf2 (by omega))
      have ht := from_take ho
      rw [List.length_append, List.length_singleton] at ht
      refine ⟨o, List.mem_filter.mpr ⟨from_fit hf2 (by omega) ho, decide_eq_true ?_⟩, ?_⟩
      · have h2 : (o.take (ld.length + 1)).take ld.length = (ld ++ [c]).take ld.length := by rw [ht]
        rw [List.take_take, Nat.min_eq_left (Nat.le_succ _), List.take_left] at h2
        exact h2
      · have h2 : (o.take (ld.length + 1))[ld.length]? = (ld ++ [c])[ld.length]? := by rw [ht]
        rw [List.getElem?_take, if_pos (Nat.lt_succ_self _), List.getElem?_concat_length] at h2
        exact h2
  · rintro ⟨o, ho, hc⟩
    rw [List.mem_filter, decide_eq_true_eq] at ho
    obtain ⟨ho, ht⟩ := ho
    have hp := fit_poss (List.ne_nil_of_mem ho)
    obtain ⟨ol, on, os, oa⟩ := fit_mem ho
    have ha : agreesL ys ld = true := by
      rw [← ht]
      exact after_zero.agrees_take oa
    rw [if_pos (hb.mpr ⟨hp, ha⟩)]
    have et : o.take (ld.length + 1) = ld ++ [c] := by
      rw [List.take_succ, hc, ht]
      rfl
    have ha2 := after_zero.agrees_take (k := ld.length + 1) oa
    rw [et] at ha2
    have hnd : (o.take (ld.length + 1)).Nodup := on.sublist (List.take_sublist _ _)
    rw [et, List.nodup_append] at hnd
    exact ready_iff.mpr ⟨os c (List.mem_of_getElem? hc), fun hm => hnd.2.2 _ hm _ (List.mem_singleton.mpr rfl) rfl, (fit_mem.agrees_snoc.mp ha2).2⟩
theorem asc_eq {a b : List Int} (ha : a.Pairwise (· < ·)) (hb : b.Pairwise (· < ·)) (h : ∀ x, x ∈ a ↔ x ∈ b) : a = b := by
  have hp : a.Perm b := (List.perm_ext_iff_of_nodup (ha.imp fun h e => by omega) (hb.imp fun h e => by omega)).mpr h
  exact List.Perm.eq_of_pairwise (le := (· < ·)) (fun x y _ _ h1 h2 => by omega) ha hb hp
end NS

/-! ### t.index(k) of a tuple of ints, xs.extend(t) -/
namespace NS
open PySem PySem.Spec PyProof.Rows L2
section
variable {X : Cx}
def rTidx (K : PySem.W.Frag) : V → List V → Hp → VK → Prop := fun x xs H Q => ∃ (p : Addr) (ns : List Int) (z : Int) (j : Nat), x = .ref p ∧ xs = [.int z] ∧ SqT K H p (ns.map V.int) ∧ ns[j]? = some z ∧ (∀ m, m < j → ns[m]? ≠ some z) ∧ Q (.int (j : Nat)) H
theorem mt_tidx : MtR X "tuple.index" (rTidx X.K) := by
  intro pins t σ H x xs v us Q I rx rs h
  obtain ⟨p, ns, z, j, rfl, rfl, hq, hj, hno, q⟩ := h
  cases rx
  obtain ⟨u, rfl, tk, rfl⟩ := vals1 rs
  obtain ⟨its, r, ⟨⟨oc, od, odt, osl⟩, ho, hc, n, hd⟩, _⟩ := I.tuple hq
  cases (show oc = .type "tuple" from hc)
  cases (show odt = .seq its.toArray n from hd)
  have lens : its.toArray.size = ns.length := by rw [List.size_toArray, ← r.length, List.length_map]
  have lj : j < its.toArray.size := by rw [lens]; exact (List.getElem?_eq_some_iff.mp hj).1
  have item : ∀ (m : Nat) (hm : m < its.toArray.size), ∃ y t', ns[m]? = some y ∧ its.toArray[m] = Value.int y t' := fun m hm => by
    have lm : m < ns.length := by rw [← lens]; exact hm
    obtain ⟨v, hv, t', ev⟩ := r.get (i := m) (x := .int ns[m]) (by rw [List.getElem?_map, List.getElem?_eq_getElem lm]; rfl)
    refine ⟨ns[m], t', List.getElem?_eq_getElem lm, ?_⟩
    have e := (List.getElem?_eq_some_iff.mp hv).2
    rw [← ev, ← e]
    simp
  refine call_meets PySem.F.slot_tuple_index ⟨_, ho, rfl⟩ PySem.F.entry_tuple_index (PySem.F.args_tuple_index_2 _ _) (TI.tuple_indexAt p its.toArray n od osl (.int z tk) (eqU (.int z)) j lj ?_ ?_)
    ⟨ho, fun v hv => mem_eqAt (x := .int z) ⟨tk, rfl⟩ rfl r (flat_ints ns) v (by simpa using hv), ⟨.int (j : Nat), H, I.tok _, ⟨_, rfl⟩, q⟩⟩
  · obtain ⟨y, t', h1, h2⟩ := item j lj
    rw [hj] at h1
    cases h1
    rw [h2]
    show (z == z) = true
    simp
  · intro m hm hmj
    obtain ⟨y, t', h1, h2⟩ := item m hm
    rw [h2]
    show (y == z) = false
    rw [beq_eq_false_iff_ne]
    intro e
    subst e
    exact hno m hmj h1
theorem mt_tidxK {K : PySem.W.Frag} (e : X.K = K) : MtR X "tuple.index" (rTidx K) := by subst e; exact mt_tidx
/-- t.count(x), flat items -/
def rTcount (K : PySem.W.Frag) : V → List V → Hp → VK → Prop := fun x xs H Q => ∃ (p : Addr) (zs : List V) (z : V), x = .ref p ∧ xs = [z] ∧ SqT K H p zs ∧ flatV z = true ∧ zs.all flatV = true ∧ Q (.int ((zs.countP fun y => eqV y z : Nat) : Int)) H
theorem count_eqU {x : V} : ∀ {xs : List V} {us : List Value}, Vals xs us → xs.all flatV = true → us.countP (eqU x) = xs.countP fun y => eqV y x
  | _, _, .nil, _ => rfl
  | y :: xs, u :: us, .cons r t, f => by
    rw [List.all_cons, Bool.and_eq_true] at f
    rw [List.countP_cons, List.countP_cons, eqU_of r f.1, count_eqU t f.2]
theorem mt_tcount : MtR X "tuple.count" (rTcount X.K) := by
  intro pins t σ H x xs v us Q I rx rs h
  obtain ⟨p, zs, z, rfl, rfl, hq, fz, fs, q⟩ := h
  cases rx
  obtain ⟨u, rfl, ru⟩ := rs.one
  obtain ⟨its, r, ⟨⟨oc, od, odt, osl⟩, ho, hc, n, hd⟩, _⟩ := I.tuple hq
  cases (show oc = .type "tuple" from hc)
  cases (show odt = .seq its.toArray n from hd)
  refine call_meets PySem.F.slot_tuple_count ⟨_, ho, rfl⟩ PySem.F.entry_tuple_count (PySem.F.args_tuple_count_2 _ _) (SeqAt.tuple_countAt p its.toArray n od osl u (eqU z))
    ⟨ho, fun w hw => mem_eqAt ru fz r fs w (by simpa using hw), ?_⟩
  have ec : its.toArray.toList.countP (eqU z) = zs.countP fun y => eqV y z := count_eqU r fs
  refine ⟨.int ((zs.countP fun y => eqV y z : Nat) : Int), H, I.tok _, ⟨t.toks, ?_⟩, q⟩
  show Value.int ((its.toArray.toList.countP (eqU z) : Nat) : Int) t.toks = Value.int ((zs.countP fun y => eqV y z : Nat) : Int) t.toks
  rw [ec]
theorem mt_tcountK {K : PySem.W.Frag} (e : X.K = K) : MtR X "tuple.count" (rTcount K) := by subst e; exact mt_tcount
def rExtT (K : PySem.W.Frag) : V → List V → Hp → VK → Prop := fun x vs H Q => ∃ l b xs zs, x = .ref l ∧ vs = [.ref b] ∧ H l = some (.lst xs) ∧ SqT K H b zs ∧ xs.length + zs.length ≤ sizeLine ∧ Q .non (upd H l (.lst (xs ++ zs)))
theorem mt_extT : MtR X "list.extend" (rExtT X.K) := by
  intro pins t σ H x vs v us Q I rx rv h
  obtain ⟨l, b, xs, zs, rfl, rfl, hl, hb, hz, q⟩ := h
  cases rx
  obtain ⟨u, rfl, ru⟩ := rv.one
  cases ru
  obtain ⟨z, its, n, r, hn, e⟩ := I.lstM hl
  obtain ⟨its2, r2, ⟨⟨oc, od, odt, osl⟩, ho, hc, n2, hd⟩, z2⟩ := I.tuple hb
  cases (show oc = .type "tuple" from hc)
  cases (show odt = .seq its2.toArray n2 from hd)
  have l2 := r2.length
  have fit : its.toArray.size + its2.toArray.size ≤ sizeLine := by rw [List.size_toArray, List.size_toArray]; omega
  have few : ¬ (!its.toArray.isEmpty && Builtin.List.listTooLong (its.toArray.size + its2.toArray.size)) = true := by
    rw [notLongL fit, Bool.and_false]
    decide
  have tl : t.heap.get? l = some (seqObj "list" its.toArray n) := e
  refine wpAny_call_entry PySem.F.slot_list_extend ⟨_, e, rfl⟩ PySem.F.entry_list_extend ?_ (PySem.F.args_list_extend_2 _ _)
  show wpAny _ _ (Builtin.List.listExtendWith (.ref l) (.ref b) .none) _ _ t
  unfold Builtin.List.listExtendWith
  refine wpAny_bind (wpAny_typeOf (T := "tuple") ⟨_, ho, rfl⟩ ?_)
  have ty : (Value.type "tuple" == Value.type "tuple") = true := by rfl
  rw [if_pos (by rw [ty]; simp)]
  refine wpAny_bind (listItems_at ho rfl (wpAny_bind (listItems_at (xs := its.toArray) (n := n) e rfl ?_)))
  rw [if_neg few]
  refine wpAny_bind (listUpdate_at (xs := its.toArray) (n := n) e rfl (wpAny_pure ⟨_, rfl, ?_⟩) (by rw [List.size_toArray]; omega) (by show (its.toArray ++ its2.toArray).size ≤ sizeLine + 1; rw [Array.size_append]; omega))
  refine ⟨.non, _, I.lset (its' := its ++ its2) hl e (by simp) (r.append r2) ?_, rfl, q⟩
  rw [List.length_append]
  omega
theorem pe_bmK {K : PySem.W.Frag} {o e : Expr} {es : List Expr} {to : TE} {t : TA} {name : Str} {apos cpos : Pos} {T id : String} {r : V → List V → Hp → VK → Prop} (e0 : X.K = K) (pa : PlainAttrs T) (slot : Slot T name id) (hty : typeOf (.builtin id) = pure (.type "method_descriptor")) (hm : MtR X id r) (ho : PE X o to) (ha : PA X (e :: es) t)
    (h1 : attributeBase o name X.env (eval o X.env) = eval o X.env := by rfl)
    (h2 : ((backTo cpos (starEach (e :: es) X.env)).all (fun x => !x.1) && (backToKw cpos (keywordEach [] X.env)).all (fun x => x.1.isSome) && decide ((e :: es).length + ([] : List Keyword).length + (if ([] : List Keyword).isEmpty then 0 else 1) < 30)) = true := by rfl)
    (h3 : (apos.endLine == cpos.line) = true := by rfl) (h4 : starEach (e :: es) X.env = (false, eval e X.env) :: starEach es X.env := by rfl) (h5 : (backTo cpos (starEach es X.env)).any (·.1) = false := by rfl) :
    PE X (.Call (.Attribute o name apos) (e :: es) [] cpos) (tBM K T r to t) := by
  subst e0
  exact pe_bm pa slot hty hm ho ha h1 h2 h3 h4 h5
end
end NS

/-! ### orders counted by the time of an object, and by which of two comes first -/
namespace NS
open PySem L2
theorem bin_symm : ∀ (a b : Nat), bin (a + b) a = bin (a + b) b
  | 0, b => by rw [Nat.zero_add, bin_zero, bin_self]
  | a + 1, 0 => by rw [Nat.add_zero, bin_zero, bin_self]
  | a + 1, b + 1 => by
    have h1 := bin_symm a (b + 1)
    have h2 := bin_symm (a + 1) b
    rw [show a + 1 + (b + 1) = (a + (b + 1)) + 1 by omega, bin, bin]
    rw [show a + 1 + b = a + (b + 1) by omega] at h2
    rw [h1, h2, Nat.add_comm]
termination_by a b => a + b
theorem bin_pos : ∀ {n k : Nat}, k ≤ n → 0 < bin n k
  | n, 0, _ => by rw [bin_zero]; decide
  | 0, k + 1, h => absurd h (by omega)
  | n + 1, k + 1, h => by
    rw [bin]
    have := bin_pos (n := n) (k := k) (by omega)
    omega
/-- in how many merged rows an element that is own-th in its row of A is t-th -/
def mk (own A B t : Nat) : Nat := if own ≤ t ∧ t ≤ own + B then bin t own * bin (A - 1 + B - t) (B - (t - own)) else 0
theorem mk_zero {A B : Nat} (hA : 0 < A) : mk 0 A B 0 = bin (A - 1 + B) (A - 1) := by
  unfold mk
  rw [if_pos ⟨Nat.le_refl _, Nat.zero_le _⟩, bin_zero, Nat.one_mul, Nat.sub_zero, Nat.sub_zero, bin_symm]
theorem mk_succ0 {A B t : Nat} : mk 0 A (B + 1) (t + 1) = mk 0 A B t := by
  unfold mk
  by_cases h : t ≤ B
  · rw [if_pos ⟨Nat.zero_le _, by omega⟩, if_pos ⟨Nat.zero_le _, by omega⟩, bin_zero, bin_zero, show A - 1 + (B + 1) - (t + 1) = A - 1 + B - t by omega, show B + 1 - (t + 1 - 0) = B - (t - 0) by omega]
  · rw [if_neg (by omega), if_neg (by omega)]
theorem mk_succ {own A B t : Nat} (hA : own < A) : mk (own + 1) (A + 1) (B + 1) (t + 1) = mk own A (B + 1) t + mk (own + 1) (A + 1) B t := by
  unfold mk
  by_cases h : own ≤ t ∧ t ≤ own + (B + 1)
  · rw [if_pos h, if_pos (show own + 1 ≤ t + 1 ∧ t + 1 ≤ own + 1 + (B + 1) by omega)]
    rw [show A + 1 - 1 + (B + 1) - (t + 1) = A - 1 + (B + 1) - t by omega, show B + 1 - (t + 1 - (own + 1)) = B + 1 - (t - own) by omega, bin, Nat.add_mul]
    congr 1
    by_cases h2 : own + 1 ≤ t
    · rw [if_pos (show own + 1 ≤ t ∧ t ≤ own + 1 + B by omega), show A + 1 - 1 + B - t = A - 1 + (B + 1) - t by omega, show B - (t - (own + 1)) = B + 1 - (t - own) by omega]
    · rw [if_neg (by omega), bin_big (by omega), Nat.zero_mul]
  · rw [if_neg h, if_neg (by omega), if_neg (by omega)]
theorem shuf_mem_of {x : Int} : ∀ {a b s : List Int}, s ∈ shuf a b → (x ∈ s ↔ x ∈ a ∨ x ∈ b)
  | [], b, s, h => by
    rw [shuf_nil, List.mem_singleton] at h
    subst h
    simp
  | z :: a, [], s, h => by
    rw [shuf_nil2, List.mem_singleton] at h
    subst h
    simp
  | z :: a, y :: b, s, h => by
    rw [shuf, List.mem_append, List.mem_map, List.mem_map] at h
    rcases h with ⟨r, hr, rfl⟩ | ⟨r, hr, rfl⟩
    · have := shuf_mem_of (x := x) hr
      rw [List.mem_cons, this, List.mem_cons, List.mem_cons, or_assoc]
    · have := shuf_mem_of (x := x) hr
      rw [List.mem_cons, this, List.mem_cons, List.mem_cons]
      constructor
      · rintro (h | (h | h) | h)
        · exact .inr (.inl h)
        · exact .inl (.inl h)
        · exact .inl (.inr h)
        · exact .inr (.inr h)
      · rintro ((h | h) | (h | h))
        · exact .inr (.inl (.inl h))
        · exact .inr (.inl (.inr h))
        · exact .inl h
        · exact .inr (.inr h)
termination_by a b => a.length + b.length
theorem shuf_length : ∀ {a b s : List Int}, s ∈ shuf a b → s.length = a.length + b.length
  | [], b, s, h => by
    rw [shuf_nil, List.mem_singleton] at h
    subst h
    simp
  | z :: a, [], s, h => by
    rw [shuf_nil2, List.mem_singleton] at h
    subst h
    simp
  | z :: a, y :: b, s, h => by
    rw [shuf, List.mem_append, List.mem_map, List.mem_map] at h
    rcases h with ⟨r, hr, rfl⟩ | ⟨r, hr, rfl⟩
    · rw [List.length_cons, shuf_length hr, List.length_cons, List.length_cons]
      omega
    · rw [List.length_cons, shuf_length hr, List.length_cons, List.length_cons]
      omega
termination_by a b => a.length + b.length
theorem cp_map {α β : Type} (f : α → β) (P : β → Bool) (l : List α) : (l.map f).countP P = l.countP fun x => P (f x) := List.countP_map
theorem cp_false {α : Type} {P : α → Bool} {l : List α} (h : ∀ x ∈ l, P x = false) : l.countP P = 0 := List.countP_eq_zero.mpr fun x hx => by rw [h x hx]; decide
theorem cp_true {α : Type} {P : α → Bool} {l : List α} (h : ∀ x ∈ l, P x = true) : l.countP P = l.length := List.countP_eq_length.mpr h
theorem cp_congr {α : Type} {P Q : α → Bool} {l : List α} (h : ∀ x ∈ l, P x = Q x) : l.countP P = l.countP Q := List.countP_congr fun x hx => by rw [h x hx]
abbrev atT (x : Int) (t : Nat) : List Int → Bool := fun q => decide (q[t]? = some x)
/-- merged rows in which x, own-th of its row, is t-th -/
theorem shuf_at {x : Int} : ∀ {a b : List Int} {own t : Nat}, a.Nodup → a[own]? = some x → x ∉ b → (shuf a b).countP (atT x t) = mk own a.length b.length t
  | [], b, own, t, _, h, _ => by simp at h
  | z :: a, [], own, t, hd, h, _ => by
    rw [shuf_nil2, List.countP_singleton]
    have hlt : own < (z :: a).length := (List.getElem?_eq_some_iff.mp h).1
    by_cases e : t = own
    · subst e
      rw [if_pos (decide_eq_true h)]
      unfold mk
      rw [if_pos ⟨Nat.le_refl _, Nat.le_refl _⟩, bin_self, List.length_nil, Nat.sub_self, bin_zero]
    · have hne : ¬ (z :: a)[t]? = some x := fun h2 => e (((List.getElem?_inj hlt hd).mp (h.trans h2.symm)).symm)
      rw [if_neg (fun e => hne (of_decide_eq_true e))]
      unfold mk
      rw [if_neg (by rw [List.length_nil]; omega)]
  | z :: a, y :: b, own, t, hd, h, hx => by
    have hd' := List.nodup_cons.mp hd
    have hxy : x ≠ y := fun e => hx (by rw [e]; exact List.mem_cons_self ..)
    have hxb : x ∉ b := fun e => hx (List.mem_cons_of_mem _ e)
    rw [shuf, List.countP_append, cp_map, cp_map, List.length_cons, List.length_cons]
    cases t with
    | zero =>
      have e2 : ((shuf (z :: a) b).countP fun s => atT x 0 (y :: s)) = 0 := cp_false fun s _ => decide_eq_false fun e => hxy (by simpa using e.symm)
      rw [e2, Nat.add_zero]
      cases own with
      | zero =>
        have hz : z = x := by simpa using h
        rw [cp_true fun s _ => decide_eq_true (by rw [hz]; rfl), shuf_len, mk_zero (Nat.succ_pos _), List.length_cons]
        congr 1
      | succ o =>
        have hz : z ≠ x := fun e => by
          have : x ∈ a := List.mem_of_getElem? (i := o) (by simpa using h)
          rw [← e] at this
          exact hd'.1 this
        rw [cp_false fun s _ => decide_eq_false fun e => hz (by simpa using e)]
        unfold mk
        rw [if_neg (by omega)]
    | succ t =>
      have e1 : ((shuf (z :: a) b).countP fun s => atT x (t + 1) (y :: s)) = (shuf (z :: a) b).countP (atT x t) := cp_congr fun s _ => by
        show decide ((y :: s)[t + 1]? = some x) = decide (s[t]? = some x)
        rw [List.getElem?_cons_succ]
      rw [e1, shuf_at hd h hxb, List.length_cons]
      cases own with
      | zero =>
        have hz : z = x := by simpa using h
        rw [mk_succ0, cp_false fun s hs => decide_eq_false fun e => ?_, Nat.zero_add]
        have hm : x ∈ s := List.mem_of_getElem? (i := t) (by simpa using e)
        rcases (shuf_mem_of hs).mp hm with h' | h'
        · rw [← hz] at h'
          exact hd'.1 h'
        · exact hx h'
      | succ o =>
        have e2 : ((shuf a (y :: b)).countP fun s => atT x (t + 1) (z :: s)) = (shuf a (y :: b)).countP (atT x t) := cp_congr fun s _ => by
          show decide ((z :: s)[t + 1]? = some x) = decide (s[t]? = some x)
          rw [List.getElem?_cons_succ]
        have ho : a[o]? = some x := by simpa using h
        rw [e2, shuf_at hd'.2 ho hx, List.length_cons, mk_succ (List.getElem?_eq_some_iff.mp ho).1]
termination_by a b => a.length + b.length
theorem shuf_comm {p : Int → Bool} {a b : List Int} (ha : ∀ x ∈ a, p x = true) (hb : ∀ x ∈ b, p x = false) : (shuf a b).Perm (shuf b a) := by
  have hb' : ∀ x ∈ b, (fun x => !p x) x = true := fun x hx => by simp [hb x hx]
  have ha' : ∀ x ∈ a, (fun x => !p x) x = false := fun x hx => by simp [ha x hx]
  refine (List.perm_ext_iff_of_nodup (shuf_nd ha hb) (shuf_nd hb' ha')).mpr fun q => ?_
  rw [shuf_mem ha hb, shuf_mem hb' ha']
  have e : (q.filter fun x => !(!p x)) = q.filter p := List.filter_congr fun x _ => by simp
  rw [e]
  exact and_comm
/-! which of two comes first -/
def befB (x y : Int) : List Int → Bool
  | [] => false
  | c :: q => if c = x then decide (y ∈ q) else befB x y q
theorem bef_no {x y : Int} : ∀ {q : List Int}, y ∉ q → befB x y q = false
  | [], _ => rfl
  | c :: q, h => by
    rw [befB, bef_no (q := q) fun h' => h (List.mem_cons_of_mem _ h'), decide_eq_false fun h' => h (List.mem_cons_of_mem _ h'), ite_self]
theorem bef_filter {x y : Int} {p : Int → Bool} (hx : p x = true) (hy : p y = true) : ∀ q : List Int, befB x y (q.filter p) = befB x y q
  | [] => rfl
  | c :: q => by
    cases hc : p c with
    | true =>
      rw [List.filter_cons_of_pos hc, befB, befB, bef_filter hx hy q]
      have : decide (y ∈ q.filter p) = decide (y ∈ q) := by
        rw [decide_eq_decide, List.mem_filter]
        exact ⟨fun h => h.1, fun h => ⟨h, hy⟩⟩
      rw [this]
    | false =>
      rw [List.filter_cons_of_neg (by rw [hc]; decide), befB, if_neg (fun e => by rw [e, hx] at hc; cases hc), bef_filter hx hy q]
theorem bef_snoc {x y c : Int} (hx : c ≠ x) (hy : c ≠ y) : ∀ q : List Int, befB x y (q ++ [c]) = befB x y q
  | [] => by
    show (if c = x then decide (y ∈ ([] : List Int)) else befB x y []) = false
    rw [if_neg hx]
    rfl
  | d :: q => by
    rw [List.cons_append, befB, befB, bef_snoc hx hy q]
    have : decide (y ∈ q ++ [c]) = decide (y ∈ q) := by
      rw [decide_eq_decide, List.mem_append, List.mem_singleton]
      exact ⟨fun h => h.elim id fun e => absurd e.symm hy, .inl⟩
    rw [this]
theorem bef_lastY {x y : Int} (hxy : x ≠ y) : ∀ {q : List Int}, x ∈ q → befB x y (q ++ [y]) = true
  | [], h => nomatch h
  | d :: q, h => by
    rw [List.cons_append, befB]
    by_cases e : d = x
    · rw [if_pos e]
      exact decide_eq_true (List.mem_append_right _ (List.mem_singleton.mpr rfl))
    · rw [if_neg e]
      rcases List.mem_cons.mp h with h | h
      · exact absurd h.symm e
      · exact bef_lastY hxy h
theorem bef_lastX {x y : Int} (hxy : x ≠ y) : ∀ {q : List Int}, x ∉ q → befB x y (q ++ [x]) = false
  | [], _ => by
    show (if x = x then decide (y ∈ ([] : List Int)) else befB x y []) = false
    rw [if_pos rfl]
    rfl
  | d :: q, h => by
    rw [List.cons_append, befB, if_neg (fun e => h (by rw [e]; exact List.mem_cons_self ..))]
    exact bef_lastX hxy fun h' => h (List.mem_cons_of_mem _ h')
/-- x comes before y: their indices -/
theorem bef_idx {x y : Int} (hxy : x ≠ y) : ∀ {q : List Int} {i j : Nat}, q.Nodup → q[i]? = some x → q[j]? = some y → befB x y q = decide (i < j)
  | [], i, j, _, h, _ => by simp at h
  | c :: q, i, j, hd, hi, hj => by
    have hd' := List.nodup_cons.mp hd
    rw [befB]
    cases i with
    | zero =>
      have hc : c = x := by simpa using hi
      rw [if_pos hc]
      cases j with
      | zero =>
        have : c = y := by simpa using hj
        exact absurd (hc.symm.trans this) hxy
      | succ j =>
        rw [decide_eq_true (List.mem_of_getElem? (i := j) (by simpa using hj)), decide_eq_true (Nat.succ_pos j)]
    | succ i =>
      have hi' : q[i]? = some x := by simpa using hi
      have hc : c ≠ x := fun e => hd'.1 (by rw [e]; exact List.mem_of_getElem? hi')
      rw [if_neg hc]
      cases j with
      | zero =>
        have : c = y := by simpa using hj
        rw [bef_no (this ▸ hd'.1), decide_eq_false (Nat.not_lt_zero _)]
      | succ j =>
        rw [bef_idx hxy hd'.2 hi' (by simpa using hj), decide_eq_decide]
        omega
/-- h of the A ones are ahead of one that is o-th of the B others -/
def mf (h o A B : Nat) : Nat := bin (h + o) h * bin ((A - h) + (B - o - 1)) (A - h)
theorem mf_0 {h A B : Nat} (hB : 0 < B) : mf (h + 1) 0 (A + 1) B = mf h 0 A B := by
  unfold mf
  rw [Nat.add_zero (h + 1), Nat.add_zero h, bin_self, bin_self, show A + 1 - (h + 1) = A - h by omega]
theorem mf_succ {h o A B : Nat} : mf (h + 1) (o + 1) (A + 1) (B + 1) = mf h (o + 1) A (B + 1) + mf (h + 1) o (A + 1) B := by
  unfold mf
  rw [show h + 1 + (o + 1) = (h + (o + 1)) + 1 by omega, bin, Nat.add_mul, show A + 1 - (h + 1) = A - h by omega, show B + 1 - (o + 1) - 1 = B - o - 1 by omega, show h + 1 + o = h + (o + 1) by omega]
theorem mf_first {o A B : Nat} : mf 0 (o + 1) A (B + 1) = mf 0 o A B := by
  unfold mf
  rw [bin_zero, bin_zero, show B + 1 - (o + 1) - 1 = B - o - 1 by omega]
def mbN (one o A B : Nat) : Nat := ((List.range (A - one)).map fun j => mf (one + 1 + j) o A B).sum
def mbT (o A B : Nat) : Nat := ((List.range (A + 1)).map fun j => mf j o A B).sum
theorem sum_add {α : Type} {f g : α → Nat} : ∀ {l : List α}, (l.map fun x => f x + g x).sum = (l.map f).sum + (l.map g).sum
  | [] => rfl
  | x :: l => by
    rw [List.map_cons, List.map_cons, List.map_cons, List.sum_cons, List.sum_cons, List.sum_cons, sum_add]
    omega
theorem sum_head {n : Nat} {f : Nat → Nat} : ((List.range (n + 1)).map f).sum = f 0 + ((List.range n).map fun j => f (j + 1)).sum := by
  rw [List.range_succ_eq_map, List.map_cons, List.sum_cons, List.map_map]
  rfl
theorem mbT_eq : ∀ {o A B : Nat}, o < B → mbT o A B = bin (A + B) A
  | o, 0, B, h => by
    unfold mbT mf
    rw [bin_zero]
    simp [bin_zero]
  | 0, A + 1, B, h => by
    unfold mbT
    rw [sum_head]
    have e : ((List.range (A + 1)).map fun j => mf (j + 1) 0 (A + 1) B).sum = mbT 0 A B := by
      unfold mbT
      congr 1
      exact List.map_congr_left fun j _ => mf_0 h
    rw [e, mbT_eq h]
    unfold mf
    rw [bin_zero, Nat.one_mul, show A + 1 - 0 + (B - 0 - 1) = A + B by omega, show A + 1 - 0 = A + 1 by omega, show A + 1 + B = (A + B) + 1 by omega, bin]
    omega
  | o + 1, A + 1, B + 1, h => by
    have h1 := mbT_eq (o := o + 1) (A := A) (B := B + 1) h
    have h2 := mbT_eq (o := o) (A := A + 1) (B := B) (by omega)
    unfold mbT at *
    rw [sum_head, mf_first]
    have e : ((List.range (A + 1)).map fun j => mf (j + 1) (o + 1) (A + 1) (B + 1)) = (List.range (A + 1)).map fun j => mf j (o + 1) A (B + 1) + mf (j + 1) o (A + 1) B := List.map_congr_left fun j _ => mf_succ
    rw [e, sum_add, h1]
    rw [sum_head] at h2
    rw [show A + 1 + (B + 1) = (A + (B + 1)) + 1 by omega, bin, show A + (B + 1) = A + 1 + B by omega, ← h2]
    omega
  | o + 1, A + 1, 0, h => absurd h (by omega)
termination_by o A B => o + A + B
theorem mbN_0 {o A B : Nat} (h : o < B) : mbN 0 o (A + 1) B = bin (A + B) A + (if o = 0 then 0 else mbN 0 (o - 1) (A + 1) (B - 1)) := by
  cases o with
  | zero =>
    rw [if_pos rfl, Nat.add_zero, ← mbT_eq h]
    unfold mbN mbT
    congr 1
    refine List.map_congr_left fun j _ => ?_
    rw [show 0 + 1 + j = j + 1 by omega]
    exact mf_0 h
  | succ o =>
    rw [if_neg (Nat.succ_ne_zero o), ← mbT_eq h]
    obtain ⟨b, rfl⟩ : ∃ b, B = b + 1 := ⟨B - 1, by omega⟩
    unfold mbN mbT
    rw [show A + 1 - 0 = A + 1 by omega, ← sum_add]
    congr 1
    refine List.map_congr_left fun j _ => ?_
    rw [show 0 + 1 + j = j + 1 by omega]
    exact mf_succ
theorem mbN_succ {one o A B : Nat} (h : o < B) : mbN (one + 1) o (A + 1) B = mbN one o A B + (if o = 0 then 0 else mbN (one + 1) (o - 1) (A + 1) (B - 1)) := by
  unfold mbN
  rw [show A + 1 - (one + 1) = A - one by omega]
  cases o with
  | zero =>
    rw [if_pos rfl, Nat.add_zero]
    congr 1
    refine List.map_congr_left fun j _ => ?_
    rw [show one + 1 + 1 + j = (one + 1 + j) + 1 by omega]
    exact mf_0 h
  | succ o =>
    rw [if_neg (Nat.succ_ne_zero o), ← sum_add]
    obtain ⟨b, rfl⟩ : ∃ b, B = b + 1 := ⟨B - 1, by omega⟩
    congr 1
    refine List.map_congr_left fun j _ => ?_
    rw [show one + 1 + 1 + j = (one + 1 + j) + 1 by omega]
    exact mf_succ
/-- merged rows in which x of the one row comes before y of the other -/
theorem shuf_bef {x y : Int} (hxy : x ≠ y) : ∀ {a b : List Int} {one o : Nat}, a.Nodup → b.Nodup → a[one]? = some x → b[o]? = some y → x ∉ b → y ∉ a → (shuf a b).countP (befB x y) = mbN one o a.length b.length
  | [], b, one, o, _, _, h, _, _, _ => by simp at h
  | z :: a, [], one, o, _, _, _, h, _, _ => by simp at h
  | z :: a, c :: b, one, o, hda, hdb, ha, hb, hxb, hya => by
    have hda' := List.nodup_cons.mp hda
    have hdb' := List.nodup_cons.mp hdb
    have hxc : c ≠ x := fun e => hxb (by rw [e]; exact List.mem_cons_self ..)
    have hyz : z ≠ y := fun e => hya (by rw [e]; exact List.mem_cons_self ..)
    have hob : o < (c :: b).length := (List.getElem?_eq_some_iff.mp hb).1
    rw [shuf, List.countP_append, cp_map, cp_map, List.length_cons]
    have e2 : ((shuf (z :: a) b).countP fun s => befB x y (c :: s)) = if o = 0 then 0 else mbN one (o - 1) (a.length + 1) ((c :: b).length - 1) := by
      cases o with
      | zero =>
        have hc : c = y := by simpa using hb
        rw [if_pos rfl]
        refine cp_false fun s hs => ?_
        rw [befB, if_neg hxc]
        refine bef_no fun hm => ?_
        rcases (shuf_mem_of hs).mp hm with h | h
        · exact hya h
        · exact hdb'.1 (hc ▸ h)
      | succ o =>
        rw [if_neg (Nat.succ_ne_zero o), cp_congr (Q := befB x y) fun s _ => by rw [befB, if_neg hxc]]
        rw [shuf_bef hxy hda hdb'.2 ha (by simpa using hb) (fun h => hxb (List.mem_cons_of_mem _ h)) hya, List.length_cons, List.length_cons]
        rfl
    rw [e2]
    cases one with
    | zero =>
      have hz : z = x := by simpa using ha
      rw [mbN_0 hob, cp_true fun s hs => ?_, shuf_len]
      rw [befB, if_pos hz]
      exact decide_eq_true ((shuf_mem_of hs).mpr (.inr (List.mem_of_getElem? hb)))
    | succ one =>
      have ha' : a[one]? = some x := by simpa using ha
      have hz : z ≠ x := fun e => hda'.1 (by rw [e]; exact List.mem_of_getElem? ha')
      rw [mbN_succ hob, cp_congr (Q := befB x y) fun s _ => by rw [befB, if_neg hz]]
      rw [shuf_bef hxy hda'.2 hdb ha' hb hxb (fun h => hya (List.mem_cons_of_mem _ h))]
termination_by a b => a.length + b.length
section
variable {W : Int → List Int} {R : List Int}
/-- of the merged orders of two parts, those that fulfil P -/
def mixP (W : Int → List Int) (R A B : List Int) (P : List Int → Bool) : Nat := ((ords W R A).map fun a => ((ords W R B).map fun b => (shuf a b).countP P).sum).sum
theorem cp_flat {α β : Type} (f : α → List β) (P : β → Bool) : ∀ l : List α, (l.flatMap f).countP P = (l.map fun x => (f x).countP P).sum
  | [] => rfl
  | x :: l => by rw [List.flatMap_cons, List.countP_append, cp_flat f P l, List.map_cons, List.sum_cons]
theorem mix_perm {A B : List Int} {l : List (List Int)} (h : l.Perm ((ords W R A).flatMap fun a => (ords W R B).flatMap fun b => shuf a b)) (P : List Int → Bool) : l.countP P = mixP W R A B P := by
  rw [h.countP_eq, cp_flat]
  unfold mixP
  congr 1
  exact List.map_congr_left fun a _ => cp_flat _ _ _
theorem mix_congr {A B : List Int} {P Q : List Int → Bool} (h : ∀ a ∈ ords W R A, ∀ b ∈ ords W R B, ∀ s ∈ shuf a b, P s = Q s) : mixP W R A B P = mixP W R A B Q := by
  unfold mixP
  congr 1
  refine List.map_congr_left fun a ha => ?_
  congr 1
  exact List.map_congr_left fun b hb => cp_congr (h a ha b hb)
theorem sum_zero {α : Type} {f : α → Nat} : ∀ {l : List α}, (∀ x ∈ l, f x = 0) → (l.map f).sum = 0
  | [], _ => rfl
  | x :: l, h => by
    rw [List.map_cons, List.sum_cons, h x (List.mem_cons_self ..), sum_zero fun y hy => h y (List.mem_cons_of_mem _ hy)]
theorem mix_false {A B : List Int} {P : List Int → Bool} (h : ∀ a ∈ ords W R A, ∀ b ∈ ords W R B, ∀ s ∈ shuf a b, P s = false) : mixP W R A B P = 0 := by
  unfold mixP
  exact sum_zero fun a ha => sum_zero fun b hb => cp_false (h a ha b hb)
theorem mix_true (hself : ∀ c, c ∉ W c) {A B : List Int} (hA : A.Nodup) (hB : B.Nodup) {P : List Int → Bool} (h : ∀ a ∈ ords W R A, ∀ b ∈ ords W R B, ∀ s ∈ shuf a b, P s = true) : mixP W R A B P = bin (A.length + B.length) A.length * cnt W R A * cnt W R B := by
  have mA := fun q => ordsF_mem (W := W) (R := R) hself (q := q) (rfl : A.length = A.length) hA
  have mB := fun q => ordsF_mem (W := W) (R := R) hself (q := q) (rfl : B.length = B.length) hB
  unfold mixP
  rw [sum_const (k := cnt W R B * bin (A.length + B.length) A.length) fun a ha => ?_]
  · rw [Nat.mul_comm (bin _ _), Nat.mul_assoc, Nat.mul_comm (bin _ _)]
  · rw [sum_const (k := bin (A.length + B.length) A.length) fun b hb => ?_]
    rw [cp_true (h a ha b hb), shuf_len, ((mA a).mp ha).1.length_eq, ((mB b).mp hb).1.length_eq]
theorem cntP_rec (hi : Ivl W R) {B : List Int} (hB : Part W R B) (P : List Int → Bool) : B ≠ [] → (ords W R B).countP P = ((List.range B.length).map fun i => if okB W R B (B.getD i 0) = true then mixP W R (B.take i) (B.drop (i + 1)) (fun s => P (s ++ [B.getD i 0])) else 0).sum := by
  intro hne
  obtain ⟨n, hn⟩ : ∃ n, B.length = n + 1 := ⟨B.length - 1, by
    have := List.length_pos_iff.mpr hne
    omega⟩
  show (ordsF W R B.length B).countP P = _
  rw [hn, ordsF, cp_flat, ← hn]
  have e1 : (B.map fun c => (if okB W R B c = true then (ordsF W R n (B.erase c)).map (· ++ [c]) else []).countP P) = (List.range B.length).map fun i => if okB W R B (B.getD i 0) = true then mixP W R (B.take i) (B.drop (i + 1)) (fun s => P (s ++ [B.getD i 0])) else 0 := by
    refine List.ext_getElem (by rw [List.length_map, List.length_map, List.length_range]) fun i h1 h2 => ?_
    rw [List.length_map] at h1
    rw [List.getElem_map, List.getElem_map, List.getElem_range]
    have eg : B.getD i 0 = B[i] := by rw [List.getD_eq_getElem?_getD, List.getElem?_eq_getElem h1]; rfl
    rw [eg]
    cases hok : okB W R B B[i] with
    | false => rfl
    | true =>
      rw [if_pos rfl, if_pos rfl, cp_map, erase_at h1 hB.nd]
      have hsplit : B = B.take i ++ B[i] :: B.drop (i + 1) := by rw [List.getElem_cons_drop, List.take_append_drop]
      have hasc := hB.asc
      rw [hsplit, List.pairwise_append, List.pairwise_cons] at hasc
      obtain ⟨a1, ⟨a2, a3⟩, a4⟩ := hasc
      have lA : ∀ x ∈ B.take i, x < B[i] := fun x hx => a4 x hx _ (List.mem_cons_self ..)
      have hm : B[i] ∈ R := hB.sub _ (List.getElem_mem h1)
      have hlA : (B.take i).length = i := by rw [List.length_take]; omega
      have hlB : (B.drop (i + 1)).length = n - i := by rw [List.length_drop]; omega
      have hmn : B[i] ∉ B.take i ++ B.drop (i + 1) := fun h => by
        rcases List.mem_append.mp h with h | h
        · have := lA _ h
          omega
        · have := a2 _ h
          omega
      have hs := ords_perm (W := W) (R := R) hi.self (p := fun x => decide (x < B[i])) (A := B.take i) (B := B.drop (i + 1)) (a1.imp fun h e => by omega) (a3.imp fun h e => by omega)
        (fun x hx => decide_eq_true (lA x hx)) (fun x hx => decide_eq_false (by have := a2 x hx; omega))
        (fun c hc hall e he hr => by
          rcases List.mem_append.mp (hall e he hr) with h | h
          · exact h
          · have := hi.right c (hB.sub c (List.mem_of_mem_take hc)) e he B[i] (by have := a2 e h; omega) (lA c hc)
            exact absurd (hall _ this hm) hmn)
        (fun c hc hall e he hr => by
          rcases List.mem_append.mp (hall e he hr) with h | h
          · have := hi.left c (hB.sub c (List.mem_of_mem_drop hc)) e he B[i] (by have := lA e h; omega) (a2 c hc)
            exact absurd (hall _ this hm) hmn
          · exact h)
      have hlen : (B.take i ++ B.drop (i + 1)).length = n := by rw [List.length_append, hlA, hlB]; omega
      have hs2 : ordsF W R n (B.take i ++ B.drop (i + 1)) = ords W R (B.take i ++ B.drop (i + 1)) := by
        show _ = ordsF W R (B.take i ++ B.drop (i + 1)).length _
        rw [hlen]
      rw [hs2]
      exact mix_perm hs _
  rw [e1]
theorem partP_rec (hi : Ivl W R) (hR : R.Pairwise (· < ·)) {f e : Nat} (hfe : f < e) (he : e ≤ R.length) (P : List Int → Bool) :
    (ords W R (blk R f e)).countP P = ((lastsP W R f e).map fun a => mixP W R (blk R f a) (blk R (a + 1) e) (fun s => P (s ++ [R.getD a 0]))).sum := by
  have hl := blk_len (R := R) (Nat.le_of_lt hfe) he
  have hnd : R.Nodup := hR.imp fun h e => by omega
  rw [cntP_rec hi (blk_part hR f e) P (fun h => by rw [h] at hl; simp at hl; omega), hl]
  unfold lastsP
  rw [sum_filter, List.map_map]
  congr 1
  refine List.map_congr_left fun i hin => ?_
  have hi' : i < e - f := List.mem_range.mp hin
  simp only [Function.comp]
  rw [span_ok hnd (by omega) (by omega) (by omega), blk_get hi', blk_take (by omega), blk_drop]
  rfl
/-- in how many orders of the part object a is t-th -/
def timeN (W : Int → List Int) (R : List Int) (f e a t : Nat) : Nat := (ords W R (blk R f e)).countP (atT (R.getD a 0) t)
/-- in how many orders of the part object l is ahead of object r -/
def befN (W : Int → List Int) (R : List Int) (f e l r : Nat) : Nat := (ords W R (blk R f e)).countP (befB (R.getD l 0) (R.getD r 0))
theorem blk_mem_ord (hi : Ivl W R) (hR : R.Pairwise (· < ·)) {f e : Nat} {q : List Int} (hq : q ∈ ords W R (blk R f e)) : q.Perm (blk R f e) ∧ q.Nodup := by
  have hd := (blk_part (W := W) hR f e).nd
  have := (ordsF_mem (W := W) (R := R) hi.self (rfl : (blk R f e).length = _) hd).mp hq
  exact ⟨this.1, this.1.symm.nodup hd⟩
/-- a sum over orders, by the time of one object -/
theorem sum_by_time {x : Int} {n : Nat} {g : Nat → Nat} : ∀ {l : List (List Int)} {h : List Int → Nat}, (∀ q ∈ l, q.Nodup ∧ ∃ i, i < n ∧ q[i]? = some x ∧ h q = g i) → (l.map h).sum = ((List.range n).map fun i => l.countP (atT x i) * g i).sum
  | [], h, _ => by
    rw [List.map_nil, List.sum_nil]
    exact (sum_zero fun i _ => by rw [List.countP_nil, Nat.zero_mul]).symm
  | q :: l, h, hq => by
    obtain ⟨hd, i, hi, gi, hh⟩ := hq q (List.mem_cons_self ..)
    rw [List.map_cons, List.sum_cons, sum_by_time (g := g) fun q' h' => hq q' (List.mem_cons_of_mem _ h'), hh]
    have e1 : ((List.range n).map fun j => (q :: l).countP (atT x j) * g j) = (List.range n).map fun j => l.countP (atT x j) * g j + (if j = i then g i else 0) := by
      refine List.map_congr_left fun j _ => ?_
      rw [List.countP_cons, Nat.add_mul]
      congr 1
      by_cases c : j = i
      · subst c
        rw [if_pos (decide_eq_true gi), if_pos rfl, Nat.one_mul]
      · have hlt : i < q.length := (List.getElem?_eq_some_iff.mp gi).1
        rw [if_neg (fun z => c ((List.getElem?_inj hlt hd).mp (gi.trans (of_decide_eq_true z).symm)).symm), if_neg c, Nat.zero_mul]
    rw [e1, sum_add, Nat.add_comm]
    congr 1
    have : ∀ m, ((List.range m).map fun j => if j = i then g i else 0).sum = if i < m then g i else 0 := fun m => by
      induction m with
      | zero => rw [if_neg (Nat.not_lt_zero _)]; rfl
      | succ m ih =>
        rw [List.range_succ, List.map_append, List.sum_append, ih]
        simp only [List.map_cons, List.map_nil, List.sum_cons, List.sum_nil, Nat.add_zero]
        by_cases c1 : i < m
        · rw [if_pos c1, if_neg (by omega), if_pos (by omega), Nat.add_zero]
        · by_cases c2 : m = i
          · rw [if_neg c1, if_pos c2, if_pos (by omega), Nat.zero_add]
          · rw [if_neg c1, if_neg c2, if_neg (by omega)]
    rw [this, if_pos hi]
theorem sum_mul {α : Type} {f : α → Nat} {k : Nat} : ∀ {l : List α}, (l.map f).sum * k = (l.map fun x => f x * k).sum
  | [] => Nat.zero_mul _
  | x :: l => by rw [List.map_cons, List.sum_cons, List.map_cons, List.sum_cons, Nat.add_mul, sum_mul]
theorem sum_ite {α : Type} {P : α → Bool} {k : Nat} : ∀ {l : List α}, (l.map fun b => if P b = true then k else 0).sum = l.countP P * k
  | [] => (Nat.zero_mul _).symm
  | x :: l => by
    rw [List.map_cons, List.sum_cons, sum_ite, List.countP_cons, Nat.add_mul, Nat.add_comm]
    congr 1
    by_cases h : P x = true
    · rw [if_pos h, if_pos h, Nat.one_mul]
    · rw [if_neg h, if_neg h, Nat.zero_mul]
/-- two parts that do not touch -/
structure Sides (p : Int → Bool) (A B : List Int) : Prop where
  hA : A.Nodup
  hB : B.Nodup
  pA : ∀ x ∈ A, p x = true
  pB : ∀ x ∈ B, p x = false
theorem Sides.no {p : Int → Bool} {A B : List Int} (h : Sides p A B) {x : Int} (a : x ∈ A) (b : x ∈ B) : False := by
  have h1 := h.pA x a
  rw [h.pB x b] at h1
  cases h1
theorem ordp_at (hself : ∀ c, c ∉ W c) {A a : List Int} (hA : A.Nodup) (ha : a ∈ ords W R A) : a.Nodup ∧ a.length = A.length ∧ ∀ x, x ∈ a ↔ x ∈ A := by
  have := (ordsF_mem (W := W) (R := R) hself (q := a) (rfl : A.length = A.length) hA).mp ha
  exact ⟨this.1.symm.nodup hA, this.1.length_eq, fun x => this.1.mem_iff⟩
theorem idx_of {q : List Int} {x : Int} (h : x ∈ q) : ∃ i, i < q.length ∧ q[i]? = some x := by
  obtain ⟨i, hi⟩ := List.getElem?_of_mem h
  exact ⟨i, (List.getElem?_eq_some_iff.mp hi).1, hi⟩
theorem mix_atA (hself : ∀ c, c ∉ W c) {p : Int → Bool} {A B : List Int} (hs : Sides p A B) {x : Int} (hx : x ∈ A) (t : Nat) :
    mixP W R A B (atT x t) = ((List.range A.length).map fun own => (ords W R A).countP (atT x own) * mk own A.length B.length t).sum * cnt W R B := by
  have hxB : x ∉ B := fun h => hs.no hx h
  unfold mixP
  rw [sum_mul, sum_by_time (x := x) (n := A.length) (g := fun own => cnt W R B * mk own A.length B.length t) fun a ha => ?_]
  · congr 1
    refine List.map_congr_left fun own _ => ?_
    rw [Nat.mul_assoc, Nat.mul_comm (cnt W R B)]
  · obtain ⟨a1, a2, a3⟩ := ordp_at hself hs.hA ha
    obtain ⟨i, hi, gi⟩ := idx_of ((a3 x).mpr hx)
    refine ⟨a1, i, by omega, gi, sum_const fun b hb => ?_⟩
    obtain ⟨b1, b2, b3⟩ := ordp_at hself hs.hB hb
    rw [shuf_at a1 gi (fun h => hxB ((b3 x).mp h)), a2, b2]
theorem mix_atB (hself : ∀ c, c ∉ W c) {p : Int → Bool} {A B : List Int} (hs : Sides p A B) {x : Int} (hx : x ∈ B) (t : Nat) :
    mixP W R A B (atT x t) = ((List.range B.length).map fun own => (ords W R B).countP (atT x own) * mk own B.length A.length t).sum * cnt W R A := by
  have hxA : x ∉ A := fun h => hs.no h hx
  have e : ∀ a ∈ ords W R A, ((ords W R B).map fun b => (shuf a b).countP (atT x t)).sum = ((List.range B.length).map fun own => (ords W R B).countP (atT x own) * mk own B.length A.length t).sum := fun a ha => by
    obtain ⟨a1, a2, a3⟩ := ordp_at hself hs.hA ha
    refine sum_by_time (x := x) (n := B.length) (g := fun own => mk own B.length A.length t) fun b hb => ?_
    obtain ⟨b1, b2, b3⟩ := ordp_at hself hs.hB hb
    obtain ⟨i, hi, gi⟩ := idx_of ((b3 x).mpr hx)
    refine ⟨b1, i, by omega, gi, ?_⟩
    rw [(shuf_comm (p := p) (fun x hx => hs.pA x ((a3 x).mp hx)) (fun x hx => hs.pB x ((b3 x).mp hx))).countP_eq, shuf_at b1 gi (fun h => hxA ((a3 x).mp h)), a2, b2]
  unfold mixP
  rw [sum_const e, Nat.mul_comm]
theorem mix_befA (hself : ∀ c, c ∉ W c) {p : Int → Bool} {A B : List Int} (hs : Sides p A B) {x y : Int} (hx : x ∈ A) (hy : y ∈ A) :
    mixP W R A B (befB x y) = bin (A.length + B.length) A.length * (ords W R A).countP (befB x y) * cnt W R B := by
  unfold mixP
  have e : ∀ a ∈ ords W R A, ((ords W R B).map fun b => (shuf a b).countP (befB x y)).sum = if befB x y a = true then cnt W R B * bin (A.length + B.length) A.length else 0 := fun a ha => by
    obtain ⟨a1, a2, a3⟩ := ordp_at hself hs.hA ha
    have ec : ∀ b ∈ ords W R B, (shuf a b).countP (befB x y) = if befB x y a = true then bin (A.length + B.length) A.length else 0 := fun b hb => by
      obtain ⟨b1, b2, b3⟩ := ordp_at hself hs.hB hb
      have eq : ∀ s ∈ shuf a b, befB x y s = befB x y a := fun s hs' => by
        have := ((shuf_mem (p := p) (fun x hx => hs.pA x ((a3 x).mp hx)) (fun x hx => hs.pB x ((b3 x).mp hx))).mp hs').1
        rw [← this]
        exact (bef_filter (hs.pA x hx) (hs.pA y hy) s).symm
      by_cases h : befB x y a = true
      · rw [if_pos h, cp_true fun s hs' => (eq s hs').trans h, shuf_len, a2, b2]
      · rw [if_neg h, cp_false fun s hs' => (eq s hs').trans (Bool.eq_false_iff.mpr h)]
    rw [sum_const ec]
    split
    · rfl
    · rw [Nat.mul_zero]
  rw [List.map_congr_left e, sum_ite]
  rw [Nat.mul_comm (cnt W R B), ← Nat.mul_assoc, Nat.mul_comm (bin _ _)]
theorem mix_befB (hself : ∀ c, c ∉ W c) {p : Int → Bool} {A B : List Int} (hs : Sides p A B) {x y : Int} (hx : x ∈ B) (hy : y ∈ B) :
    mixP W R A B (befB x y) = bin (A.length + B.length) A.length * cnt W R A * (ords W R B).countP (befB x y) := by
  unfold mixP
  have e : ∀ a ∈ ords W R A, ((ords W R B).map fun b => (shuf a b).countP (befB x y)).sum = (ords W R B).countP (befB x y) * bin (A.length + B.length) A.length := fun a ha => by
    obtain ⟨a1, a2, a3⟩ := ordp_at hself hs.hA ha
    rw [← sum_ite]
    congr 1
    refine List.map_congr_left fun b hb => ?_
    obtain ⟨b1, b2, b3⟩ := ordp_at hself hs.hB hb
    have eq : ∀ s ∈ shuf a b, befB x y s = befB x y b := fun s hs' => by
      have := ((shuf_mem (p := p) (fun x hx => hs.pA x ((a3 x).mp hx)) (fun x hx => hs.pB x ((b3 x).mp hx))).mp hs').2
      rw [← this]
      exact (bef_filter (p := fun x => !p x) (by simp [hs.pB x hx]) (by simp [hs.pB y hy]) s).symm
    by_cases h : befB x y b = true
    · rw [if_pos h, cp_true fun s hs' => (eq s hs').trans h, shuf_len, a2, b2]
    · rw [if_neg h, cp_false fun s hs' => (eq s hs').trans (Bool.eq_false_iff.mpr h)]
  rw [sum_const e]
  rw [Nat.mul_comm ((ords W R B).countP _), ← Nat.mul_assoc, Nat.mul_comm (cnt W R A)]
theorem mix_bef (hself : ∀ c, c ∉ W c) {p : Int → Bool} {A B : List Int} (hs : Sides p A B) {x y : Int} (hx : x ∈ A) (hy : y ∈ B) :
    mixP W R A B (befB x y) = ((List.range A.length).map fun one => (ords W R A).countP (atT x one) * ((List.range B.length).map fun o => (ords W R B).countP (atT y o) * mbN one o A.length B.length).sum).sum := by
  have hxy : x ≠ y := fun e => hs.no hx (e ▸ hy)
  unfold mixP
  refine sum_by_time (x := x) (n := A.length) (g := fun one => ((List.range B.length).map fun o => (ords W R B).countP (atT y o) * mbN one o A.length B.length).sum) fun a ha => ?_
  obtain ⟨a1, a2, a3⟩ := ordp_at hself hs.hA ha
  obtain ⟨i, hi, gi⟩ := idx_of ((a3 x).mpr hx)
  refine ⟨a1, i, by omega, gi, sum_by_time (x := y) (n := B.length) (g := fun o => mbN i o A.length B.length) fun b hb => ?_⟩
  obtain ⟨b1, b2, b3⟩ := ordp_at hself hs.hB hb
  obtain ⟨j, hj, gj⟩ := idx_of ((b3 y).mpr hy)
  refine ⟨b1, j, by omega, gj, ?_⟩
  rw [shuf_bef hxy a1 b1 gi gj (fun h => hs.no hx ((b3 x).mp h)) (fun h => hs.no ((a3 y).mp h) hy), a2, b2]
theorem getD_inj (hR : R.Nodup) {a c : Nat} (ha : a < R.length) (hc : c < R.length) : R.getD a 0 = R.getD c 0 ↔ a = c := by
  constructor
  · intro h
    rw [List.getD_eq_getElem?_getD, List.getD_eq_getElem?_getD, List.getElem?_eq_getElem ha, List.getElem?_eq_getElem hc] at h
    exact (List.getElem?_inj ha hR).mp (by rw [List.getElem?_eq_getElem ha, List.getElem?_eq_getElem hc]; exact congrArg some h)
  · intro h
    rw [h]
theorem lasts_in {f e c : Nat} (h : c ∈ lastsP W R f e) : f ≤ c ∧ c < e := by
  unfold lastsP at h
  obtain ⟨n, hn, rfl⟩ := List.mem_map.mp (List.mem_filter.mp h).1
  have := List.mem_range.mp hn
  omega
theorem blk_sides (W : Int → List Int) (hR : R.Pairwise (· < ·)) {f c e : Nat} (hc : c < R.length) (he : e ≤ R.length) : Sides (fun x => decide (x < R.getD c 0)) (blk R f c) (blk R (c + 1) e) := by
  have hnd : R.Nodup := hR.imp fun h e => by omega
  have gd : ∀ {i : Nat} (h : i < R.length), R.getD i 0 = R[i] := fun h => by rw [List.getD_eq_getElem?_getD, List.getElem?_eq_getElem h]; rfl
  have ex : ∀ {f e : Nat} {x : Int}, x ∈ blk R f e → ∃ i, i < R.length ∧ R.getD i 0 = x ∧ f ≤ i ∧ i < e := fun {f e x} hx => by
    have hxR : x ∈ R := List.mem_of_mem_drop (List.mem_of_mem_take hx)
    obtain ⟨i, hi⟩ := List.getElem?_of_mem hxR
    have hil := (List.getElem?_eq_some_iff.mp hi).1
    have e1 : R.getD i 0 = x := by rw [List.getD_eq_getElem?_getD, hi]; rfl
    exact ⟨i, hil, e1, (mem_blk hnd hil).mp (e1 ▸ hx)⟩
  refine ⟨(blk_part (W := W) hR _ _).nd, (blk_part (W := W) hR _ _).nd, fun x hx => ?_, fun x hx => ?_⟩
  · obtain ⟨i, hi, rfl, h1, h2⟩ := ex hx
    rw [decide_eq_true_eq, gd hi, gd hc]
    exact List.pairwise_iff_getElem.mp hR i c hi hc h2
  · obtain ⟨i, hi, rfl, h1, h2⟩ := ex hx
    rw [decide_eq_false_iff_not, gd hi, gd hc]
    have := List.pairwise_iff_getElem.mp hR c i hc hi (by omega)
    omega
/-- the times of an object, by the last one of the part -/
theorem time_rec (hi : Ivl W R) (hR : R.Pairwise (· < ·)) {f e a t : Nat} (h1 : f ≤ a) (h2 : a < e) (he : e ≤ R.length) :
    timeN W R f e a t = ((lastsP W R f e).map fun c => if c = a then (if t = e - f - 1 then bin (e - f - 1) (c - f) * partN W R f c * partN W R (c + 1) e else 0)
      else if c < a then ((List.range (e - (c + 1))).map fun own => timeN W R (c + 1) e a own * mk own (e - (c + 1)) (c - f) t).sum * partN W R f c
      else ((List.range (c - f)).map fun own => timeN W R f c a own * mk own (c - f) (e - (c + 1)) t).sum * partN W R (c + 1) e).sum := by
  have hnd : R.Nodup := hR.imp fun h e => by omega
  unfold timeN
  rw [partP_rec hi hR (by omega) he]
  congr 1
  refine List.map_congr_left fun c hc => ?_
  obtain ⟨c1, c2⟩ := lasts_in hc
  have hs := blk_sides W (f := f) hR (c := c) (e := e) (by omega) he
  have l1 := blk_len (R := R) (f := f) (e := c) c1 (by omega)
  have l2 := blk_len (R := R) (f := c + 1) (e := e) (by omega) he
  have al : a < R.length := by omega
  have mlen : ∀ p ∈ ords W R (blk R f c), ∀ q ∈ ords W R (blk R (c + 1) e), ∀ s ∈ shuf p q, s.length = e - f - 1 := fun p hp q hq s hs' => by
    rw [shuf_length hs', (ordp_at hi.self hs.hA hp).2.1, (ordp_at hi.self hs.hB hq).2.1, l1, l2]
    omega
  by_cases ca : c = a
  · rw [if_pos ca]
    subst ca
    have hx1 : R.getD c 0 ∉ blk R f c := fun h => by
      have := (mem_blk hnd al).mp h
      omega
    have hx2 : R.getD c 0 ∉ blk R (c + 1) e := fun h => by
      have := (mem_blk hnd al).mp h
      omega
    have key : ∀ p ∈ ords W R (blk R f c), ∀ q ∈ ords W R (blk R (c + 1) e), ∀ s ∈ shuf p q, atT (R.getD c 0) t (s ++ [R.getD c 0]) = decide (t = e - f - 1) := fun p hp q hq s hs' => by
      have sl := mlen p hp q hq s hs'
      have hxs : R.getD c 0 ∉ s := fun h => by
        rcases (shuf_mem_of hs').mp h with h | h
        · exact hx1 (((ordp_at hi.self hs.hA hp).2.2 _).mp h)
        · exact hx2 (((ordp_at hi.self hs.hB hq).2.2 _).mp h)
      refine decide_eq_decide.mpr ⟨fun h => ?_, fun h => ?_⟩
      · rcases Nat.lt_trichotomy t s.length with hl | hl | hl
        · rw [List.getElem?_append_left hl] at h
          exact absurd (List.mem_of_getElem? h) hxs
        · omega
        · rw [List.getElem?_eq_none (by rw [List.length_append, List.length_singleton]; omega)] at h
          cases h
      · rw [h, ← sl, List.getElem?_concat_length]
    by_cases ht : t = e - f - 1
    · rw [if_pos ht, mix_true hi.self hs.hA hs.hB fun p hp q hq s hs' => (key p hp q hq s hs').trans (decide_eq_true ht), l1, l2]
      rw [show c - f + (e - (c + 1)) = e - f - 1 by omega]
      rfl
    · rw [if_neg ht, mix_false fun p hp q hq s hs' => (key p hp q hq s hs').trans (decide_eq_false ht)]
  · rw [if_neg ca]
    have hne : R.getD c 0 ≠ R.getD a 0 := fun h => ca ((getD_inj hnd (by omega) al).mp h)
    have key : mixP W R (blk R f c) (blk R (c + 1) e) (fun s => atT (R.getD a 0) t (s ++ [R.getD c 0])) = mixP W R (blk R f c) (blk R (c + 1) e) (atT (R.getD a 0) t) := mix_congr fun p hp q hq s hs' => by
      refine decide_eq_decide.mpr ⟨fun h => ?_, fun h => ?_⟩
      · rcases Nat.lt_trichotomy t s.length with hl | hl | hl
        · rw [List.getElem?_append_left hl] at h
          exact h
        · rw [hl, List.getElem?_concat_length] at h
          exact absurd (Option.some.inj h) hne
        · rw [List.getElem?_eq_none (by rw [List.length_append, List.length_singleton]; omega)] at h
          cases h
      · have hl := (List.getElem?_eq_some_iff.mp h).1
        rw [List.getElem?_append_left hl]
        exact h
    rw [key]
    by_cases cl : c < a
    · rw [if_pos cl, mix_atB hi.self hs ((mem_blk hnd al).mpr ⟨cl, h2⟩), l1, l2]
      rfl
    · rw [if_neg cl, mix_atA hi.self hs ((mem_blk hnd al).mpr ⟨h1, by omega⟩), l1, l2]
      rfl
/-- which of two comes first, by the last one of the part -/
theorem bef_rec (hi : Ivl W R) (hR : R.Pairwise (· < ·)) {f e l r : Nat} (h1 : f ≤ l) (hlr : l < r) (h2 : r < e) (he : e ≤ R.length) :
    befN W R f e l r = ((lastsP W R f e).map fun c => if c < l then bin (e - f - 1) (c - f) * partN W R f c * befN W R (c + 1) e l r
      else if c = l then 0
      else if c < r then ((List.range (c - f)).map fun one => timeN W R f c l one * ((List.range (e - (c + 1))).map fun o => timeN W R (c + 1) e r o * mbN one o (c - f) (e - (c + 1))).sum).sum
      else if c = r then bin (e - f - 1) (c - f) * partN W R f c * partN W R (c + 1) e
      else bin (e - f - 1) (c - f) * befN W R f c l r * partN W R (c + 1) e).sum := by
  have hnd : R.Nodup := hR.imp fun h e => by omega
  unfold befN
  rw [partP_rec hi hR (by omega) he]
  congr 1
  refine List.map_congr_left fun c hc => ?_
  obtain ⟨c1, c2⟩ := lasts_in hc
  have hs := blk_sides W (f := f) hR (c := c) (e := e) (by omega) he
  have l1 := blk_len (R := R) (f := f) (e := c) c1 (by omega)
  have l2 := blk_len (R := R) (f := c + 1) (e := e) (by omega) he
  have ll : l < R.length := by omega
  have rl : r < R.length := by omega
  have hxy : R.getD l 0 ≠ R.getD r 0 := fun h => by
    have := (getD_inj hnd ll rl).mp h
    omega
  have elen : c - f + (e - (c + 1)) = e - f - 1 := by omega
  have inn : ∀ {x : Int} {p q s : List Int}, p ∈ ords W R (blk R f c) → q ∈ ords W R (blk R (c + 1) e) → s ∈ shuf p q → (x ∈ s ↔ x ∈ blk R f c ∨ x ∈ blk R (c + 1) e) := fun hp hq hs' => by
    rw [shuf_mem_of hs', (ordp_at hi.self hs.hA hp).2.2, (ordp_at hi.self hs.hB hq).2.2]
  have key : c ≠ l → c ≠ r → mixP W R (blk R f c) (blk R (c + 1) e) (fun s => befB (R.getD l 0) (R.getD r 0) (s ++ [R.getD c 0])) = mixP W R (blk R f c) (blk R (c + 1) e) (befB (R.getD l 0) (R.getD r 0)) := fun cl cr =>
    mix_congr fun p hp q hq s hs' => bef_snoc (fun h => cl ((getD_inj hnd (by omega) ll).mp h)) (fun h => cr ((getD_inj hnd (by omega) rl).mp h)) s
  by_cases k1 : c < l
  · rw [if_pos k1, key (by omega) (by omega), mix_befB hi.self hs ((mem_blk hnd ll).mpr ⟨k1, by omega⟩) ((mem_blk hnd rl).mpr ⟨by omega, h2⟩), l1, l2, elen]
    rfl
  rw [if_neg k1]
  by_cases k2 : c = l
  · rw [if_pos k2]
    subst k2
    refine mix_false fun p hp q hq s hs' => bef_lastX hxy fun h => ?_
    rcases (inn hp hq hs').mp h with h | h
    · have := (mem_blk hnd ll).mp h
      omega
    · have := (mem_blk hnd ll).mp h
      omega
  rw [if_neg k2]
  by_cases k3 : c < r
  · rw [if_pos k3, key k2 (by omega), mix_bef hi.self hs ((mem_blk hnd ll).mpr ⟨h1, by omega⟩) ((mem_blk hnd rl).mpr ⟨by omega, h2⟩), l1, l2]
    rfl
  rw [if_neg k3]
  by_cases k4 : c = r
  · rw [if_pos k4]
    subst k4
    rw [mix_true hi.self hs.hA hs.hB fun p hp q hq s hs' => bef_lastY hxy ((inn hp hq hs').mpr (.inl ((mem_blk hnd ll).mpr ⟨h1, hlr⟩))), l1, l2, elen]
    rfl
  · rw [if_neg k4, key k2 k4, mix_befA hi.self hs ((mem_blk hnd ll).mpr ⟨h1, by omega⟩) ((mem_blk hnd rl).mpr ⟨by omega, by omega⟩), l1, l2, elen]
    rfl
theorem blk_all : blk R 0 R.length = R := by
  unfold blk
  rw [List.drop_zero, Nat.sub_zero, List.take_length]
end
/-- all orders of a table are those of its row of taken cells -/
theorem fit_perm {ys : List V} (hp : Poss ys) : (fitL ys).Perm (ords (wantL ys) (fullL ys) (fullL ys)) := by
  have hrn : (fullL ys).Nodup := (fullA_lt ys).imp fun h e => by omega
  have er : restL ys [] = fullL ys := List.filter_eq_self.mpr fun c _ => decide_eq_true List.not_mem_nil
  have hm := fun q => ordsF_mem (W := wantL ys) (R := fullL ys) (fun c hc => want_self hc) (q := q) (rfl : (fullL ys).length = _) hrn
  have ha0 : agreesL ys [] = true := rfl
  have av := fun {q : List Int} (hq : ∀ c ∈ q, c ∈ fullL ys) => agrees_vo hp ha0 hq
  rw [er] at av
  refine (List.perm_ext_iff_of_nodup (fit_nd ys _) (ordsF_nd hrn)).mpr fun o => ?_
  constructor
  · intro ho
    obtain ⟨h1, h2, h3, h4⟩ := fit_mem ho
    refine (hm o).mpr ⟨(List.perm_ext_iff_of_nodup h2 hrn).mpr fun c => ⟨h3 c, fun hc => len_full h1 h2 h3 c hc⟩, (av h3).mp h4⟩
  · intro ho
    obtain ⟨p1, p2⟩ := (hm o).mp ho
    have h3 : ∀ c ∈ o, c ∈ fullL ys := fun c hc => p1.mem_iff.mp hc
    have := fit_all (p1.symm.nodup hrn) h3 ((av h3).mpr p2)
    rw [p1.length_eq] at this
    exact this
theorem time_fit {ys : List V} (hp : Poss ys) (a t : Nat) : timeN (wantL ys) (fullL ys) 0 (fullL ys).length a t = (fitL ys).countP (atT ((fullL ys).getD a 0) t) := by
  unfold timeN
  rw [blk_all, (fit_perm hp).countP_eq]
theorem bef_fit {ys : List V} (hp : Poss ys) (l r : Nat) : befN (wantL ys) (fullL ys) 0 (fullL ys).length l r = (fitL ys).countP (befB ((fullL ys).getD l 0) ((fullL ys).getD r 0)) := by
  unfold befN
  rw [blk_all, (fit_perm hp).countP_eq]
end NS

/-! ### histories: orders with a weight for each object -/
namespace NS
open PySem L2
theorem hsum_flat {α β : Type} (f : β → Nat) (g : α → List β) : ∀ l : List α, ((l.flatMap g).map f).sum = (l.map fun x => ((g x).map f).sum).sum
  | [] => rfl
  | x :: l => by rw [List.flatMap_cons, List.map_append, List.sum_append, hsum_flat f g l, List.map_cons, List.sum_cons]
theorem hsum_mulL {α : Type} (k : Nat) (f : α → Nat) : ∀ l : List α, (l.map fun x => k * f x).sum = k * (l.map f).sum
  | [] => rfl
  | x :: l => by rw [List.map_cons, List.sum_cons, hsum_mulL k f l, List.map_cons, List.sum_cons, Nat.mul_add]
theorem hsum_swap {α β : Type} (F : α → β → Nat) (m : List β) : ∀ l : List α, (l.map fun x => (m.map fun y => F x y).sum).sum = (m.map fun y => (l.map fun x => F x y).sum).sum
  | [] => (sum_zero fun _ _ => rfl).symm
  | x :: l => by
    rw [List.map_cons, List.sum_cons, hsum_swap F m l, ← sum_add]
    rfl
theorem hsum_perm {α : Type} {l m : List α} (f : α → Nat) (h : l.Perm m) : (l.map f).sum = (m.map f).sum := (h.map f).sum_nat
section
variable {G : Int → List Int → Nat}
/-- the weight of a row that comes after pre -/
def wtP (G : Int → List Int → Nat) : List Int → List Int → Nat
  | _, [] => 1
  | pre, c :: q => G c pre * wtP G (pre ++ [c]) q
theorem wtP_snoc : ∀ (q pre : List Int) (c : Int), wtP G pre (q ++ [c]) = wtP G pre q * G c (pre ++ q)
  | [], pre, c => by
    show G c pre * 1 = 1 * G c (pre ++ [])
    rw [Nat.mul_one, Nat.one_mul, List.append_nil]
  | d :: q, pre, c => by
    rw [List.cons_append, wtP, wtP_snoc q, wtP, Nat.mul_assoc, List.append_assoc]
    rfl
/-- what an object may do hangs on the set before it alone, and on one side of a missing cell -/
structure Loc (G : Int → List Int → Nat) : Prop where
  ext : ∀ c S S', (∀ y, y ∈ S ↔ y ∈ S') → G c S = G c S'
  lft : ∀ x m S, x < m → m ∉ S → G x S = G x (S.filter fun y => decide (y < m))
  rgt : ∀ x m S, m < x → m ∉ S → G x S = G x (S.filter fun y => decide (m < y))
theorem fl_pos {p : Int → Bool} {y : Int} (h : p y = true) : [y].filter p = [y] := by rw [List.filter_cons_of_pos h, List.filter_nil]
theorem fl_neg {p : Int → Bool} {y : Int} (h : p y = false) : [y].filter p = [] := by rw [List.filter_cons_of_neg (by rw [h]; decide), List.filter_nil]
theorem wt_lft (hG : Loc G) {m : Int} : ∀ {b pre : List Int}, (∀ x ∈ b, x < m) → m ∉ pre → wtP G pre b = wtP G (pre.filter fun y => decide (y < m)) b
  | [], _, _, _ => rfl
  | y :: b, pre, h, hm => by
    have hy := h y (List.mem_cons_self ..)
    have hm' : m ∉ pre ++ [y] := fun e => by
      rcases List.mem_append.mp e with e | e
      · exact hm e
      · rw [List.mem_singleton] at e
        omega
    rw [wtP, wtP, hG.lft y m pre hy hm, wt_lft hG (fun x hx => h x (List.mem_cons_of_mem _ hx)) hm', List.filter_append, fl_pos (decide_eq_true hy)]
theorem wt_rgt (hG : Loc G) {m : Int} : ∀ {b pre : List Int}, (∀ x ∈ b, m < x) → m ∉ pre → wtP G pre b = wtP G (pre.filter fun y => decide (m < y)) b
  | [], _, _, _ => rfl
  | y :: b, pre, h, hm => by
    have hy := h y (List.mem_cons_self ..)
    have hm' : m ∉ pre ++ [y] := fun e => by
      rcases List.mem_append.mp e with e | e
      · exact hm e
      · rw [List.mem_singleton] at e
        omega
    rw [wtP, wtP, hG.rgt y m pre hy hm, wt_rgt hG (fun x hx => h x (List.mem_cons_of_mem _ hx)) hm', List.filter_append, fl_pos (decide_eq_true hy)]
theorem shuf_wt (hG : Loc G) {m : Int} : ∀ {a b s pre : List Int}, s ∈ shuf a b → (∀ x ∈ a, x < m) → (∀ x ∈ b, m < x) → m ∉ pre → wtP G pre s = wtP G (pre.filter fun y => decide (y < m)) a * wtP G (pre.filter fun y => decide (m < y)) b
  | [], b, s, pre, h, _, hb, hm => by
    rw [shuf_nil, List.mem_singleton] at h
    subst h
    rw [wtP, Nat.one_mul]
    exact wt_rgt hG hb hm
  | z :: a, [], s, pre, h, ha, _, hm => by
    rw [shuf_nil2, List.mem_singleton] at h
    subst h
    rw [show wtP G (pre.filter fun y => decide (m < y)) [] = 1 from rfl, Nat.mul_one]
    exact wt_lft hG ha hm
  | z :: a, y :: b, s, pre, h, ha, hb, hm => by
    have hz := ha z (List.mem_cons_self ..)
    have hy := hb y (List.mem_cons_self ..)
    have hm1 : m ∉ pre ++ [z] := fun e => by
      rcases List.mem_append.mp e with e | e
      · exact hm e
      · rw [List.mem_singleton] at e
        omega
    have hm2 : m ∉ pre ++ [y] := fun e => by
      rcases List.mem_append.mp e with e | e
      · exact hm e
      · rw [List.mem_singleton] at e
        omega
    rw [shuf, List.mem_append, List.mem_map, List.mem_map] at h
    rcases h with ⟨r, hr, rfl⟩ | ⟨r, hr, rfl⟩
    · have e1 : (pre ++ [z]).filter (fun y => decide (y < m)) = pre.filter (fun y => decide (y < m)) ++ [z] := by rw [List.filter_append, fl_pos (decide_eq_true hz)]
      have e2 : (pre ++ [z]).filter (fun y => decide (m < y)) = pre.filter (fun y => decide (m < y)) := by rw [List.filter_append, fl_neg (decide_eq_false (by omega)), List.append_nil]
      show G z pre * wtP G (pre ++ [z]) r = G z (pre.filter fun y => decide (y < m)) * wtP G (pre.filter (fun y => decide (y < m)) ++ [z]) a * wtP G (pre.filter fun y => decide (m < y)) (y :: b)
      rw [shuf_wt hG hr (fun x hx => ha x (List.mem_cons_of_mem _ hx)) hb hm1, e1, e2, hG.lft z m pre hz hm, Nat.mul_assoc]
    · have e1 : (pre ++ [y]).filter (fun y => decide (m < y)) = pre.filter (fun y => decide (m < y)) ++ [y] := by rw [List.filter_append, fl_pos (decide_eq_true hy)]
      have e2 : (pre ++ [y]).filter (fun y => decide (y < m)) = pre.filter (fun y => decide (y < m)) := by rw [List.filter_append, fl_neg (decide_eq_false (by omega)), List.append_nil]
      show G y pre * wtP G (pre ++ [y]) r = wtP G (pre.filter fun y => decide (y < m)) (z :: a) * (G y (pre.filter fun y => decide (m < y)) * wtP G (pre.filter (fun y => decide (m < y)) ++ [y]) b)
      rw [shuf_wt hG hr ha (fun x hx => hb x (List.mem_cons_of_mem _ hx)) hm2, e1, e2, hG.rgt y m pre hy hm, Nat.mul_left_comm]
termination_by a b => a.length + b.length
/-- all rows of the objects B -/
abbrev prmF (n : Nat) (B : List Int) : List (List Int) := ordsF (fun _ => []) [] n B
abbrev prms (B : List Int) : List (List Int) := ords (fun _ => []) [] B
theorem prms_mem {B q : List Int} (hB : B.Nodup) : q ∈ prms B ↔ q.Perm B := by
  have := ordsF_mem (W := fun _ => []) (R := []) (fun _ h => nomatch h) (q := q) (rfl : B.length = _) hB
  rw [this]
  exact ⟨fun h => h.1, fun h => ⟨h, fun i c _ e he => nomatch he⟩⟩
theorem prms_nd {B : List Int} (hB : B.Nodup) : (prms B).Nodup := ordsF_nd hB
def histN (G : Int → List Int → Nat) (B : List Int) : Nat := ((prms B).map (wtP G [])).sum
theorem hist_nil : histN G [] = 1 := rfl
theorem hist_last (hG : Loc G) {B : List Int} (hB : B.Nodup) (hne : B ≠ []) : histN G B = (B.map fun c => G c (B.erase c) * histN G (B.erase c)).sum := by
  obtain ⟨n, hn⟩ : ∃ n, B.length = n + 1 := ⟨B.length - 1, by
    have := List.length_pos_iff.mpr hne
    omega⟩
  unfold histN
  show ((ordsF (fun _ => []) [] B.length B).map (wtP G [])).sum = _
  rw [hn, ordsF, hsum_flat]
  congr 1
  refine List.map_congr_left fun c hc => ?_
  have hok : okB (fun _ => []) [] B c = true := okB_iff.mpr fun e he => nomatch he
  have hl : (B.erase c).length = n := by rw [List.length_erase_of_mem hc, hn]; rfl
  rw [if_pos hok, List.map_map]
  have e : ((ordsF (fun _ => []) [] n (B.erase c)).map (wtP G [] ∘ (· ++ [c]))) = (ordsF (fun _ => []) [] n (B.erase c)).map fun s => G c (B.erase c) * wtP G [] s := by
    refine List.map_congr_left fun s hs => ?_
    have hp : s.Perm (B.erase c) := (prms_mem (hB.erase c)).mp (by
      show s ∈ ordsF (fun _ => []) [] (B.erase c).length (B.erase c)
      rw [hl]
      exact hs)
    simp only [Function.comp]
    rw [wtP_snoc, List.nil_append, hG.ext c s (B.erase c) fun y => hp.mem_iff, Nat.mul_comm]
  rw [e, hsum_mulL]
  show _ = _ * ((ordsF (fun _ => []) [] (B.erase c).length (B.erase c)).map (wtP G [])).sum
  rw [hl]
theorem hist_split (hG : Loc G) {m : Int} {A C : List Int} (hA : A.Nodup) (hC : C.Nodup) (lA : ∀ x ∈ A, x < m) (lC : ∀ x ∈ C, m < x) : histN G (A ++ C) = bin (A.length + C.length) A.length * histN G A * histN G C := by
  have hp := ords_perm (W := fun _ => []) (R := []) (fun _ h => nomatch h) (p := fun x => decide (x < m)) hA hC (fun x hx => decide_eq_true (lA x hx)) (fun x hx => decide_eq_false (by have := lC x hx; omega)) (fun c _ _ e he => nomatch he) (fun c _ _ e he => nomatch he)
  unfold histN
  rw [hsum_perm _ hp, hsum_flat]
  have e1 : ((ords (fun _ => []) [] A).map fun a => (((ords (fun _ => []) [] C).flatMap fun b => shuf a b).map (wtP G [])).sum) = (prms A).map fun a => (bin (A.length + C.length) A.length * ((prms C).map (wtP G [])).sum) * wtP G [] a := by
    refine List.map_congr_left fun a ha => ?_
    have pa := (prms_mem hA).mp ha
    rw [hsum_flat]
    have e2 : ((ords (fun _ => []) [] C).map fun b => ((shuf a b).map (wtP G [])).sum) = (prms C).map fun b => (bin (A.length + C.length) A.length * wtP G [] a) * wtP G [] b := by
      refine List.map_congr_left fun b hb => ?_
      have pb := (prms_mem hC).mp hb
      have e3 : ∀ s ∈ shuf a b, wtP G [] s = wtP G [] a * wtP G [] b := fun s hs => by
        have := shuf_wt hG (m := m) (pre := []) hs (fun x hx => lA x (pa.mem_iff.mp hx)) (fun x hx => lC x (pb.mem_iff.mp hx)) List.not_mem_nil
        exact this
      rw [sum_const e3, shuf_len, pa.length_eq, pb.length_eq, Nat.mul_assoc]
    rw [e2, hsum_mulL]
    rw [Nat.mul_assoc, Nat.mul_assoc, Nat.mul_comm (wtP G [] a)]
  rw [e1, hsum_mulL, Nat.mul_assoc, Nat.mul_assoc, Nat.mul_comm (((prms C).map (wtP G [])).sum)]
/-- the histories of a part, by the last object -/
theorem hist_rec (hG : Loc G) {B : List Int} (hB : B.Pairwise (· < ·)) (hne : B ≠ []) : histN G B = ((List.range B.length).map fun i => G (B.getD i 0) (B.erase (B.getD i 0)) * (bin (B.length - 1) i * histN G (B.take i) * histN G (B.drop (i + 1)))).sum := by
  have hnd : B.Nodup := hB.imp fun h e => by omega
  rw [hist_last hG hnd hne]
  congr 1
  refine List.ext_getElem (by rw [List.length_map, List.length_map, List.length_range]) fun i h1 h2 => ?_
  rw [List.length_map] at h1
  rw [List.getElem_map, List.getElem_map, List.getElem_range]
  have eg : B.getD i 0 = B[i] := by rw [List.getD_eq_getElem?_getD, List.getElem?_eq_getElem h1]; rfl
  rw [eg]
  congr 1
  rw [erase_at h1 hnd]
  have hsplit : B = B.take i ++ B[i] :: B.drop (i + 1) := by rw [List.getElem_cons_drop, List.take_append_drop]
  have hasc := hB
  rw [hsplit, List.pairwise_append, List.pairwise_cons] at hasc
  obtain ⟨a1, ⟨a2, a3⟩, a4⟩ := hasc
  have hlA : (B.take i).length = i := by rw [List.length_take]; omega
  have hlB : (B.drop (i + 1)).length = B.length - 1 - i := by rw [List.length_drop]; omega
  rw [hist_split hG (m := B[i]) (a1.imp fun h e => by omega) (a3.imp fun h e => by omega) (fun x hx => a4 x hx _ (List.mem_cons_self ..)) a2, hlA, hlB, show i + (B.length - 1 - i) = B.length - 1 by omega]
theorem hist_part (hG : Loc G) {R : List Int} (hR : R.Pairwise (· < ·)) {f e : Nat} (hfe : f < e) (he : e ≤ R.length) :
    histN G (blk R f e) = ((List.range (e - f)).map fun i => G (R.getD (f + i) 0) ((blk R f e).erase (R.getD (f + i) 0)) * (bin (e - f - 1) i * histN G (blk R f (f + i)) * histN G (blk R (f + i + 1) e))).sum := by
  have hl := blk_len (R := R) (Nat.le_of_lt hfe) he
  rw [hist_rec hG (blk_part (W := fun _ => []) hR f e).asc (fun h => by rw [h] at hl; simp at hl; omega), hl]
  congr 1
  refine List.map_congr_left fun i hin => ?_
  have hi' : i < e - f := List.mem_range.mp hin
  rw [blk_get hi', blk_take (by omega), blk_drop]
  rfl
end
/-! the weights of a table: how many wishes an object can have after those before it -/
/-- the wishes that an entry leaves open -/
def chV (n : Nat) : V → List Int
  | .int w => [w]
  | .str _ => (List.range n).map fun (i : Nat) => (i : Int)
  | _ => []
def chL (ys : List V) (c : Int) : List Int := chV ys.length (ys.getD c.toNat .non)
def wishN (ys : List V) (c : Int) (S : List Int) : Nat := ((chL ys c).filter fun w => (needsL ys.length c w).all fun e => decide (e ∈ S)).length
theorem wish_loc {ys : List V} : ∀ x : Int, 0 ≤ x → x < ys.length → (∀ S S' : List Int, (∀ y, y ∈ S ↔ y ∈ S') → wishN ys x S = wishN ys x S') ∧
    (∀ (m : Int) (S : List Int), x < m → m ∉ S → wishN ys x S = wishN ys x (S.filter fun y => decide (y < m))) ∧ (∀ (m : Int) (S : List Int), m < x → m ∉ S → wishN ys x S = wishN ys x (S.filter fun y => decide (m < y))) := fun x hx0 hx1 => by
  refine ⟨fun S S' h => ?_, fun m S hm hS => ?_, fun m S hm hS => ?_⟩
  · unfold wishN
    congr 1
    refine List.filter_congr fun w _ => ?_
    rw [Bool.eq_iff_iff, List.all_eq_true, List.all_eq_true]
    refine forall_congr' fun e => forall_congr' fun _ => ?_
    rw [decide_eq_true_eq, decide_eq_true_eq]
    exact h e
  · unfold wishN
    congr 1
    refine List.filter_congr fun w _ => ?_
    rw [Bool.eq_iff_iff, List.all_eq_true, List.all_eq_true]
    constructor
    · intro h e he
      have h1 := of_decide_eq_true (h e he)
      refine decide_eq_true (List.mem_filter.mpr ⟨h1, decide_eq_true ?_⟩)
      rcases Int.lt_trichotomy e m with hh | hh | hh
      · exact hh
      · exact absurd (hh ▸ h1) hS
      · exact absurd (of_decide_eq_true (h m (needs_right he hx0 (by omega) hm))) hS
    · intro h e he
      exact decide_eq_true (List.mem_filter.mp (of_decide_eq_true (h e he))).1
  · unfold wishN
    congr 1
    refine List.filter_congr fun w _ => ?_
    rw [Bool.eq_iff_iff, List.all_eq_true, List.all_eq_true]
    constructor
    · intro h e he
      have h1 := of_decide_eq_true (h e he)
      refine decide_eq_true (List.mem_filter.mpr ⟨h1, decide_eq_true ?_⟩)
      rcases Int.lt_trichotomy e m with hh | hh | hh
      · exact absurd (of_decide_eq_true (h m (needs_left he hx1 (by omega) hm))) hS
      · exact absurd (hh ▸ h1) hS
      · exact hh
    · intro h e he
      exact decide_eq_true (List.mem_filter.mp (of_decide_eq_true (h e he))).1
/-- the rows of the objects B, by the first one -/
def fw : Nat → List Int → List (List Int)
  | 0, _ => [[]]
  | n + 1, B => B.flatMap fun c => (fw n (B.erase c)).map (c :: ·)
theorem fw_mem : ∀ {n : Nat} {B q : List Int}, B.length = n → (q ∈ fw n B ↔ q.Perm B)
  | 0, B, q, hn => by
    rw [List.length_eq_zero_iff.mp hn, fw, List.mem_singleton]
    constructor
    · intro h
      subst h
      exact List.Perm.refl _
    · intro h
      exact h.eq_nil
  | n + 1, B, q, hn => by
    rw [fw, List.mem_flatMap]
    constructor
    · rintro ⟨c, hc, h⟩
      obtain ⟨r, hr, rfl⟩ := List.mem_map.mp h
      have hl : (B.erase c).length = n := by rw [List.length_erase_of_mem hc, hn]; rfl
      exact ((fw_mem hl).mp hr).cons c |>.trans (List.perm_cons_erase hc).symm
    · intro h
      cases q with
      | nil => rw [h.symm.eq_nil] at hn; cases hn
      | cons c r =>
        obtain ⟨hc, hp⟩ := List.cons_perm_iff_perm_erase.mp h
        have hl : (B.erase c).length = n := by rw [List.length_erase_of_mem hc, hn]; rfl
        exact ⟨c, hc, List.mem_map.mpr ⟨r, (fw_mem hl).mpr hp, rfl⟩⟩
theorem fw_nd : ∀ {n : Nat} {B : List Int}, B.Nodup → (fw n B).Nodup
  | 0, B, _ => List.nodup_cons.mpr ⟨List.not_mem_nil, List.nodup_nil⟩
  | n + 1, B, hd => by
    rw [fw]
    unfold List.Nodup
    rw [List.pairwise_flatMap]
    refine ⟨fun c _ => List.Pairwise.map _ (fun u v h e => h (List.cons.inj e).2) (fw_nd (hd.erase c)), hd.imp fun {c d} hcd x hx y hy e => ?_⟩
    obtain ⟨u, _, rfl⟩ := List.mem_map.mp hx
    obtain ⟨v, _, rfl⟩ := List.mem_map.mp hy
    exact hcd (List.cons.inj e).1
theorem fw_perm {B : List Int} (hB : B.Nodup) : (fw B.length B).Perm (prms B) := (List.perm_ext_iff_of_nodup (fw_nd hB) (prms_nd hB)).mpr fun q => by rw [fw_mem rfl, prms_mem hB]
section
variable {G : Int → List Int → Nat}
def histF (G : Int → List Int → Nat) (n : Nat) (B pre : List Int) : Nat := ((fw n B).map (wtP G pre)).sum
theorem histF_eq {B : List Int} (hB : B.Nodup) : histN G B = histF G B.length B [] := (hsum_perm _ (fw_perm hB)).symm
theorem histF_succ (n : Nat) (B pre : List Int) : histF G (n + 1) B pre = (B.map fun c => G c pre * histF G n (B.erase c) (pre ++ [c])).sum := by
  unfold histF
  rw [fw, hsum_flat]
  congr 1
  refine List.map_congr_left fun c _ => ?_
  rw [List.map_map, ← hsum_mulL]
  rfl
theorem histF_le {N : Nat} : ∀ {n : Nat} {B pre : List Int}, B.Nodup → (∀ c ∈ B, c ∉ pre) → (∀ B' pre' : List Int, B'.Nodup → (∀ c ∈ B', c ∉ pre') → (∀ c ∈ B', c ∈ B) → (B'.map fun c => G c pre').sum ≤ N) → histF G n B pre ≤ N ^ n
  | 0, B, pre, _, _, _ => Nat.le_refl _
  | n + 1, B, pre, hd, hn, h => by
    rw [histF_succ, Nat.pow_succ, Nat.mul_comm]
    have step : ∀ l : List Int, (∀ c ∈ l, c ∈ B) → (l.map fun c => G c pre * histF G n (B.erase c) (pre ++ [c])).sum ≤ (l.map fun c => G c pre).sum * N ^ n := fun l => by
      induction l with
      | nil => intro _; exact Nat.zero_le _
      | cons c r ih =>
        intro hl
        rw [List.map_cons, List.sum_cons, List.map_cons, List.sum_cons, Nat.add_mul]
        have h1 := ih fun d hd => hl d (List.mem_cons_of_mem _ hd)
        have hc := hl c (List.mem_cons_self ..)
        have h2 : histF G n (B.erase c) (pre ++ [c]) ≤ N ^ n := histF_le (hd.erase c) (fun d hd' e => by
          obtain ⟨n1, n2⟩ := (hd.mem_erase_iff).mp hd'
          rcases List.mem_append.mp e with e | e
          · exact hn d n2 e
          · exact n1 (List.mem_singleton.mp e)) (fun B' pre' a1 a2 a3 => h B' pre' a1 a2 fun d hd' => List.mem_of_mem_erase (a3 d hd'))
        exact Nat.add_le_add (Nat.mul_le_mul_left _ h2) h1
    exact Nat.le_trans (step B fun c hc => hc) (Nat.mul_le_mul_right _ (h B pre hd hn fun c hc => hc))
end
/-- a wish leads to one free cell at most -/
theorem wish_one {n : Nat} {S : List Int} {w c d : Int} (hc0 : 0 ≤ c) (hc1 : c < n) (hd0 : 0 ≤ d) (hd1 : d < n) (hc : c ∉ S) (hd : d ∉ S) (h1 : ∀ e ∈ needsL n c w, e ∈ S) (h2 : ∀ e ∈ needsL n d w, e ∈ S) : c = d := by
  rcases Int.lt_trichotomy (dist c w) (dist d w) with h | h | h
  · exact absurd (h2 c (needs_iff.mpr ⟨⟨hc0, hc1⟩, .inl h⟩)) hc
  · rcases Int.lt_trichotomy c d with h' | h' | h'
    · exact absurd (h2 c (needs_iff.mpr ⟨⟨hc0, hc1⟩, .inr ⟨h, h'⟩⟩)) hc
    · exact h'
    · exact absurd (h1 d (needs_iff.mpr ⟨⟨hd0, hd1⟩, .inr ⟨h.symm, h'⟩⟩)) hd
  · exact absurd (h1 d (needs_iff.mpr ⟨⟨hd0, hd1⟩, .inl h⟩)) hd
def wishG (ys : List V) (c : Int) (S : List Int) : Nat := if 0 ≤ c ∧ c < ys.length then wishN ys c S else 0
theorem wishG_loc (ys : List V) : Loc (wishG ys) := by
  refine ⟨fun c S S' h => ?_, fun x m S hm hS => ?_, fun x m S hm hS => ?_⟩
  all_goals unfold wishG
  · by_cases hc : 0 ≤ c ∧ c < ys.length
    · rw [if_pos hc, if_pos hc]
      exact (wish_loc c hc.1 hc.2).1 S S' h
    · rw [if_neg hc, if_neg hc]
  · by_cases hc : 0 ≤ x ∧ x < ys.length
    · rw [if_pos hc, if_pos hc]
      exact (wish_loc x hc.1 hc.2).2.1 m S hm hS
    · rw [if_neg hc, if_neg hc]
  · by_cases hc : 0 ≤ x ∧ x < ys.length
    · rw [if_pos hc, if_pos hc]
      exact (wish_loc x hc.1 hc.2).2.2 m S hm hS
    · rw [if_neg hc, if_neg hc]
def histT (ys : List V) : Nat := histN (wishG ys) (fullL ys)
def histP (ys : List V) (f e : Nat) : Nat := histN (wishG ys) (blk (fullL ys) f e)
/-- the wishes of a table's entries are cells -/
def WishIn (ys : List V) : Prop := ∀ c w, w ∈ chL ys c → 0 ≤ w ∧ w < ys.length
def optW (ys : List V) (pre : List Int) (c : Int) : List Int := if 0 ≤ c ∧ c < ys.length then ((chL ys c).filter fun w => (needsL ys.length c w).all fun e => decide (e ∈ pre)) else []
theorem wishG_sum {ys : List V} (hw : WishIn ys) {B pre : List Int} (hB : B.Nodup) (hn : ∀ c ∈ B, c ∉ pre) : (B.map fun c => wishG ys c pre).sum ≤ ys.length := by
  have h0 : ∀ l : List Int, l.Nodup → (∀ c ∈ l, c ∉ pre) → (l.map fun c => wishG ys c pre).sum = (l.flatMap (optW ys pre)).length := fun l _ _ => by
    rw [List.length_flatMap]
    congr 1
    refine List.map_congr_left fun c _ => ?_
    unfold wishG wishN optW
    by_cases hc : 0 ≤ c ∧ c < ys.length
    · rw [if_pos hc, if_pos hc]
    · rw [if_neg hc, if_neg hc]
      rfl
  rw [h0 B hB hn]
  have hnd : (B.flatMap (optW ys pre)).Nodup := by
    unfold List.Nodup
    rw [List.pairwise_flatMap]
    refine ⟨fun c _ => ?_, hB.imp_of_mem fun {c d} hc hd hcd x hx y hy e => ?_⟩
    · unfold optW
      by_cases hc : 0 ≤ c ∧ c < ys.length
      · rw [if_pos hc]
        refine List.Pairwise.filter _ ?_
        unfold chL chV
        split
        · exact List.pairwise_singleton _ _
        · exact (List.pairwise_lt_range.map _ fun a b h => by omega : ((List.range ys.length).map fun (i : Nat) => (i : Int)).Pairwise (· < ·)).imp fun h e => by omega
        · exact List.Pairwise.nil
      · rw [if_neg hc]
        exact List.Pairwise.nil
    · unfold optW at hx hy
      by_cases h1 : 0 ≤ c ∧ c < ys.length
      · rw [if_pos h1] at hx
        by_cases h2 : 0 ≤ d ∧ d < ys.length
        · rw [if_pos h2] at hy
          subst e
          have a1 := (List.mem_filter.mp hx).2
          have a2 := (List.mem_filter.mp hy).2
          rw [List.all_eq_true] at a1 a2
          exact hcd (wish_one h1.1 h1.2 h2.1 h2.2 (hn c hc) (hn d hd) (fun z hz => of_decide_eq_true (a1 z hz)) fun z hz => of_decide_eq_true (a2 z hz))
        · rw [if_neg h2] at hy
          cases hy
      · rw [if_neg h1] at hx
        cases hx
  have hsub : ∀ w ∈ (B.flatMap (optW ys pre)), w ∈ (List.range ys.length).map fun (i : Nat) => (i : Int) := fun w h => by
    obtain ⟨c, _, h⟩ := List.mem_flatMap.mp h
    unfold optW at h
    by_cases hc : 0 ≤ c ∧ c < ys.length
    · rw [if_pos hc] at h
      have := hw c w (List.mem_filter.mp h).1
      exact List.mem_map.mpr ⟨w.toNat, List.mem_range.mpr (by omega), by omega⟩
    · rw [if_neg hc] at h
      cases h
  have := sub_len hnd hsub
  rw [List.length_map, List.length_range] at this
  exact this
theorem hist_le {ys : List V} (hw : WishIn ys) {B : List Int} (hB : B.Nodup) : histN (wishG ys) B ≤ ys.length ^ B.length := by
  rw [histF_eq hB]
  exact histF_le hB (fun _ _ h => nomatch h) fun B' pre' a1 a2 _ => wishG_sum hw a1 a2
theorem wish_in {ys : List V} (tab : ∀ y ∈ ys, TabV ys.length y) : WishIn ys := fun c w h => by
  unfold chL at h
  have hy : ys.getD c.toNat .non = .non ∨ ys.getD c.toNat .non ∈ ys := by
    rw [List.getD_eq_getElem?_getD]
    cases e : ys[c.toNat]? with
    | none => exact .inl rfl
    | some y => exact .inr (List.mem_of_getElem? e)
  rcases hy with e | e
  · rw [e] at h
    cases h
  · rcases tab _ e with e | e | ⟨i, e, hi⟩
    · rw [e] at h
      cases h
    · rw [e] at h
      obtain ⟨j, hj, rfl⟩ := List.mem_map.mp h
      have := List.mem_range.mp hj
      omega
    · rw [e] at h
      have := List.mem_singleton.mp h
      subst this
      omega
theorem histP_le {ys : List V} (tab : ∀ y ∈ ys, TabV ys.length y) (h12 : ys.length ≤ 12) {f e : Nat} (hf : f ≤ e) (he : e ≤ (fullL ys).length) : histP ys f e < 2 ^ 60 := by
  have h1 := hist_le (wish_in tab) (blk_part (W := fun _ => []) (fullA_lt ys) f e).nd
  rw [blk_len hf he] at h1
  have hfl : (fullL ys).length ≤ 12 := Nat.le_trans (fullN_len ys _) h12
  have h2 : ys.length ^ (e - f) ≤ 12 ^ 12 := Nat.le_trans (Nat.pow_le_pow_left h12 _) (Nat.pow_le_pow_right (by decide) (by omega))
  exact Nat.lt_of_le_of_lt (Nat.le_trans h1 h2) (by decide)
end NS

/-! ### lambdas with parameters: made, called, as the key of min -/
namespace NS
open PySem PySem.Spec PyProof.Rows L2 LamX NdefX
/-- the object at f is the lambda F with the body b -/
def LamO (f : Addr) (F : NF) (b : Expr) : HO := .ext fun h => ∃ (od : Option Addr) (sl : Array (Option Value)) (pm ctv : Value), h.get? f = some (⟨.type "function", od, .func (PySem.W.kla_fn F.name F.qual F.params b F.scope F.cl pm (.ref F.c) ctv), sl⟩ : Obj)
theorem lamO_ne {f : Addr} {F : NF} {b : Expr} (ps : Array Value) : LamO f F b ≠ .tbl ps := fun z => by
  unfold LamO at z
  cases z
theorem lamO_at {P : Program} {w : World} {H : Hp} {h : Heap} {f : Addr} {F : NF} {b : Expr} (hok : HOk P w H h) (e : H f = some (LamO f F b)) : ∃ (od : Option Addr) (sl : Array (Option Value)) (pm ctv : Value), h.get? f = some (⟨.type "function", od, .func (PySem.W.kla_fn F.name F.qual F.params b F.scope F.cl pm (.ref F.c) ctv), sl⟩ : Obj) := (hok f _ e).1
/-- a call of a lambda: its body, run in a frame of its own -/
theorem lam_run {CX : CXT} {P : Program} {w : World} {K : PySem.W.Frag} {mg : Str → Option Value} {base : Heap} {N ps fr : List Str} {F : NF} {b : Expr} {f : Addr} {k : Nat} {A : Around} {outer : List Env} {s : Shared} {H : Hp} {us : List Value} {vs : List V} {ws : List (Option V)} {Q : VK} {E : XK}
    (S : NScope N ps fr F.scope) (bnd : ∀ (pm ctv : Value) (us : List Value), us.length = ps.length → bindArgs (PySem.W.kla_fn F.name F.qual F.params b F.scope F.cl pm (.ref F.c) ctv) ⟨us, []⟩ = pure (ps.zip us)) (lens : vs.length = ps.length)
    (room : Room (k + 1) A) (en : Env0 P w K mg base A outer s H) (isL : H f = some (LamO f F b)) (isC : H F.c = some (CodeO F.c F.qual)) (C : CellsAt F.cl fr ws s.heap H) (r : Vals vs us)
    (body : Room k (A.deeper (envF F f s.heap.objs.size)) → ∃ t, PE (ncx CX P w K mg base N F f A outer s H E) b t ∧ t (startF N vs ws) H Q) :
    codeAny (model P w) A (.call (.ref f) ⟨us, []⟩) (CR CX outer P w H s Q E) s := by
  have lim : s.heap.NoLimit := en.mod.nolimit.keeps fun c o z => (en.bs c o z).1
  obtain ⟨od, sl, pm, ctv, ho⟩ := lamO_at en.hok isL
  refine PySem.W.kla_callFunE room.depth ho rfl S.co S.gen rfl (codeO_at en.hok isC) ?_
  rw [bnd pm ctv us (r.length.symm.trans lens)]
  refine wpAny_pure (wpAny_newFunctionEnv S.nocell (fun y hy => S.par y.1 (List.of_mem_zip hy).1) (fun h₁ hns hsb => ⟨lim.fresh _ hsb, ?_⟩) S.kind)
  have stays : ∀ c o, s.heap.get? c = some o → h₁.get? c = some o := fun c o z => hsb.extBut c o (Nat.ne_of_lt (Heap.lt_size z)) (Heap.get?_push_of_some _ z)
  obtain ⟨t, der, rd⟩ := body (room.deeper _)
  have J : Inv (ncx CX P w K mg base N F f A outer s H E) [] (startF N vs ws) H { s with heap := h₁, toks := s.toks + (ps.zip us).length } := inv_startN S room.hd en lens r C hns stays
  show codeAny _ _ (.expr b (envF F f s.heap.objs.size)) _ _
  refine PySem.W.kla_codeExpr (wpAny_mono (der.run [] _ (startF N vs ws) H Q J rd) (fun v s' out => ?_) fun ex s' out => out)
  obtain ⟨v', H', J', rv, q⟩ := out
  exact ⟨v', H', J'.os, J'.bare, J'.base, J'.hok, rv, q⟩
/-- the tables of the code objects that make lambdas: nm tells a place's name -/
def TabsOk (Ps : List Addr) (nm : Nat → Nat → Str) (H : Hp) : Prop := ∀ P ∈ Ps, TabN H P nm
theorem TabsOk.ext {Ps : List Addr} {nm : Nat → Nat → Str} {H H' : Hp} (t : TabsOk Ps nm H) (e : Same H H') : TabsOk Ps nm H' := fun P hP => (t P hP).ext e
section
variable {X : Cx} {pins : List (Addr × Obj)} {σ : L2.St} {H : Hp} {s : Shared}
theorem inv_lam {F : NF} {b : Expr} {o : Obj} {t' : Nat} {pm ctv : Value} (I : L2.Inv X pins σ H s) (ho : o = { cls := .type "function", data := .func (PySem.W.kla_fn F.name F.qual F.params b F.scope F.cl pm (.ref F.c) ctv) }) :
    L2.Inv X pins σ (upd H s.heap.objs.size (LamO s.heap.objs.size F b)) { s with heap := s.heap.push o, toks := t' } := by
  subst ho
  refine I.laid (a := s.heap.objs.size) (fun c u z => Heap.get?_push_of_some _ z) (Nat.le_refl _) ?_
  have z : (s.heap.push ({ cls := .type "function", data := .func (PySem.W.kla_fn F.name F.qual F.params b F.scope F.cl pm (.ref F.c) ctv) } : Obj)).get? s.heap.objs.size = some ({ cls := .type "function", data := .func (PySem.W.kla_fn F.name F.qual F.params b F.scope F.cl pm (.ref F.c) ctv) } : Obj) := Heap.get?_push_size _ rfl
  exact ⟨⟨_, _, pm, ctv, z⟩, ⟨_, z⟩, fun h1 h2 ⟨od, sl, p, t, z⟩ st => ⟨od, sl, p, t, st _ z⟩⟩
/-- a lambda is made -/
theorem lam_made {Ps : List Addr} {nm : Nat → Nat → Str} {c P : Addr} {params : Arguments} {b : Expr} {scope : Scope} {pos : Pos} {E : Value → Shared → Prop} {Q : Value → Shared → Prop} (I : L2.Inv X pins σ H s) (TB : TabB X.base X.mg c P) (hcode : X.env.code = .ref c)
    (hm : P ∈ Ps) (hn : nm pos.line pos.col = X.env.qual ++ "<lambda>") (hT : TabsOk Ps nm H) (hdef : defaultsOf params X.env = ([], [])) (hfree : ∀ y ∈ scope.names, y.2 = .free → ∃ c, X.env.cells.lookup y.1 = some c)
    (h : ∀ (f c' : Addr) (H1 : Hp) (s' : Shared), L2.Inv X pins σ H1 s' → ExtN H H1 → TabsOk Ps nm H1 → H f = none → H1 f = some (LamO f ⟨"<lambda>", X.env.qual ++ "<lambda>", params, [], scope, cloFrom X.env.cells scope.names [], c'⟩ b) → H1 c' = some (CodeO c' (X.env.qual ++ "<lambda>")) → Q (.ref f) s') :
    wpAny (model X.prog X.w) X.A (eval (.Lambda params b scope pos) X.env) Q E s := by
  refine PySem.W.kla_eval hdef ?_
  obtain ⟨ps, atP, triples, among⟩ := hT P hm
  have bP : s.heap.BuiltinsAt X.mg P := TB.bm.keeps I.bk
  have objP : s.heap.get? P = some { cls := .none, data := .fields ps } := I.hok P _ atP
  cases hc : codeAmong pos ps.toList with
  | none =>
    refine PySem.W.kla_makeFunction (mg := X.mg) (c := c) (P := P) (ps := ps) (closure_ok hfree) I.ok.glob (I.mod.glob.keeps I.bk) hcode (TB.code.keeps I.bk) objP triples hc TB.gP bP fun c' ctv h' tk hx hge hlt hrec htb => ?_
    obtain ⟨c2, oc, vs, t, e2, hoc, hd, hv⟩ := hrec
    cases e2
    have freeC : H c' = none := I.hok.fresh hge
    have J1 := inv_table (t' := tk) (more := #[rawInt pos.line, rawInt pos.col, .ref c']) (h' := h') I atP (fun b o hb e => hx b o hb e) htb hge ⟨oc, vs, t, hoc, hd, hv⟩
    have gr : ExtN H (upd (upd H P (.tbl (ps ++ #[rawInt pos.line, rawInt pos.col, .ref c']))) c' (CodeO c' (X.env.qual ++ "<lambda>"))) := fun a o z nt => by
      have ne : a ≠ P := fun y => by
        subst y
        exact nt ps (Option.some.inj (z.symm.trans atP))
      rw [upd_ne (ne_of_none z freeC), upd_ne ne]
      exact z
    have asL : (ps ++ #[rawInt pos.line, rawInt pos.col, .ref c']).toList = ps.toList ++ [rawInt pos.line, rawInt pos.col, .ref c'] := by simp
    have T1 : TabsOk Ps nm (upd (upd H P (.tbl (ps ++ #[rawInt pos.line, rawInt pos.col, .ref c']))) c' (CodeO c' (X.env.qual ++ "<lambda>"))) := fun p hp => by
      by_cases isP : p = P
      · subst isP
        refine ⟨_, by rw [upd_ne (ne_of_none atP freeC), upd_same], by rw [asL]; exact PySem.TriplesOk_snoc _ _ _ _ triples, fun p' cv hcv => ?_⟩
        rw [asL] at hcv
        rcases among_app2 _ triples hcv with z | ⟨z, z1, z2⟩
        · obtain ⟨c0, a1, a2⟩ := among p' cv z
          exact ⟨c0, a1, gr _ _ a2 codeO_ne⟩
        · exact ⟨c', z, by rw [← z1, ← z2, hn]; exact upd_same⟩
      · obtain ⟨qs, a1, a2, a3⟩ := hT p hp
        refine ⟨qs, by rw [upd_ne (ne_of_none a1 freeC), upd_ne isP]; exact a1, a2, fun p' cv hcv => ?_⟩
        obtain ⟨c0, b1, b2⟩ := a3 p' cv hcv
        exact ⟨c0, b1, gr _ _ b2 codeO_ne⟩
    have freeF := J1.hok.fresh (Nat.le_refl _)
    have J2 := inv_lam (F := ⟨"<lambda>", X.env.qual ++ "<lambda>", params, [], scope, cloFrom X.env.cells scope.names [], c'⟩) (b := b) (t' := tk) (pm := (X.mg "__name__").getD .none) (ctv := ctv) J1 rfl
    refine h h'.objs.size c' _ _ J2 (fun a o z nt => ?_) (T1.ext (same_upd freeF)) (I.hok.fresh (Nat.le_trans hge (Nat.le_of_lt hlt))) upd_same ?_
    · exact same_upd freeF _ _ (gr a o z nt)
    · exact same_upd freeF _ _ upd_same
  | some cv =>
    obtain ⟨c', e, isC⟩ := among pos cv hc
    subst e
    rw [hn] at isC
    refine PySem.W.kla_makeFunctionHit (mg := X.mg) (c := c) (P := P) (ps := ps) (closure_ok hfree) I.ok.glob (I.mod.glob.keeps I.bk) hcode (TB.code.keeps I.bk) objP triples hc bP fun ctv h' tk hx hsz => ?_
    have J1 : L2.Inv X pins σ H { s with heap := h', toks := tk } := I.kept hx
    have freeF : H h'.objs.size = none := J1.hok.fresh (Nat.le_refl _)
    have J2 := inv_lam (F := ⟨"<lambda>", X.env.qual ++ "<lambda>", params, [], scope, cloFrom X.env.cells scope.names [], c'⟩) (b := b) (t' := tk) (pm := (X.mg "__name__").getD .none) (ctv := ctv) J1 rfl
    exact h h'.objs.size c' _ _ J2 (ExtN.of (same_upd freeF)) (hT.ext (same_upd freeF)) freeF upd_same (same_upd freeF _ _ isC)
end
end NS

/-! ### min(xs, key=lambda ..): keys that are tuples of ints -/
namespace NS
open PySem PySem.Spec PyProof.Rows L2 LamX NdefX
section
variable {X : Cx} {pins : List (Addr × Obj)} {σ : L2.St}
theorem fp_later {fp : List Addr} {h : Heap} {H H' : Hp} {s' : Shared} (I : L2.Inv X (pins ++ pinsAt fp h) σ H' s') {b : Addr} {o : Obj} (hb : b ∈ fp) (e : h.get? b = some o) (f : FpOk X pins H b) : s'.heap.get? b = some o ∧ FpOk X pins H' b := by
  have p := I.pin (b, o) (List.mem_append_right _ (List.mem_append_right _ (mem_pinsAt hb e)))
  exact ⟨p.1, p.2.1, f.2⟩
/-- what a call of the key gives -/
def KeyTurn (X : Cx) (σ : L2.St) (H2 : Hp) (f : Addr) (xs : List V) (key : Nat → List Int) : Prop :=
  ∀ (i : Nat) (x : V) (u : Value) (H' : Hp) (s' : Shared) (pins' : List (Addr × Obj)), xs[i]? = some x → RelV x u → Same H2 H' → L2.Inv X pins' σ H' s' →
    wpAny (model X.prog X.w) X.A.in1 (call (.ref f) [u]) (EP X pins' σ fun v H'' => Same H' H'' ∧ ∃ p, v = .ref p ∧ SqT X.K H'' p ((key i).map V.int)) (fun _ _ => False) s'
theorem minK_loop {H2 : Hp} {f l S I : Addr} {xs : List V} {key : Nat → List Int} {R : Result → Shared → Prop} (hh : X.A.handled = none) (hu : X.A.units + 1 < cLine) (hl : SqL X.K H2 l xs) (hlI : l ≠ I) (hSI : S ≠ I) (turn : KeyTurn X σ H2 f xs key)
    (hR : ∀ (i : Nat) (x : V) (u : Value) (H' : Hp) (s' : Shared), xs[i]? = some x → RelV x u → (∀ j, j < xs.length → HT.lexLt (key j) (key i) = false) → Same H2 H' → L2.Inv X pins σ H' s' → R (.ok (.ret u)) s') :
    ∀ (r j i : Nat) (Hj : Hp) (sj : Shared) (x : V) (vb : Value) (kb : Addr) (c : Nat), xs.length - (j + 1) = r → j + 1 ≤ xs.length → Same H2 Hj → L2.Inv X pins σ Hj sj → FpOk X pins Hj S → FpOk X pins Hj I →
      sj.heap.get? S = some (seqObj "list" #[vb, .ref kb] c) → sj.heap.IsListIter I l (j + 1) → xs[i]? = some x → RelV x vb → SqT X.K Hj kb ((key i).map V.int) → i ≤ j → (∀ j', j' ≤ j → HT.lexLt (key j') (key i) = false) →
      codeAny (model X.prog X.w) X.A (.builtin "min.loop" ⟨[.ref I, .ref f, .ref S], []⟩) R sj := by
  have word : (toString "min" ++ toString ".loop" : String) = "min.loop" := by decide
  intro r
  induction r with
  | zero =>
    intro j i Hj sj x vb kb c hr hj sm J fS fI gS hit hx rb hk hij best
    obtain ⟨its, rv, pl, _⟩ := J.list (sm.seq hl)
    have W := Walks.list (prog := X.prog) (w := X.w) (A := X.A.in1) hh I l hlI its.toArray
    have size : its.toArray.size = xs.length := by rw [List.size_toArray, ← rv.length]
    refine codeAny_builtin PySem.F.entry_min_loop ?_
    rw [Around.under_plainId PySem.F.plain_min_loop _]
    show wpAny _ X.A.in1 (seqItems? (.ref S) >>= _) _ _ _
    refine wpAny_bind (wpAny_seqItems gS rfl ?_)
    show wpAny _ X.A.in1 (tryCatch (pyNext (.ref I)) _ >>= _) _ _ _
    refine wpAny_bind (wpAny_tryCatch (W.done _ _ _ ⟨by rw [size, ← show j + 1 = xs.length by omega]; exact hit, pl.isList⟩ fun h' tk' hk' => ?_))
    have gS' := hk' S _ (by simpa using hSI) gS
    have J1 : L2.Inv X pins σ Hj { sj with heap := h', toks := tk' } := J.turnedL (ch := [I]) hk' fun b hb => by rw [List.mem_singleton.mp hb]; exact fI
    have s1 := Heap.SameBut.update h' S (Obj.mapSeq fun _ => (#[] : Array Value))
    show wpAny _ X.A.in1 (updateSeq S (fun _ => #[]) >>= _) _ _ _
    refine wpAny_bind ?_
    refine wpAny_updateSeq gS' rfl (wpAny_bind (wpAny_letGo (wpAny_pure ?_)))
    refine hR i x vb Hj _ hx rb (fun j' hj' => best j' (by omega)) sm ?_
    exact J1.turnedL (ch := [S]) (fun b o hb z => (s1.2 b (fun y => hb (by rw [y]; exact List.mem_singleton.mpr rfl))).trans z) fun b hb => by rw [List.mem_singleton.mp hb]; exact fS
  | succ r ih =>
    intro j i Hj sj x vb kb c hr hj sm J fS fI gS hit hx rb hk hij best
    have more : j + 1 < xs.length := by omega
    obtain ⟨its, rv, pl, _⟩ := J.list (sm.seq hl)
    have W := Walks.list (prog := X.prog) (w := X.w) (A := X.A.in1) hh I l hlI its.toArray
    have size : its.toArray.size = xs.length := by rw [List.size_toArray, ← rv.length]
    refine codeAny_builtin PySem.F.entry_min_loop ?_
    rw [Around.under_plainId PySem.F.plain_min_loop _]
    show wpAny _ X.A.in1 (seqItems? (.ref S) >>= _) _ _ _
    refine wpAny_bind (wpAny_seqItems gS rfl ?_)
    show wpAny _ X.A.in1 (tryCatch (pyNext (.ref I)) _ >>= _) _ _ _
    refine wpAny_bind (wpAny_tryCatch (W.item (j + 1) _ _ _ (by rw [size]; exact more) ⟨hit, pl.isList⟩ fun v h' tk' hP hst' hk' => ?_))
    have hv : its[j + 1]? = some v := by simpa using hP
    obtain ⟨v', hv', rx'⟩ := rv.get (List.getElem?_eq_getElem more)
    rw [hv] at hv'
    cases hv'
    obtain ⟨oI, hoI, hoc, hod⟩ := id hst'.1
    have gS' := hk' S _ (by simpa using hSI) gS
    have J1 : L2.Inv X pins σ Hj { sj with heap := h', toks := tk' } := J.turnedL (ch := [I]) hk' fun b hb => by rw [List.mem_singleton.mp hb]; exact fI
    have J2 := J1.pinned (fp := [S, I]) (fun b hb => by
      rcases List.mem_cons.mp hb with e | e
      · rw [e]; exact fS
      · rw [List.mem_singleton.mp e]; exact fI) (fun b hb => by
      rcases List.mem_cons.mp hb with e | e
      · rw [e]; exact ⟨_, gS', fun v z => nomatch z⟩
      · rw [List.mem_singleton.mp e]; exact ⟨oI, hoI, fun v z => by rw [hod] at z; cases z⟩)
    show wpAny _ X.A.in1 (tryCatch (holding [v] (call (.ref f) [v])) _ >>= _) _ _ _
    refine wpAny_bind (wpAny_tryCatch (wpAny_holding (wpAny_mono (turn (j + 1) _ v Hj _ _ (List.getElem?_eq_getElem more) rx' sm J2) (fun y s2 he => ?_) fun _ _ hF => hF.elim)))
    obtain ⟨yv, H3, J3, ry, sm3, p1, rfl, t1⟩ := he
    obtain rfl : y = Value.ref p1 := ry
    obtain ⟨gS3, fS3⟩ := fp_later J3 (List.mem_cons_self ..) gS' fS
    obtain ⟨gI3, fI3⟩ := fp_later J3 (List.mem_cons_of_mem _ (List.mem_singleton.mpr rfl)) hoI fI
    have J4 := J3.unpinned
    have sm4 := sm.trans sm3
    have hk3 := Same.tup sm3 hk
    obtain ⟨it1, r1, T1, _⟩ := J4.tuple t1
    obtain ⟨it2, r2, T2, _⟩ := J4.tuple hk3
    obtain ⟨⟨cls, dd, data, sl⟩, ho, hc, n, hd⟩ := id T1
    obtain ⟨⟨cls2, dd2, data2, sl2⟩, ho2, hc2, n2, hd2⟩ := id T2
    simp only at hc hd hc2 hd2
    subst hc hd hc2 hd2
    show wpAny _ X.A.in1 (tryCatch (holding [v, .ref p1] (richCompare .Lt (.ref p1) (.ref kb) >>= _)) _ >>= _) _ _ _
    refine wpAny_bind (wpAny_tryCatch (wpAny_holding (wpAny_bind (richCompare_meets_room (op := .Lt) ⟨_, ho, rfl⟩ ⟨_, ho2, rfl⟩ PySem.F.slot_tuple_lt PySem.F.entry_tuple_lt (PySem.F.args_tuple_lt_2 _ _) (HT.tuple_lt_ints p1 kb it1.toArray it2.toArray n n2 dd dd2 sl sl2 (key (j + 1)) (key i) (intsAre_of r1) (intsAre_of r2))
      ⟨ho, ho2, (fun x => nomatch x), ?_⟩ hu))))
    refine wpAny_bind (wpAny_holding (wpAny_truthy_bool ?_))
    refine wpAny_bind (wpAny_letGo (wpAny_pure ?_))
    have hit3 : s2.heap.IsListIter I l (j + 1 + 1) := ⟨oI, gI3, hoc, hod⟩
    by_cases less : HT.lexLt (key (j + 1)) (key i) = true
    · have s1 := Heap.SameBut.update s2.heap S (Obj.mapSeq fun _ => #[v, Value.ref p1])
      obtain ⟨c2, hc2⟩ : ∃ c2, (s2.heap.update S (Obj.mapSeq fun _ => #[v, Value.ref p1])).get? S = some (seqObj "list" #[v, Value.ref p1] c2) := ⟨_, get?_update_seq gS3 fun _ => #[v, Value.ref p1]⟩
      simp only [less, if_true]
      refine wpAny_bind ?_
      refine wpAny_updateSeq gS3 rfl (wpAny_bind (wpAny_letGo ?_))
      rw [word]
      refine wpAny_pure ⟨plainId_quiet PySem.F.plain_min_loop _, ih (j + 1) (j + 1) H3 _ _ v p1 c2 (by omega) more sm4 (J4.turnedL (ch := [S]) (fun b o hb z => (s1.2 b (fun y => hb (by rw [y]; exact List.mem_singleton.mpr rfl))).trans z) fun b hb => by rw [List.mem_singleton.mp hb]; exact fS3) fS3 fI3 hc2 ?_ (List.getElem?_eq_getElem more) rx' t1 (Nat.le_refl _) fun j' hj' => ?_⟩
      · exact ⟨oI, (s1.2 I hSI.symm).trans gI3, hoc, hod⟩
      · by_cases e : j' = j + 1
        · subst e
          exact lex_irr _
        · have b1 := best j' (by omega)
          cases q : HT.lexLt (key j') (key (j + 1)) with
          | false => rfl
          | true =>
            rw [lex_trans q less] at b1
            cases b1
    · have less0 : HT.lexLt (key (j + 1)) (key i) = false := Bool.eq_false_iff.mpr less
      simp only [less0, Bool.false_eq_true, if_false]
      refine wpAny_bind (wpAny_letGo ?_)
      rw [word]
      refine wpAny_pure ⟨plainId_quiet PySem.F.plain_min_loop _, ih (j + 1) i H3 s2 x vb kb c (by omega) more sm4 J4 fS3 fI3 gS3 hit3 hx rb hk3 (by omega) fun j' hj' => ?_⟩
      by_cases e : j' = j + 1
      · subst e
        exact less0
      · exact best j' (by omega)
theorem minK {H : Hp} {s : Shared} {f l : Addr} {xs : List V} {key : Nat → List Int} {Q : VK} {E : Value → Shared → Prop} (hh : X.A.handled = none) (hu : X.A.units + 1 < cLine) (J : L2.Inv X pins σ H s) (hl : SqL X.K H l xs) (hne : 0 < xs.length) (turn : KeyTurn X σ H f xs key)
    (hQ : ∀ (i : Nat) (x : V) (H' : Hp), xs[i]? = some x → (∀ j, j < xs.length → HT.lexLt (key j) (key i) = false) → Same H H' → Q x H') :
    wpAny (model X.prog X.w) X.A (call (.builtin "min") [.ref l] [(Str.ofString "key", .ref f)]) (EP X pins σ Q) E s := by
  have word : (toString "min" ++ toString ".loop" : String) = "min.loop" := by decide
  obtain ⟨its, rv, pl, _⟩ := J.list hl
  obtain ⟨ol, hol, _⟩ := id pl.isList
  have hll : l < s.heap.objs.size := Heap.lt_size hol
  refine kmk_tree PySem.F.kind_min PySem.F.plain_min PySem.F.entry_min (kmk_min_key _ _) ?_
  show wpAny _ X.A.in1 (Builtin.Builtins.bindParams "min" ["key", "default"] 0 ⟨[], [(Str.ofString "key", .ref f)]⟩ >>= _) _ _ s
  refine wpAny_bind (wpAny_of_eq (show Builtin.Builtins.bindParams "min" ["key", "default"] 0 ⟨[], [(Str.ofString "key", .ref f)]⟩ = pure [some (.ref f), none] from rfl) ?_)
  refine wpAny_bind (wpAny_pure ?_)
  refine wpAny_bind (wpAny_pyIter_list pl.isList ?_)
  refine wpAny_bind (wpAny_newList ?_ (Nat.zero_le _))
  rw [word]
  have eS : (s.heap.push { cls := .type "list_iterator", data := .fields #[.ref l, .int 0 0] }).objs.size = s.heap.objs.size + 1 := size_push' ..
  have hlI : l ≠ s.heap.objs.size := Nat.ne_of_lt hll
  have J0 : L2.Inv X pins σ H { s with heap := (s.heap.push { cls := .type "list_iterator", data := .fields #[.ref l, .int 0 0] }).push (seqObj "list" #[] 0) } := (J.kept (t' := s.toks) fun b o z => Heap.get?_push_of_some _ (Heap.get?_push_of_some _ z))
  have gI : ((s.heap.push { cls := .type "list_iterator", data := .fields #[.ref l, .int 0 0] }).push (seqObj "list" #[] 0)).get? s.heap.objs.size = some { cls := .type "list_iterator", data := .fields #[.ref l, .int 0 0] } := Heap.get?_push_of_some _ (Heap.get?_push_size _ rfl)
  have gS : ((s.heap.push { cls := .type "list_iterator", data := .fields #[.ref l, .int 0 0] }).push (seqObj "list" #[] 0)).get? (s.heap.push { cls := .type "list_iterator", data := .fields #[.ref l, .int 0 0] }).objs.size = some (seqObj "list" #[] 0) := Heap.get?_push_size _ rfl
  have fI : FpOk X pins H s.heap.objs.size := J.fpOk (Nat.le_refl _) (J.hok.fresh (Nat.le_refl _))
  have fS : FpOk X pins H (s.heap.push { cls := .type "list_iterator", data := .fields #[.ref l, .int 0 0] }).objs.size := by
    rw [eS]
    exact J.fpOk (Nat.le_succ _) (J.hok.fresh (Nat.le_succ _))
  have hSI : (s.heap.push { cls := .type "list_iterator", data := .fields #[.ref l, .int 0 0] }).objs.size ≠ s.heap.objs.size := by rw [eS]; exact Nat.succ_ne_self _
  refine wpAny_pure ⟨plainId_quiet PySem.F.plain_min_loop _, ?_⟩
  obtain ⟨its0, rv0, pl0, _⟩ := J0.list hl
  have W := Walks.list (prog := X.prog) (w := X.w) (A := X.A.in1) hh s.heap.objs.size l hlI its0.toArray
  have size : its0.toArray.size = xs.length := by rw [List.size_toArray, ← rv0.length]
  generalize (s.heap.push { cls := .type "list_iterator", data := .fields #[.ref l, .int 0 0] }).objs.size = S at *
  generalize (s.heap.push { cls := .type "list_iterator", data := .fields #[.ref l, .int 0 0] }).push (seqObj "list" #[] 0) = h0 at *
  refine codeAny_builtin PySem.F.entry_min_loop ?_
  rw [Around.under_plainId PySem.F.plain_min_loop _]
  show wpAny _ X.A.in1 (seqItems? (.ref S) >>= _) _ _ _
  refine wpAny_bind (wpAny_seqItems gS rfl ?_)
  show wpAny _ X.A.in1 (tryCatch (pyNext (.ref s.heap.objs.size)) _ >>= _) _ _ _
  refine wpAny_bind (wpAny_tryCatch (W.item 0 _ _ _ (by rw [size]; exact hne) ⟨⟨_, gI, rfl, rfl⟩, pl0.isList⟩ fun v h' tk' hP hst' hk' => ?_))
  have hv : its0[0]? = some v := by simpa using hP
  obtain ⟨v', hv', rx'⟩ := rv0.get (List.getElem?_eq_getElem hne)
  rw [hv] at hv'
  cases hv'
  obtain ⟨oI, hoI, hoc, hod⟩ := id hst'.1
  have gS' := hk' S _ (by simpa using hSI) gS
  have J1 : L2.Inv X pins σ H { s with heap := h', toks := tk' } := L2.Inv.turnedL (s := { s with heap := h0 }) (ch := [s.heap.objs.size]) J0 hk' fun b hb => by rw [List.mem_singleton.mp hb]; exact fI
  have J2 := J1.pinned (fp := [S, s.heap.objs.size]) (fun b hb => by
    rcases List.mem_cons.mp hb with e | e
    · rw [e]; exact fS
    · rw [List.mem_singleton.mp e]; exact fI) (fun b hb => by
    rcases List.mem_cons.mp hb with e | e
    · rw [e]; exact ⟨_, gS', fun v z => nomatch z⟩
    · rw [List.mem_singleton.mp e]; exact ⟨oI, hoI, fun v z => by rw [hod] at z; cases z⟩)
  show wpAny _ X.A.in1 (tryCatch (holding [v] (call (.ref f) [v])) _ >>= _) _ _ _
  refine wpAny_bind (wpAny_tryCatch (wpAny_holding (wpAny_mono (turn 0 _ v H _ _ (List.getElem?_eq_getElem hne) rx' (Same.refl _) J2) (fun y s2 he => ?_) fun _ _ hF => hF.elim)))
  obtain ⟨yv, H3, J3, ry, sm3, p1, rfl, t1⟩ := he
  obtain rfl : y = Value.ref p1 := ry
  obtain ⟨gS3, fS3⟩ := fp_later J3 (List.mem_cons_self ..) gS' fS
  obtain ⟨gI3, fI3⟩ := fp_later J3 (List.mem_cons_of_mem _ (List.mem_singleton.mpr rfl)) hoI fI
  have J4 := J3.unpinned
  have s1 := Heap.SameBut.update s2.heap S (Obj.mapSeq fun _ => #[v, Value.ref p1])
  obtain ⟨c2, hc2⟩ : ∃ c2, (s2.heap.update S (Obj.mapSeq fun _ => #[v, Value.ref p1])).get? S = some (seqObj "list" #[v, Value.ref p1] c2) := ⟨_, get?_update_seq gS3 fun _ => #[v, Value.ref p1]⟩
  show wpAny _ X.A.in1 (updateSeq S (fun _ => #[v, Value.ref p1]) >>= _) _ _ _
  refine wpAny_bind ?_
  refine wpAny_updateSeq gS3 rfl ?_
  rw [word]
  refine wpAny_pure ⟨plainId_quiet PySem.F.plain_min_loop _, minK_loop (pins := pins) hh hu hl hlI hSI turn (fun i x u H' s' hx ru hb sm J => ⟨x, H', J, ru, hQ i x H' hx hb sm⟩) _ 0 0 H3 _ _ v p1 c2 rfl hne sm3 (J4.turnedL (ch := [S]) (fun b o hb z => (s1.2 b (fun y => hb (by rw [y]; exact List.mem_singleton.mpr rfl))).trans z) fun b hb => by rw [List.mem_singleton.mp hb]; exact fS3) fS3 fI3 hc2 ⟨oI, (s1.2 _ hSI.symm).trans gI3, hoc, hod⟩ (List.getElem?_eq_getElem hne) rx' t1 (Nat.le_refl _) fun j' hj' => ?_⟩
  have e : j' = 0 := by omega
  subst e
  exact lex_irr _
end
/-- min(e, key=lambda x: b): js, where the captured names stand -/
def MinR (K : PySem.W.Frag) (Ps : List Addr) (nm : Nat → Nat → Str) (N : List Str) (js : List Nat) (tb : TE) (σ : L2.St) (Q : VK) (vs : List V) (H1 : Hp) : Prop := ∃ (a : Addr) (xs : List V), vs = [.ref a] ∧ SqL K H1 a xs ∧ 0 < xs.length ∧ TabsOk Ps nm H1 ∧
  ∀ H2, ExtN H1 H2 → TabsOk Ps nm H2 → ∃ key : Nat → List Int, (∀ (i : Nat) (x : V) (H' : Hp), xs[i]? = some x → Same H2 H' → tb (startF N [x] (js.map (slotAt σ))) H' fun v H'' => Same H' H'' ∧ ∃ p, v = .ref p ∧ SqT K H'' p ((key i).map V.int)) ∧
    ∀ (i : Nat) (x : V) (H' : Hp), xs[i]? = some x → (∀ j, j < xs.length → HT.lexLt (key j) (key i) = false) → Same H2 H' → Q x H'
def tMinL (K : PySem.W.Frag) (Ps : List Addr) (nm : Nat → Nat → Str) (N : List Str) (js : List Nat) (te : TA) (tb : TE) : TE := fun σ H Q => te σ H (MinR K Ps nm N js tb σ Q)
theorem ExtN.seq {K : PySem.W.Frag} {H H' : Hp} {a : Addr} {xs : List V} (e : ExtN H H') (h : SqL K H a xs) : SqL K H' a xs := by
  rcases h with (h | ⟨o, h⟩) | h
  · exact .inl (.inl (e _ _ h fun ps z => nomatch z))
  · exact .inl (.inr ⟨o, e _ _ h fun ps z => nomatch z⟩)
  · exact .inr h
theorem ExtN.tup {K : PySem.W.Frag} {H H' : Hp} {a : Addr} {xs : List V} (e : ExtN H H') (h : SqT K H a xs) : SqT K H' a xs := by
  rcases h with (h | ⟨o, h⟩) | h
  · exact .inl (.inl (e _ _ h fun ps z => nomatch z))
  · exact .inl (.inr ⟨o, e _ _ h fun ps z => nomatch z⟩)
  · exact .inr h
abbrev lamF (X : Cx) (params : Arguments) (scope : Scope) (c' : Addr) : NF := ⟨"<lambda>", X.env.qual ++ "<lambda>", params, [], scope, cloFrom X.env.cells scope.names [], c'⟩
theorem pe_minL {X : Cx} {K : PySem.W.Frag} {Ps : List Addr} {nm : Nat → Nat → Str} {c P : Addr} {N fr : List Str} {js : List Nat} {k : Nat} {a : Str} {x : Str} {e : Expr} {params : Arguments} {b : Expr} {scope : Scope} {p pos lpos kpos : Pos} {te : TA} {tb : TE}
    (eK : X.K = K) (calm : X.calm = true) (room : Room (k + 2) X.A) (hg : Gl X x) (hm : X.mg x = none) (hv : bootBuiltins x = some (.builtin "min")) (ha : PA X [e] te) (TB : TabB X.base X.mg c P) (hcode : X.env.code = .ref c) (hP : P ∈ Ps) (hn : nm lpos.line lpos.col = X.env.qual ++ "<lambda>")
    (hdef : defaultsOf params X.env = ([], [])) (S : NScope N [a] fr scope) (hsc : ndefB X.env.scope scope fr = true) (hjs : js.map (fun j => X.N[j]?) = fr.map some)
    (bnd : ∀ (q : Str) (cl : List (Str × Addr)) (pm cv ctv : Value) (us : List Value), us.length = 1 → bindArgs (PySem.W.kla_fn "<lambda>" q params b scope cl pm cv ctv) ⟨us, []⟩ = pure ([a].zip us))
    (hb : ∀ (A : Around) (outer : List Env) (s : Shared) (H : Hp) (f c' : Addr), Room k (A.deeper (envF (lamF X params scope c') f s.heap.objs.size)) → PE (ncx CX0 X.prog X.w X.K X.mg X.base N (lamF X params scope c') f A outer s H E0) b tb)
    (hnm : x ≠ "__name__" := by decide) (hdb : (x == ("__debug__" : Str)) = false := by decide)
    (hst : backTo pos (starEach [e] X.env) = (false, eval e X.env) :: backTo pos (starEach [] X.env) := by rfl) (hpl : (backTo pos (starEach [e] X.env)).any (·.1) = false := by rfl) :
    PE X (.Call (.Name x p) [e] [⟨some "key", .Lambda params b scope lpos, kpos⟩] pos) (tMinL K Ps nm N js te tb) := by
  subst eK
  refine ⟨fun pins s σ H Q I h => ?_⟩
  refine wpAny_Call_Name_kw (ld_blt I hg hm hv ?_ hnm hdb)
  refine PyProof.Rows.callWith_kw (thn (ha.run pos pins s σ H _ I h) fun us s1 ⟨vs, H1, I1, r1, q1⟩ => ?_) hst hpl rfl rfl
  obtain ⟨l, xs, rfl, hl, hne, hT, q⟩ := q1
  rw [Vals.ref1 r1]
  show wpAny _ _ (evalAll ((do let v ← eval (.Lambda params b scope lpos) X.env; standAt pos; pure v) :: [])) _ _ _
  have hf := ndef_free hsc
  refine wpAny_evalAll_cons (wpAny_bind (lam_made I1 TB hcode hP hn hT hdef (fun y hy z => (hf y hy z).elim (fun z => I1.ok.has _ (.inl z)) fun z => I1.ok.has _ (.inr z)) fun f c' H2 s2 I2 gr T2 nf isL isC => wpAny_bind (wpAny_standAt (wpAny_pure ?_))))
  refine wpAny_evalAll_nil ?_
  obtain ⟨key, each, fin⟩ := q H2 gr T2
  show wpAny _ _ (call (.builtin "min") [.ref l] [(Str.ofString "key", .ref f)]) _ _ _
  have cps := Caps.made (js := js) I2.ok hf (ndef_fr hsc) hjs
  refine minK (I2.ok.hd calm) (by have := room.units; omega) I2 (ExtN.seq gr hl) hne (fun i x u H' s' pins' hx ru sm J => ?_) fin
  have isL' := sm _ _ isL
  have isC' := sm _ _ isC
  have run := lam_run (CX := CX0) (E := E0) (k := k) (N := N) (ps := [a]) (fr := fr) (us := [u]) (vs := [x]) (ws := js.map (slotAt σ)) (Q := fun v H'' => Same H' H'' ∧ ∃ p, v = .ref p ∧ SqT X.K H'' p ((key i).map V.int)) S (fun pm ctv us hl => bnd _ _ pm _ ctv us hl) rfl room.in1 J.env0.in1 isL' isC' (cells_of J cps) (.cons ru .nil) fun hr => ⟨tb, hb _ _ _ _ _ c' hr, each i x H' hx sm⟩
  refine wpAny_call (codeAny_mono run fun res s'' hq => ?_)
  cases res with
  | error ex => exact (show False from hq).elim
  | ok fl =>
    cases fl with
    | ret u => exact J.after hq
    | next => exact False.elim hq
    | brk => exact False.elim hq
    | cont => exact False.elim hq
end NS

/-! ### the end of a law whose text makes lambdas -/
namespace NS
open PySem PySem.Spec PyProof.Rows L2 LamX NdefX
/-- a def whose code object stands at c -/
structure DfC (K : PySem.W.Frag) (x : Str) (st : Stmt) (f : Addr) (fd : FuncData) (c : Addr) : Prop where
  ex : ∃ (oc : Value) (od : Option Addr) (kV doc pm : Value) (an : Option Addr) (ct : Value) (osl : Array (Option Value)), fd = PySem.W.fnOf x x (defArgs st) (defBody st) (defScope st) .none kV doc pm an (.ref c) ct ∧
    K.lookup f = some ⟨oc, od, .func (PySem.W.fnOf x x (defArgs st) (defBody st) (defScope st) .none kV doc pm an (.ref c) ct), osl⟩ ∧ PySem.W.codeIn K (.ref c) x = true
theorem okC {P : Program} {w : World} {K : PySem.W.Frag} {mg : Str → Option Value} {base : Heap} {x : Str} {st : Stmt} {f c : Addr} {fd : FuncData} {N ps : List Str} {k : Nat} {sp : Sp} (L : DfC K x st f fd c) (S : FnScope N ps (defScope st)) (len : ∀ vs H Q E, sp vs H Q E → vs.length = ps.length)
    (body : ∀ (A : Around) (outer : List Env) (s : Shared) (H : Hp) (vs : List V) (Q : VK) (E : XK), Room k (A.deeper (envOfC x (defScope st) s.heap.objs.size f (.ref c))) → sp vs H Q E →
      ∃ t, PSs (cxOf CX0 P w K mg base N x (defScope st) f (.ref c) A outer s H E).nox (defBody st) t ∧ t { nx := fun _ H' => Q .non H', rt := Q } (start N vs) H) : FnOk P w K mg base CX0 (k + 1) f fd ps sp := by
  obtain ⟨oc, od, kV, doc, pm, an, ct, osl, rfl, lk, hcd⟩ := L.ex
  refine fn_of lk hcd S len fun A outer s H vs Q E hr h => ?_
  obtain ⟨t, der, rd⟩ := body A outer s H vs Q E hr h
  exact ⟨t, der.nox, rd⟩
/-- what the top tells of the table of the def x -/
def TabAt (mg : Str → Option Value) (h : Heap) (x : Str) : Prop := ∃ (a : Addr) (o : Obj) (fd : FuncData) (c P : Addr), mg x = some (.ref a) ∧ h.get? a = some o ∧ o.data = .func fd ∧ fd.code = .ref c ∧ PySem.W.CodeHd h c P ∧ h.get? P = some { cls := .none, data := .fields #[] }
theorem tab_at {K : PySem.W.Frag} {h : Heap} {mg : Str → Option Value} {x : Str} {f : Addr} {oc : Value} {od : Option Addr} {fd : FuncData} {osl : Array (Option Value)} (t : TabAt mg h x) (X : K.In h) (g : mg x = some (.ref f)) (lk : K.lookup f = some ⟨oc, od, .func fd, osl⟩) :
    ∃ c P, fd.code = .ref c ∧ PySem.W.CodeHd h c P ∧ h.get? P = some { cls := .none, data := .fields #[] } := by
  obtain ⟨a, o, fd', c, P, e1, e2, e3, e4, e5, e6⟩ := t
  rw [g] at e1
  cases e1
  rw [X _ _ lk] at e2
  cases e2
  cases e3
  exact ⟨c, P, e4, e5, e6⟩
theorem no_tab {K : PySem.W.Frag} {h : Heap} {P : Addr} (X : K.In h) (hK : PySem.W.noTabs K = true) (e : h.get? P = some { cls := .none, data := .fields #[] }) : K.lookup P = none := by
  cases q : K.lookup P with
  | none => rfl
  | some o =>
    have z := X _ _ q
    rw [e] at z
    cases z
    have y := List.all_eq_true.mp hK (P, _) (PySem.W.mem_of_lookupK q)
    exact absurd (show false = true from y) Bool.false_ne_true
theorem lawGT {P : Program} {w : World} {K : PySem.W.Frag} {mg mb : Str → Option Value} {k : Nat} {fa a : Addr} {cs : List (Addr × Addr)} {fd : FuncData} {x : Str} {sp : Sp} {s₁ : Shared} {vs : List Value} {ns : List Int}
    (KX : K.In s₁.heap) (hns : s₁.heap.Ns mainGlobals mg) (hb : s₁.heap.Ns builtinsNs mb) (hbb : ∀ x : Str, x ≠ "__name__" → mb x = bootBuiltins x) (hlim : s₁.heap.NoLimit) (hgn : s₁.gens = #[])
    (tabs : ∀ p ∈ cs, s₁.heap.get? p.2 = some { cls := .none, data := .fields #[] } ∧ K.lookup p.2 = none ∧ PySem.W.CodeHd s₁.heap p.1 p.2)
    (bmain : ∃ (bm : Addr) (ob : Obj), mg "__builtins__" = some (.ref bm) ∧ bm ≠ builtinsNs ∧ s₁.heap.get? bm = some ob ∧ ob.cls = .type "module" ∧ ob.dict = some builtinsNs ∧ ob.data = .plain)
    (ha : s₁.heap.get? a = some { cls := .type "list", data := .seq vs.toArray }) (hi : IntsAre vs ns) (hl : ns.length ≤ sizeLine) (room : Room k callerA)
    (F : ∀ base : Heap, K.In base → base.Ns mainGlobals mg → (∀ p ∈ cs, TabB base mg p.1 p.2) → FnOkG P w K mg base k fa fd [x] sp) (hbind : ∀ (s : Shared) (u : Value), BindsTo s fd ⟨[u], []⟩ [(x, u)])
    (hsp : ∀ H : Hp, (∀ p ∈ cs, H p.2 = some (.tbl #[])) → SqL K H a (ns.map V.int) → sp [.ref a] H (fun v _ => v = .bl true) fun _ _ _ => False) :
    codeAny (model P w) callerA (.call (.ref fa) ⟨[.ref a], []⟩) (fun r s' => r = .ok (.ret (.bool true)) ∧ OldK s₁.heap s'.heap ∧ s'.os = s₁.os ∧ AllBare s'.gens) s₁ := by
  have rv := vals_ints hi
  have lenV := hi.length
  have notA : ∀ p ∈ cs, p.2 ≠ a := fun p hp z => by
    have e := (tabs p hp).1
    rw [z, ha] at e
    cases e
  obtain ⟨H, hH⟩ : ∃ H : Hp, H = fun b => if b = a then (if (K.lookup a).isSome = true then none else some (.frz { cls := .type "list", data := .seq vs.toArray } (.lst (ns.map V.int)))) else if b ∈ cs.map (·.2) then some (.tbl #[]) else none := ⟨_, rfl⟩
  have atT : ∀ p ∈ cs, H p.2 = some (.tbl #[]) := fun p hp => by
    rw [hH]
    show (if p.2 = a then _ else _) = _
    rw [if_neg (notA p hp), if_pos (List.mem_map.mpr ⟨p, hp, rfl⟩)]
  have kinds : ∀ b u, H b = some u → (b = a ∧ K.lookup a = none ∧ u = .frz { cls := .type "list", data := .seq vs.toArray } (.lst (ns.map V.int))) ∨ (∃ p ∈ cs, p.2 = b ∧ u = .tbl #[]) := fun b u z => by
    rw [hH] at z
    have z' : (if b = a then (if (K.lookup a).isSome = true then none else some (HO.frz { cls := .type "list", data := .seq vs.toArray } (.lst (ns.map V.int)))) else if b ∈ cs.map (·.2) then some (.tbl #[]) else none) = some u := z
    by_cases e : b = a
    · rw [if_pos e] at z'
      cases q : K.lookup a with
      | none =>
        rw [q] at z'
        exact .inl ⟨e, rfl, (Option.some.inj z').symm⟩
      | some o =>
        rw [q] at z'
        cases z'
    · rw [if_neg e] at z'
      by_cases m : b ∈ cs.map (·.2)
      · rw [if_pos m] at z'
        obtain ⟨p, hp, ep⟩ := List.mem_map.mp m
        exact .inr ⟨p, hp, ep, (Option.some.inj z').symm⟩
      · rw [if_neg m] at z'
        cases z'
  have script : SqL K H a (ns.map V.int) := by
    cases q : K.lookup a with
    | some o =>
      have z := KX a o q
      rw [ha] at z
      cases z
      exact .inr ⟨_, vs.toArray, _, q, rfl, rfl, rfl, by rw [List.size_toArray, lenV]; exact hl, by simpa using rv⟩
    | none =>
      refine .inl (.inr ⟨{ cls := .type "list", data := .seq vs.toArray }, ?_⟩)
      rw [hH]
      show (if a = a then _ else _) = _
      rw [if_pos rfl, q]
      rfl
  have hok : HOk P w H s₁.heap := fun b u z => by
    rcases kinds b u z with ⟨rfl, _, rfl⟩ | ⟨p, hp, rfl, rfl⟩
    · exact ⟨ha, by rw [List.length_map]; exact hl, vs, _, rv, ha⟩
    · exact (tabs p hp).1
  have seen : ∀ {b : Addr} {o : Obj}, s₁.heap.get? b = some o → (∀ us n, o.data ≠ .seq us n) → o.data ≠ .fields #[] → H b = none := fun {b o} z n1 n2 => by
    cases q : H b with
    | none => rfl
    | some u =>
      rcases kinds b u q with ⟨e, _, _⟩ | ⟨p, hp, e, _⟩
      · rw [e, ha] at z
        cases z
        exact (n1 _ _ rfl).elim
      · rw [← e, (tabs p hp).1] at z
        cases z
        exact (n2 rfl).elim
  have dictK : ∀ {b : Addr} {m : Str → Option Value}, s₁.heap.Ns b m → (hidT s₁.heap H).Ns b m := fun {b m} z => by
    obtain ⟨o, es, ep, g, d, r⟩ := z
    exact ⟨o, es, ep, hidT_get g (seen g (fun us n z => by rw [d] at z; cases z) fun z => by rw [d] at z; cases z), d, r⟩
  have inB : K.In (hidT s₁.heap H) := fun b o z => hidT_get (KX b o z) (by
    cases q : H b with
    | none => rfl
    | some u =>
      rcases kinds b u q with ⟨e, n, _⟩ | ⟨p, hp, e, _⟩
      · rw [e, n] at z
        cases z
      · rw [← e, (tabs p hp).2.1] at z
        cases z)
  have TB : ∀ p ∈ cs, TabB (hidT s₁.heap H) mg p.1 p.2 := fun p hp => by
    obtain ⟨t1, _, o, us, file, tf, flags, tg, inF, text, tt, e1, r1, r2, r3, rr⟩ := tabs p hp
    refine ⟨⟨o, us, file, tf, flags, tg, inF, text, tt, hidT_get e1 (seen e1 (fun us n z => by rw [r2] at z; cases z) fun z => ?_), r1, r2, r3, rr⟩, ?_, fun z => ?_⟩
    · rw [r2] at z
      cases z
      exact absurd r3 (by simp)
    · obtain ⟨bm, ob, b1, b2, b3, b4, b5, b6⟩ := bmain
      refine ⟨bm, ob, b1, b2, fun q => ?_, fun q => ?_, hidT_get b3 (seen b3 (fun us n z => by rw [b6] at z; cases z) fun z => by rw [b6] at z; cases z), b4, b5, b6⟩
      · obtain ⟨o, es, ep, e, hd, _⟩ := hns
        rw [q, e] at b3
        cases b3
        rw [hd] at b6
        cases b6
      · rw [q, t1] at b3
        cases b3
        cases b6
    · obtain ⟨o, es, ep, e, hd, _⟩ := hns
      rw [z, t1] at e
      cases e
      cases hd
  have hM : Mod K mg (hidT s₁.heap H) := ⟨inB, dictK hns, ⟨mb, dictK hb, hbb⟩, hlim.elim fun mc z => ⟨mc, dictK z.1, z.2⟩⟩
  have en : Env0 P w K mg (hidT s₁.heap H) callerA [] s₁ H := ⟨rfl, hM, fun b o z => of_hidT z, Nat.le_of_eq (hidT_size _ _), trivial, (fun b z => absurd (show b ∈ ([] : List Addr) from z) (by simp)), hok, .of_eq hgn⟩
  refine codeAny_mono ((F _ inB (dictK hns) TB).run callerA [] s₁ H ⟨[.ref a], []⟩ [.ref a] [.ref a] _ _ rfl room en (hbind s₁ (.ref a)) (.cons rfl .nil) (hsp H atT script)) fun res s' out => ?_
  cases res with
  | error ex => exact (show False from out).elim
  | ok fl =>
    cases fl with
    | next => exact False.elim out
    | brk => exact False.elim out
    | cont => exact False.elim out
    | ret u =>
      obtain ⟨v, H', os, bare, un, hok', rel, isT⟩ := out
      have isT' : v = .bl true := isT
      subst isT'
      obtain rfl : u = Value.bool true := rel
      have kept : ∀ b o, (∀ p ∈ cs, p.2 ≠ b) → s₁.heap.get? b = some o → s'.heap.get? b = some o := fun b o nb z => by
        cases q : H b with
        | none => exact un.keep b o z q (fun y => absurd (show b ∈ ([] : List Addr) from y) (by simp)) (by simp)
        | some u =>
          rcases kinds b u q with ⟨_, _, rfl⟩ | ⟨p, hp, e, _⟩
          · have z1 := (hok b _ q).1
            have z2 := (hok' b _ (un.frzs b _ _ q)).1
            rw [z] at z1
            cases z1
            exact z2
          · exact absurd e (nb p hp)
      have grown : ∀ p ∈ cs, ∃ more : Array Value, s'.heap.get? p.2 = some { cls := .none, data := .fields more } := fun p hp => by
        obtain ⟨more, z⟩ := un.tbls p.2 #[] (atT p hp)
        exact ⟨_, hok' p.2 _ z⟩
      refine ⟨rfl, ⟨fun b o e => ?_, fun b o e => ?_⟩, os, bare⟩
      · by_cases q : ∃ p ∈ cs, p.2 = b
        · obtain ⟨p, hp, rfl⟩ := q
          obtain ⟨more, hm⟩ := grown p hp
          rw [(tabs p hp).1] at e
          cases e
          exact .inr (.inl ⟨((tabs p hp).2.2.tab (tabs p hp).1).isCodeTable, rfl, #[], more, rfl, by rw [Array.empty_append]; exact hm⟩)
        · exact .inl (kept b o (fun p hp z => q ⟨p, hp, z⟩) e)
      · by_cases q : ∃ p ∈ cs, p.2 = b
        · obtain ⟨p, hp, rfl⟩ := q
          obtain ⟨more, hm⟩ := grown p hp
          exact ⟨_, hm⟩
        · exact ⟨o, kept b o (fun p hp z => q ⟨p, hp, z⟩) e⟩
/-- what is to be shown of the law where the tables of the defs xs are known -/
theorem walkGT {l : PySem.W.OpenLaw} {n k : Nat} {q : Program} {loose : List Str} {XP : (Str → Option Value) → Heap → Prop} {YP : World → Heap → Prop} {d : DefRec} {K : Params → PySem.W.Frag} {sp : World → List (Addr × Addr) → Sp} {x : Str} (xs : List Str)
    (hn : l.most = some n) (hn2 : n ≤ sizeLine) (hdf : d.params.defaults = []) (room : Room k callerA) (recs : ∀ y ∈ xs, ((recsOf q).any fun e => e.name == y) = true) (hK : ∀ p : Params, PySem.W.noTabs (K p) = true)
    (hY : ∀ (w : World) (h : Heap), YP w h → (K w.params).In h)
    (F : ∀ (w : World) (mg : Str → Option Value) (fa : Addr) (h : Heap), (K w.params).In h → h.Ns mainGlobals mg → mg d.name = some (.ref fa) → (∀ y ∈ xs, TabAt mg h y) →
      ∃ (fd : FuncData) (cs : List (Addr × Addr)), (∀ (s : Shared) (u : Value), BindsTo s fd ⟨[u], []⟩ [(x, u)]) ∧ (∀ p ∈ cs, h.get? p.2 = some { cls := .none, data := .fields #[] } ∧ PySem.W.CodeHd h p.1 p.2) ∧
        ∀ base : Heap, (K w.params).In base → base.Ns mainGlobals mg → (∀ p ∈ cs, TabB base mg p.1 p.2) → FnOkG l.prog w (K w.params) mg base k fa fd [x] (sp w cs))
    (hsp : ∀ (w : World) (cs : List (Addr × Addr)) (H : Hp) (a : Addr) (ns : List Int), ns.length ≤ n → (∀ p ∈ cs, H p.2 = some (.tbl #[])) → SqL (K w.params) H a (ns.map V.int) → sp w cs [.ref a] H (fun v _ => v = .bl true) fun _ _ _ => False) :
    PySem.W.WalkO q loose XP YP l.row.toRowW d [] (fun f vs => PySem.call f vs) := by
  refine Att.attach_call hn hdf fun w s₀ s₁ mg mb fa o pm cd doc a vs ns G Y ho hd hcd hmg hobj hints hlen hgn => ?_
  have KX := hY w _ Y
  obtain ⟨fd, cs, bnd, tbs, kept⟩ := F w mg fa _ KX G.T.g hmg fun y hy => by
    obtain ⟨dL, hm, hn1⟩ := List.any_eq_true.mp (recs y hy)
    have hn2 : dL.name = y := beq_iff_eq.mp hn1
    obtain ⟨a', o', fd', c', P', h1, h2, h3, h4, h5, h6⟩ := G.T.tab dL hm
    rw [hn2] at h1
    exact ⟨a', o', fd', c', P', h1, h2, h3, h4, PySem.W.CodeHd.of h5 h6, h6.2⟩
  exact lawGT KX G.T.g G.T.b G.T.builtins G.T.nolimit hgn (fun p hp => ⟨(tbs p hp).1, no_tab KX (hK _) (tbs p hp).1, (tbs p hp).2⟩) G.T.bmain hobj hints (Nat.le_trans hlen hn2) room kept bnd fun H hT hS => hsp w cs H a ns hlen hT hS
end NS

/-! ### t * n, n from 1 on; lemmas of growing tables -/
namespace NS
open PySem PySem.Spec PyProof.Rows L2
theorem tuple_once (l : Addr) (items : Array Value) (n : Nat) (dd : Option Addr) (sl : Array (Option Value)) (u : Tok) :
    Meets (Builtin.«tuple.__mul__» ⟨[.ref l, .int 1 u], []⟩) (fun _ R s => s.heap.get? l = some { cls := .type "tuple", dict := dd, data := .seq items n, slots := sl } ∧ R (.ok (.ret (Value.ref l))) s) :=
  .of_wp fun prog w A R s h => by
    obtain ⟨hp, g, d, tk, os⟩ := s
    obtain ⟨hl, h⟩ := h
    have f1 := AutoSeq1.idx_int
    wp_walk using wpAny_loadPart' hl
    exact ⟨_, rfl, h⟩
/-- t * k of a tuple, k at least 1 -/
def rRepA (K : PySem.W.Frag) : R2 := fun x y H Q => ∃ (l : Addr) (k : Int) (xs : List V), x = .ref l ∧ y = .int k ∧ SqT K H l xs ∧ xs ≠ [] ∧ 1 ≤ k ∧ k ≤ 1000 ∧ xs.length ≤ 1000 ∧ ∀ p H', Same H H' → SqT K H' p (List.replicate k.toNat xs).flatten → Q (.ref p) H'
theorem op_repA {X : Cx} : OpR X (binaryOp .Mult) (rRepA X.K) := by
  intro pins s σ H x y v u Q I rx ry h
  obtain ⟨l, k, xs, e1, e2, hT, hne, h1, h2, hz, q⟩ := h
  rcases Int.lt_or_eq_of_le h1 with hk | hk
  · exact op_repT pins s σ H x y v u Q I rx ry ⟨l, k, xs, e1, e2, hT, hne, by omega, h2, hz, fun p hp => q p _ (same_upd hp) (sqT upd_same)⟩
  · subst e1 e2 hk
    cases rx
    obtain ⟨t, rfl⟩ := ry
    obtain ⟨its, r, ⟨⟨cls, dd, data, sl⟩, ho, hc, n, hd⟩, hs⟩ := I.tuple hT
    simp only at hc hd
    subst hc hd
    refine wpAny_binaryOp_repeat_ref (T := "tuple") (U := "int") (by decide) ⟨_, ho, rfl⟩ (fun s' => typeIs_int s' 1 t) noFill_tuple_mul F.fills_int_mul F.slot_int_rmul repeat_tuple F.slot_int_index.lookup
      (call_meets F.slot_int_rmul (typeIs_int s 1 t) F.entry_int_rmul (F.args_int_rmul_2 _ _) (int_rmul_tuple 1 t l its.toArray n dd sl)
        ⟨ho, rfl, ⟨_, ho, rfl⟩, call_meets F.slot_tuple_mul ⟨_, ho, rfl⟩ F.entry_tuple_mul (F.args_tuple_mul_2 _ _) (tuple_once l its.toArray n dd sl t) ⟨ho, ?_⟩⟩)
    refine ⟨.ref l, H, I, rfl, q l H (Same.refl _) ?_⟩
    show SqT X.K H l (xs ++ [])
    rw [List.append_nil]
    exact hT
theorem tuple_none (l : Addr) (items : Array Value) (n : Nat) (dd : Option Addr) (sl : Array (Option Value)) (u : Tok) (c1 : (items.isEmpty || (0 : Int) == 1) = false) :
    Meets (Builtin.«tuple.__mul__» ⟨[.ref l, .int 0 u], []⟩) (fun _ R s => s.heap.get? l = some { cls := .type "tuple", dict := dd, data := .seq items n, slots := sl } ∧
      R (.ok (.ret (Value.ref s.heap.objs.size))) { s with heap := s.heap.push { cls := Value.type "tuple", data := Data.seq #[] }, toks := s.toks }) :=
  .of_wp fun prog w A R s h => by
    obtain ⟨hp, g, d, tk, os⟩ := s
    obtain ⟨hl, h⟩ := h
    have f1 := AutoSeq1.idx_int
    wp_walk using wpAny_loadPart' hl
    repeat (first
      | (refine wpAny_ite_false (decide_eq_false (by rw [c1]; exact Bool.false_ne_true)) ?_; wp_walk using wpAny_loadPart' hl))
    exact ⟨_, rfl, h⟩
/-- t * k of a tuple, k at least 0 -/
def rRepN (K : PySem.W.Frag) : R2 := fun x y H Q => ∃ (l : Addr) (k : Nat) (xs : List V), x = .ref l ∧ y = .int (k : Int) ∧ SqT K H l xs ∧ xs ≠ [] ∧ k ≤ 1000 ∧ xs.length ≤ 1000 ∧ ∀ p H', Same H H' → SqT K H' p (List.replicate k xs).flatten → Q (.ref p) H'
theorem op_repN {X : Cx} : OpR X (binaryOp .Mult) (rRepN X.K) := by
  intro pins s σ H x y v u Q I rx ry h
  obtain ⟨l, k, xs, e1, e2, hT, hne, h2, hz, q⟩ := h
  by_cases hk : k = 0
  · subst hk e1 e2
    cases rx
    obtain ⟨t, rfl⟩ := ry
    obtain ⟨its, r, ⟨⟨cls, dd, data, sl⟩, ho, hc, n, hd⟩, hs⟩ := I.tuple hT
    simp only at hc hd
    subst hc hd
    have hi : (its.toArray.isEmpty || (0 : Int) == 1) = false := by
      have : its ≠ [] := fun e => hne (List.eq_nil_of_length_eq_zero (by rw [r.length, e]; rfl))
      cases its with
      | nil => exact absurd rfl this
      | cons _ _ => rfl
    refine wpAny_binaryOp_repeat_ref (T := "tuple") (U := "int") (by decide) ⟨_, ho, rfl⟩ (fun s' => typeIs_int s' 0 t) noFill_tuple_mul F.fills_int_mul F.slot_int_rmul repeat_tuple F.slot_int_index.lookup
      (call_meets F.slot_int_rmul (typeIs_int s 0 t) F.entry_int_rmul (F.args_int_rmul_2 _ _) (int_rmul_tuple 0 t l its.toArray n dd sl)
        ⟨ho, rfl, ⟨_, ho, rfl⟩, call_meets F.slot_tuple_mul ⟨_, ho, rfl⟩ F.entry_tuple_mul (F.args_tuple_mul_2 _ _) (tuple_none l its.toArray n dd sl t hi) ⟨ho, ?_⟩⟩)
    refine ⟨.ref s.heap.objs.size, _, I.laid (t' := s.toks) (o := .tup []) (fun b ob q => Heap.get?_push_of_some _ q) (Nat.le_refl _) ?_, rfl, q _ _ (same_upd (I.hok.fresh (Nat.le_refl _))) (sqT upd_same)⟩
    exact ⟨Nat.zero_le _, [], .nil, IsTup.new _ _⟩
  · exact op_repA pins s σ H x y v u Q I rx ry ⟨l, (k : Int), xs, e1, e2, hT, hne, by omega, by omega, hz, fun p H' e hp => q p H' e (by rw [Int.toNat_natCast] at hp; exact hp)⟩
theorem op_repNK {X : Cx} {K : PySem.W.Frag} (e : X.K = K) : OpR X (binaryOp .Mult) (rRepN K) := by subst e; exact op_repN
theorem op_repAK {X : Cx} {K : PySem.W.Frag} (e : X.K = K) : OpR X (binaryOp .Mult) (rRepA K) := by subst e; exact op_repA
section
open LamX
variable {K : PySem.W.Frag} {H H1 H2 H' : Hp} {a p : Addr} {xs : List V} {o : HO} {Ps : List Addr} {nm : Nat → Nat → Str}
def NotTbl (H : Hp) (a : Addr) : Prop := ∀ ps, H a ≠ some (.tbl ps)
theorem ntb_l (h : H a = some (.lst xs)) : NotTbl H a := fun ps z => by rw [h] at z; cases z
theorem ntb_t (h : H a = some (.tup xs)) : NotTbl H a := fun ps z => by rw [h] at z; cases z
def TrkN (H : Hp) (a : Addr) : Prop := ∃ o, H a = some o ∧ ∀ ps, o ≠ .tbl ps
theorem trk_l (h : H a = some (.lst xs)) : TrkN H a := ⟨_, h, fun ps z => nomatch z⟩
theorem trk_t (h : H a = some (.tup xs)) : TrkN H a := ⟨_, h, fun ps z => nomatch z⟩
theorem trk_ext (t : TrkN H a) (e : ExtN H H') : TrkN H' a := t.elim fun o z => ⟨o, e a o z.1 z.2, z.2⟩
theorem trk_ats (t : TrkN H a) (e1 : ExtN H H1) (e2 : ExtN H H2) : AtS a H1 H2 := fun o z => by
  obtain ⟨u, h1, h2⟩ := t
  rw [e1 a u h1 h2] at z
  cases z
  exact e2 a _ h1 h2
theorem ext_same (e : Same H H') : ExtN H H' := fun b o h _ => e b o h
theorem ext_mut (e : ExtN H H1) (h : H p = none) : ExtN H (upd H1 p o) := fun b u z n => by
  rw [upd_ne (ne_of_none z h)]
  exact e b u z n
theorem ext_sq (e : ExtN H H') (h : Sq K H a xs) : Sq K H' a xs := h.imp (ExtN.seq e) (ExtN.tup e)
theorem ats_ext (e : ExtN H H') (n : NotTbl H a) : AtS a H H' := fun o h => e a o h fun ps z => n ps (by rw [h, z])
theorem ext_lst (e : ExtN H H') (h : H a = some (.lst xs)) : H' a = some (.lst xs) := e a _ h fun ps z => nomatch z
theorem ext_tup (e : ExtN H H') (h : H a = some (.tup xs)) : H' a = some (.tup xs) := e a _ h fun ps z => nomatch z
theorem tabs_upd (t : TabsOk Ps nm H) (h : H p = some (.lst xs)) : TabsOk Ps nm (upd H p o) := fun P hP => by
  obtain ⟨ps, h1, h2, h3⟩ := t P hP
  refine ⟨ps, ?_, h2, fun pos cv hc => ?_⟩
  · rw [upd_ne (fun z => by rw [z, h] at h1; cases h1)]
    exact h1
  · obtain ⟨c, e1, e2⟩ := h3 pos cv hc
    refine ⟨c, e1, ?_⟩
    rw [upd_ne (fun z => by
      rw [z, h] at e2
      have := Option.some.inj e2
      unfold CodeO at this
      cases this)]
    exact e2
theorem tabs_new (t : TabsOk Ps nm H) (h : H p = none) : TabsOk Ps nm (upd H p o) := t.ext (same_upd h)
theorem tabs_nil (h : ∀ P ∈ Ps, H P = some (.tbl #[])) : TabsOk Ps nm H := fun P hP => NdefX.TabN.nil (h P hP)
/-- all but s and the tables stays -/
def StayN (s : Addr) (H H' : Hp) : Prop := ∀ b o, b ≠ s → H b = some o → (∀ ps, o ≠ .tbl ps) → H' b = some o
variable {s : Addr} {n : Nat}
theorem StayN.trans (a : StayN s H H1) (b : StayN s H1 H2) : StayN s H H2 := fun c o n h t => b c o n (a c o n h t) t
theorem StayN.of (e : ExtN H H') : StayN s H H' := fun b o _ h t => e b o h t
theorem StayN.st (e : Stay s H H') : StayN s H H' := fun b o n h _ => e b o n h
theorem StayN.mut (e : StayN s H H1) (h : H p = none) : StayN s H (upd H1 p o) := fun a u n ha t => by
  rw [upd_ne (ne_of_none ha h)]
  exact e a u n ha t
theorem ext_stayN (hn : H s = none) (e : StayN s (upd H s o) H') : ExtN H H' := fun b x h t => by
  have nb : b ≠ s := ne_of_none h hn
  exact e b x nb (by rw [upd_ne nb]; exact h) t
theorem tabs_stay (t : TabsOk Ps nm H) (e : Stay s H H') (hs : H s = some (.lst xs)) : TabsOk Ps nm H' := fun P hP => by
  obtain ⟨ps, h1, h2, h3⟩ := t P hP
  refine ⟨ps, e _ _ (fun z => by rw [z, hs] at h1; cases h1) h1, h2, fun pos cv hc => ?_⟩
  obtain ⟨c, e1, e2⟩ := h3 pos cv hc
  refine ⟨c, e1, e _ _ (fun z => ?_) e2⟩
  rw [z, hs] at e2
  have := Option.some.inj e2
  unfold CodeO at this
  cases this
theorem tabs_src (t : TabsOk Ps nm H) (e : Stay s H H') (hs : Src H s n) : TabsOk Ps nm H' := by
  obtain ⟨o, ho, a, b, c, rfl, _⟩ := hs
  exact tabs_stay t e ho
theorem src_ext (e : ExtN H H') (hs : Src H s n) : Src H' s n := by
  obtain ⟨o, ho, a, b, c, rfl, r⟩ := hs
  exact ⟨_, ext_lst e ho, a, b, c, rfl, r⟩
theorem src_same (e : Same H H') (hs : Src H s n) : Src H' s n := hs.elim fun o z => ⟨o, e _ _ z.1, z.2⟩
mutual
theorem dp_ext (e : ExtN H H') : ∀ {v : V} {d : PyData}, Dp K H v d → Dp K H' v d
  | _, _, .non => .non
  | _, _, .bl b => .bl b
  | _, _, .int i => .int i
  | _, _, .str x => .str x
  | _, _, .lst h a => .lst (ExtN.seq e h) (dp_extA e a)
  | _, _, .tup h a => .tup (ExtN.tup e h) (dp_extA e a)
theorem dp_extA (e : ExtN H H') : ∀ {vs : List V} {ds : List PyData}, DpAll K H vs ds → DpAll K H' vs ds
  | _, _, .nil => .nil
  | _, _, .cons a b => .cons (dp_ext e a) (dp_extA e b)
end
end
end NS

/-! ### own exception classes straight over a built-in one, with their own __init__ -/
namespace NS
open PySem PySem.Spec PyProof.Rows L2 HandSPX Builtin Builtin.ObjectAttr PySem.Calls
/-- a built-in class that own classes are made over -/
structure Bas (B newId initId : String) (bm : List Value) : Prop where
  F : ExcBaseFacts B newId initId bm
  pass : ∀ self : Value, refuseLoop self "__setattr__" bm = pure ()
  ob : bm.contains (.type "object") = true
  ty : typeOf (.type B) = pure (.type "type")
  stub : Manifest.isStub B = false
  hin : PySem.W.handedIn (.builtin initId) = true
abbrev tlV (B : String) : List Value := [.type B, .type "Exception", .type "BaseException", .type "object"]
abbrev tlA (B : String) : List Value := [.type B, .type "ArithmeticError", .type "Exception", .type "BaseException", .type "object"]
theorem bas_V : Bas "ValueError" "ValueError.__new__" "ValueError.__init__" (tlV "ValueError") := ⟨PySem.F.excBase_ValueError, PySem.F.store_ValueError.passes, by decide +kernel, by kernel_rfl, by decide +kernel, by decide +kernel⟩
theorem bas_L : Bas "LookupError" "LookupError.__new__" "LookupError.__init__" (tlV "LookupError") := ⟨PySem.F.excBase_LookupError, PySem.F.store_LookupError.passes, by decide +kernel, by kernel_rfl, by decide +kernel, by decide +kernel⟩
theorem bas_R : Bas "RuntimeError" "RuntimeError.__new__" "RuntimeError.__init__" (tlV "RuntimeError") := ⟨PySem.F.excBase_RuntimeError, PySem.F.store_RuntimeError.passes, by decide +kernel, by kernel_rfl, by decide +kernel, by decide +kernel⟩
theorem bas_O : Bas "OverflowError" "OverflowError.__new__" "OverflowError.__init__" (tlA "OverflowError") := ⟨PySem.F.excBase_OverflowError, PySem.F.store_OverflowError.passes, by decide +kernel, by kernel_rfl, by decide +kernel, by decide +kernel⟩
/-- what the top says of the class at C -/
structure OexB (K : PySem.W.Frag) (C : Addr) (newId : String) (bm : List Value) : Prop where
  cls : ∃ nm q N bs sn sub ab col dd k0 k1 k2 k3 k5, K.lookup C = some (excClassObj nm q C N bs bm true sn sub ab col dd k0 k1 k2 k3 k5 newId)
  sa : PySem.W.findIn K (.ref C) "__setattr__" = some (some (.builtin "object.__setattr__"))
  exC : PySem.W.subIn K (.ref C) (.type "BaseException") = some true
  tyC : PySem.W.typeIn K (.ref C) = some (.type "type")
  kC : PySem.W.keepIn K (.ref C) = true
section
variable {prog : Program} {w : World} {A : Around} {R : Result → Shared → Prop} {hp : Heap} {g : Array GenState} {d : Drawn} {t : Nat} {os : OsState}
/-- the first store into an exception lays its dict -/
theorem osa_first {K : PySem.W.Frag} {name : Str} {tk : Tok} {v : Value} {x C : Addr} {fv : Array Value} {cd : ClassData} {bm : List Value} (pass : ∀ self : Value, refuseLoop self "__setattr__" bm = pure ()) (obj : bm.contains (.type "object") = true)
    (inK : K.In hp) (at_ : hp.get? x = some { cls := .ref C, data := .fields fv }) (clE : PySem.W.clsIn K C = some cd) (mroE : cd.mro = .ref C :: bm) (dictE : cd.hasDict = true) (noN : PySem.W.findIn K (.ref C) name = some none)
    (back : ∀ h' tk' dx, (∀ b o, b ≠ x → hp.get? b = some o → h'.get? b = some o) → hp.objs.size ≤ dx → dx ≠ x → h'.get? x = some { cls := .ref C, dict := some dx, data := .fields fv } → h'.Ns1 dx (fun y => if y = name then some v else none) → R (.ok (.ret .none)) ⟨h', g, d, tk', os⟩) :
    codeAny (model prog w) A (.call (.builtin "object.__setattr__") ⟨[.ref x, .str name tk, v], []⟩) R ⟨hp, g, d, t, os⟩ := by
  have inst : PySem.W.InstAt hp x { cls := .ref C, data := .fields fv } C none := ⟨at_, rfl, rfl, trivial⟩
  have isObj : cd.mro.contains (.type "object") = true := by
    rw [mroE, List.contains_cons, obj, Bool.or_true]
  have xs : x ≠ hp.objs.size := Nat.ne_of_lt (Heap.lt_size at_)
  have below : PySem.W.Looks (model prog w) hp (isInstance (.ref x) (.type "object")) true := inst.type.andThen (PySem.W.looks_mroIn inK (by
    unfold PySem.W.mroIn
    rw [clE, Option.bind_some, if_neg (by rw [mroE]; exact Bool.false_ne_true), isObj]))
  refine codeAny_call_builtin PySem.F.store_object.slot.plain PySem.F.store_object.entry (@PySem.W.check_slot (model prog w) _ _ ⟨hp, g, d, t, os⟩ "object.__setattr__" "object" "__setattr__" (.ref x) [.str name tk, v] [] _ PySem.F.store_object.kind PySem.F.store_object.split below (PySem.F.store_object.args (.ref x) (.str name tk) v) ?_)
  have lm : PySem.W.Looks (model prog w) hp (mroOf (.ref C)) cd.mro := (PySem.W.looks_clsIn inK clE).andThen .now
  have ltk : PySem.W.Looks (model prog w) hp (storeTaker? none) none := .now
  have lcl : PySem.W.Looks (model prog w) hp (classData C) cd := PySem.W.looks_clsIn inK clE
  rw [PySem.W.osa_eq, refuse_eq]
  refine wpAny_bind (wpAny_bind (inst.type.at (wpAny_bind (lm.at ?_))))
  rw [mroE, refuseLoop_ref, pass]
  refine wpAny_pure (wpAny_bind (inst.type.at (wpAny_bind ((PySem.W.looks_findIn inK noN).at (wpAny_bind (ltk.at ?_))))))
  show wpAny _ _ (storeInOwnDict (.ref x) (.ref C) (.str name tk) name v false) _ _ _
  obtain ⟨c1, c2, c3, c4, c5, c6, c7, c8, c9, c10, c11⟩ := cd
  cases (show c6 = true from dictE)
  unfold storeInOwnDict ownDictForStores
  repeat (first | with_reducible refine store_in_new ?_ ?_ | with_reducible refine wpAny_loadPart_at at_ ?_ | with_reducible refine lcl.at ?_ | wp_step)
  · exact ⟨_, #[], _, (Heap.get?_update_ne _ _ _ _ xs.symm).trans (Heap.get?_push_at rfl rfl), rfl, fun e he => absurd he (by simp), fun _ => rfl⟩
  · intro h' tk' nsd same
    have on1 : (hp.push { cls := .type "dict", data := .dict #[] }).get? x = some { cls := .ref C, data := .fields fv } := Heap.get?_push_of_some _ at_
    exact back h' tk' hp.objs.size (fun b o hb ho => (same.2 b (Nat.ne_of_lt (Heap.lt_size ho))).trans ((Heap.get?_update_ne _ _ _ _ hb).trans (Heap.get?_push_of_some _ ho))) (Nat.le_refl _) xs.symm ((same.2 x xs).trans (Heap.get?_update_self _ on1 rfl)) nsd
end
section
variable {X : Cx} {pins : List (Addr × Obj)} {σ : L2.St} {H : Hp} {s : Shared} {a C dx : Addr} {f : Str} {y : V} {u : Value} {E : Value → Shared → Prop} {A : Around} {B newId initId : String} {bm : List Value}
theorem OexB.data (T : OexB X.K C newId bm) : ∃ cd : ClassData, PySem.W.clsIn X.K C = some cd ∧ cd.mro = .ref C :: bm ∧ cd.hasDict = true := by
  obtain ⟨nm, q, N, bs, sn, sub, ab, col, dd, k0, k1, k2, k3, k5, hC⟩ := T.cls
  exact ⟨{ name := nm, bases := bs, mro := .ref C :: bm, ns := N, qualname := q, hasDict := true, slotNames := sn, subclasses := sub, abstract := ab, collection := col, hasDel := false }, by unfold PySem.W.clsIn; rw [hC] <;> rfl, rfl, rfl⟩
/-- self.f = y, the first one -/
theorem ost_first {Q : Unit → Shared → Prop} (S : Bas B newId initId bm) (T : OexB X.K C newId bm) (I : L2.Inv X pins σ H s) (e : H a = some (exo a C none)) (hno : PySem.W.findIn X.K (.ref C) f = some none) (ry : RelV y u)
    (h : ∀ dx s', H dx = none → dx ≠ a → L2.Inv X pins σ (upd (upd H dx (exd dx [(f, y)])) a (exo a C (some dx))) s' → Q () s') : wpAny (model X.prog X.w) A (setAttr (.ref a) f u) Q E s := by
  obtain ⟨cd, hcl, hm, hh⟩ := T.data
  obtain ⟨t1, ho⟩ := exo_at I.hok e
  obtain ⟨hp, g, d, t, os⟩ := s
  refine PySem.W.set_plain I.kIn (ox := { cls := .ref C, dict := none, data := .fields #[.ref t1, .none, .none, .none, .bool false, .none] }) (od := none) ⟨ho, rfl, rfl, trivial⟩ T.sa ?_
  refine osa_first S.pass S.ob I.kIn ho hcl hm hh hno (fun h' tk' dx k dn dne hx hn => ?_)
  have newD : H dx = none := I.hok.fresh dn
  have notD : ∀ {b : Addr} {o : Obj}, hp.get? b = some o → b ≠ dx := fun {b o} q => Nat.ne_of_lt (Nat.lt_of_lt_of_le (Heap.lt_size q) dn)
  have notA : ∀ {b : Addr}, H b = none → b ≠ a := fun {b} n z => by
    rw [z, e] at n
    cases n
  have grow : Un X.fs [] H (upd (upd H dx (exd dx [(f, y)])) a (exo a C (some dx))) hp h' := {
    keep := fun b o q n _ _ => k b o (notA n) q
    slot := fun b o q n _ _ => ⟨o.slots, k b o (notA n) q⟩
    free := fun b o q n _ => by
      rw [upd_ne (notA n), upd_ne (notD q)]
      exact n
    there := fun b o q _ => by
      by_cases hb : b = a
      · rw [hb]
        exact ⟨_, hx⟩
      · exact ⟨o, k b o hb q⟩
    tups := fun b xs q => by
      rw [upd_ne (at_ne e q exo_tup), upd_ne (ne_of_none q newD)]
      exact q
    frzs := fun b o v q => by
      rw [upd_ne (at_ne e q exo_frz), upd_ne (ne_of_none q newD)]
      exact q
    tbls := fun b ps q => ⟨#[], by
      rw [upd_ne (at_ne e q exo_tbl), upd_ne (ne_of_none q newD), q]
      simp⟩ }
  refine h dx _ newD dne (I.un (t' := tk') grow fun b o q => ?_)
  by_cases hb : b = a
  · subst hb
    rw [upd_same] at q
    cases q
    exact exo_ok hx
  · rw [upd_ne hb] at q
    by_cases hd : b = dx
    · subst hd
      rw [upd_same] at q
      cases q
      exact exd_ok hn (relO_put (fs := []) ry fun g => True.intro)
    · rw [upd_ne hd] at q
      refine (I.hok b o q).stay (fun c v hc z => k c v ?_ z) (fun c hc => ?_) fun c xs hc => ?_
      · rcases hc with hc | hc
        · rw [hc]
          exact hb
        · exact at_ne e hc exo_own
      · rw [upd_ne (at_ne e hc exo_own), upd_ne (ne_of_none hc newD)]
        exact hc
      · rw [upd_ne (at_ne e hc exo_tup), upd_ne (ne_of_none hc newD)]
        exact hc
/-- B.__init__(self, ..) -/
theorem binit_ok {us : List Value} {Q : Value → Shared → Prop} (S : Bas B newId initId bm) (T : OexB X.K C newId bm) (I : L2.Inv X pins σ H s) (e : H a = some (exo a C none)) (hl : us.length ≤ sizeLine) (h : ∀ s', L2.Inv X pins σ H s' → Q .none s') :
    wpAny (model X.prog X.w) A (call (.builtin initId) (.ref a :: us)) Q E s := by
  obtain ⟨nm, q, N, bs, sn, sub, ab, col, dd, k0, k1, k2, k3, k5, hC⟩ := T.cls
  obtain ⟨t1, ho⟩ := exo_at I.hok e
  obtain ⟨hp, g, d, t, os⟩ := s
  refine wpAny_call (init_base S.F (fun _ => rfl) (I.kIn _ _ hC) ho hl fun h' t2 k hx => ?_)
  have J := I.write (t' := t) (x := a) (e := a) (o := exo a C none) (by rw [e]; exact True.intro) (.inl rfl) k ⟨_, hx⟩ (exo_ok hx)
  have same : upd H a (exo a C none) = H := funext fun b => (Decidable.em (b = a)).elim (fun hb => by rw [hb, upd_same, e]) fun hb => upd_ne hb
  rw [same] at J
  exact h _ J
end
/-! the readings -/
def tBinit (K : PySem.W.Frag) (newId : String) (bm : List Value) (ta : TA) : TE := fun σ H Q => ta σ H fun vs H1 => ∃ (a C : Addr) (ws : List V), vs = .ref a :: ws ∧ ws.length ≤ 1000 ∧ OexB K C newId bm ∧ H1 a = some (exo a C none) ∧ Q .non H1
def tOst1 (K : PySem.W.Frag) (newId : String) (bm : List Value) (f : Str) (to te : TE) : TS := fun D σ H => te σ H fun y H1 => to σ H1 fun x H2 => ∃ a C : Addr, x = .ref a ∧ OexB K C newId bm ∧ PySem.W.findIn K (.ref C) f = some none ∧
  H2 a = some (exo a C none) ∧ ∀ dx, H2 dx = none → dx ≠ a → D.nx σ (upd (upd H2 dx (exd dx [(f, y)])) a (exo a C (some dx)))
/-- C(e, ..): dict told, or none -/
def tMkB (C : Addr) (sp : Sp) (ta : TA) : L2.St → Hp → XK → Prop := fun σ H Q => ta σ H fun vs H1 => vs.length ≤ 1000 ∧ ∀ a, H1 a = none → sp (.ref a :: vs) (upd H1 a (exo a C none))
  (fun v H2 => v = .non ∧ ((∃ (d : Addr) (fs : List (Str × V)), H2 a = some (exo a C (some d)) ∧ H2 d = some (exd d fs) ∧ H1 d = none ∧ Q (.ref C) (some d) (upd (del H2 a) d (.xd fs))) ∨ (H2 a = some (exo a C none) ∧ Q (.ref C) none (del H2 a)))) (fun _ _ _ => False)
section
variable {X : Cx} {o e : Expr} {es : List Expr} {to te : TE} {ta : TA} {f : Str} {p p' p1 p2 pos : Pos} {B newId initId : String} {bm : List Value}
theorem pe_binit {b : Str} {pl : Sem Bool} (S : Bas B newId initId bm) (hg : Gl X b) (hm : X.mg b = none) (boot : bootBuiltins b = some (.type B)) (vV : PySem.W.findCls X.K (.type B) (.type "type") "__init__" = some (.val (.builtin initId))) (ha : PA X (e :: es) ta)
    (hn : b ≠ "__name__") (hdb : (b == ("__debug__" : Str)) = false)
    (hc : eval (.Call (.Attribute (.Name b p1) "__init__" p2) (e :: es) [] pos) X.env = (do
      let ov ← eval (.Name b p1) X.env
      standAt p2.atName
      let (f, first) ← holding [ov] (getMethod ov "__init__" pl)
      callWith pos f first (backTo pos (starEach (e :: es) X.env)) (backToKw pos (keywordEach [] X.env))) := by rfl)
    (he : starEach (e :: es) X.env = (false, eval e X.env) :: starEach es X.env := by rfl) (hpl : (backTo pos (starEach es X.env)).any (·.1) = false := by rfl) :
    PE X (.Call (.Attribute (.Name b p1) "__init__" p2) (e :: es) [] pos) (tBinit X.K newId bm ta) := by
  constructor
  intro pins s σ H Q I h
  refine PySem.W.methodCall_KW (ld_blt I hg hm boot ?_ hn hdb) hc
  obtain ⟨m, fr⟩ := I.fr
  refine PySem.W.method_type fr I.ok.mod.kin S.ty S.stub vV S.hin ?_
  show wpAny _ _ (callWith pos (Value.builtin initId) [] (backTo pos (starEach (e :: es) X.env)) []) _ _ _
  refine PyProof.Rows.callWith_method1 (thn (ha.run pos pins _ σ H _ (I.tok _) h) fun us s1 got => ?_) he hpl
  obtain ⟨vs, H1, I1, r1, a, C, ws, ev, hl, T, ea, q⟩ := got
  subst ev
  cases r1 with
  | @cons _ u0 _ ur ra rw' =>
    obtain rfl : u0 = Value.ref a := ra
    have hlen : ur.length ≤ sizeLine := by
      rw [← Paired.length rw', sizeLine_eq]
      omega
    exact binit_ok S T I1 ea hlen fun s' J => ⟨.non, H1, J, rfl, q⟩
theorem ps_ost1 (S : Bas B newId initId bm) (ho : PE X o to) (he : PE X e te) (hs : swapsWith e (some (.Attribute o f p')) pos.line X.env = pure false := by rfl) : PS X (.Assign [.Attribute o f p'] e pos) (tOst1 X.K newId bm f to te) := by
  constructor
  intro pins s σ H D I h
  refine plainObj_wpAny_Assign_Attribute (thn (he.run pins s σ H _ I h) fun v s1 got => ?_) hs
  obtain ⟨y, H1, I1, r1, q1⟩ := got
  refine thn (ho.run pins s1 σ H1 _ I1 q1) fun u s2 got => ?_
  obtain ⟨x, H2, I2, r2, a, C, ex, T, hno, ea, q⟩ := got
  subst ex
  obtain rfl : u = Value.ref a := r2
  exact ost_first S T I2 ea hno r1 fun dx s' n ne J => ⟨σ, _, J, q dx n ne⟩
/-- the end where no field was stored -/
theorem mk_endN {pins : List (Addr × Obj)} {σ : L2.St} {H1 H2 : Hp} {Q : XK} {hp hp2 h2 : Heap} {g1 g2 : Array GenState} {d1 d2 : Drawn} {t1 t2 : Nat} {os1 os2 : OsState} {a C : Addr} (T : Raises X (.ref C)) (I1 : L2.Inv X pins σ H1 ⟨hp, g1, d1, t1, os1⟩)
    (ha : hp.objs.size ≤ a) (k : ∀ b o, hp.get? b = some o → hp2.get? b = some o) (un : Un (frs X.stack) [] (upd H1 a (exo a C none)) H2 hp2 h2) (hok : HOk X.prog X.w H2 h2) (ho : os2 = os1) (hb : AllBare g2)
    (ea : H2 a = some (exo a C none)) (q : Q (.ref C) none (del H2 a)) : MkP X pins σ Q (.ref a) ⟨h2, g2, d2, t2, os2⟩ := by
  obtain ⟨t0, hoe⟩ := exo_at hok ea
  have hn : H1 a = none := I1.hok.fresh ha
  obtain ⟨G, g1', g2'⟩ := restrict h2 fun b => decide (b ≠ a)
  have gk : ∀ b, b ≠ a → G.get? b = h2.get? b := fun b hb => g1' b (decide_eq_true hb)
  have ge : G.get? a = none := g2' a (by simp)
  have old : ∀ {b : Addr} {o : Obj}, hp.get? b = some o → b ≠ a := fun {b o} z => Nat.ne_of_lt (Nat.lt_of_lt_of_le (Heap.lt_size z) ha)
  have up : ∀ {b : Addr}, b ≠ a → H1 b = none → upd H1 a (exo a C none) b = none := fun {b} hb n => (upd_ne hb).trans n
  have U : Un (frs X.stack) [] H1 (del H2 a) hp G := {
    keep := fun b o z n hf hx => (gk b (old z)).trans (un.keep b o (k b o z) (up (old z) n) hf hx)
    slot := fun b o z n hf hx => by
      rw [gk b (old z)]
      exact un.slot b o (k b o z) (up (old z) n) hf hx
    free := fun b o z n hx => by
      rw [del_ne (old z)]
      exact un.free b o (k b o z) (up (old z) n) hx
    there := fun b o z hx => by
      rw [gk b (old z)]
      exact un.there b o (k b o z) hx
    tups := fun b xs z => by
      rw [del_ne (ne_of_none z hn)]
      exact un.tups b xs ((upd_ne (ne_of_none z hn)).trans z)
    frzs := fun b o v z => by
      rw [del_ne (ne_of_none z hn)]
      exact un.frzs b o v ((upd_ne (ne_of_none z hn)).trans z)
    tbls := fun b ps z => by
      rw [del_ne (ne_of_none z hn)]
      exact un.tbls b ps ((upd_ne (ne_of_none z hn)).trans z) }
  have hok3 : HOk X.prog X.w (del H2 a) G := fun b o z => by
    have hba : b ≠ a := fun e => by
      rw [e, del_same] at z
      cases z
    rw [del_ne hba] at z
    have noa : ∀ {c : Addr}, H2 c = some (.own b) → c ≠ a := fun {c} hc => at_ne ea hc exo_own
    refine (hok b o z).stay (fun c v hc y => ?_) (fun c hc => ?_) fun c xs hc => ?_
    · have hca : c ≠ a := hc.elim (fun q => by rw [q]; exact hba) noa
      exact (gk c hca).trans y
    · exact (del_ne (noa hc)).trans hc
    · exact (del_ne (at_ne ea hc exo_tup)).trans hc
  have J : L2.Inv X pins σ (del H2 a) ⟨G, g2, d2, t2, os2⟩ := I1.call' (ch := []) ho U hok3 hb (fun b z => absurd z (by simp))
  refine ⟨a, _, _, ⟨G, g2, d2, t2, os2⟩, _, .ref C, none, rfl, J, fun b o z => ?_, ge, hoe, ⟨rfl, rfl⟩, rfl, rfl, del_same, rfl, hb, T, q⟩
  have hba : b ≠ a := fun e => by
    have z' : G.get? b = some o := z
    rw [e, ge] at z'
    cases z'
  exact (gk b hba).symm.trans z
/-- the class called, told over what gives the arguments -/
theorem mk_run {CX : CXT} {C fI : Addr} {k : Nat} {fd : FuncData} {ps : List Str} {sp : Sp} {pins : List (Addr × Obj)} {σ : L2.St} {H1 : Hp} {Q : XK} {s1 : Shared} {us : List Value} {vs : List V} (S : Bas B newId initId bm) (T : OexB X.K C newId bm)
    (iC : PySem.W.findIn X.K (.ref C) "__init__" = some (some (.ref fI))) (tI : PySem.W.typeIn X.K (.ref fI) = some (.type "function"))
    (F1 : FnOk X.prog X.w X.K X.mg X.base CX k fI fd ps sp) (hr : Room (k + 1) X.A) (hb : Binds X.K fd ps []) (hx : Passes CX X (fun _ _ _ => False)) (I1 : L2.Inv X pins σ H1 s1) (r1 : Vals vs us) (hz : vs.length ≤ 1000)
    (q1 : ∀ a, H1 a = none → sp (.ref a :: vs) (upd H1 a (exo a C none)) (fun v H2 => v = .non ∧ ((∃ (d : Addr) (fs : List (Str × V)), H2 a = some (exo a C (some d)) ∧ H2 d = some (exd d fs) ∧ H1 d = none ∧ Q (.ref C) (some d) (upd (del H2 a) d (.xd fs))) ∨ (H2 a = some (exo a C none) ∧ Q (.ref C) none (del H2 a)))) (fun _ _ _ => False)) :
    wpAny (model X.prog X.w) X.A (call (.ref C) us) (MkP X pins σ Q) X.xe s1 := by
  obtain ⟨nm, q, N, bs, sn, sub, ab, col, dd, k0, k1, k2, k3, k5, hC⟩ := T.cls
  obtain ⟨hp, g, dr, tk, os⟩ := s1
  have big : hp.objs.size ≤ hp.objs.size + 1 := Nat.le_succ _
  have hn : H1 (hp.objs.size + 1) = none := I1.hok.fresh big
  have hq := q1 (hp.objs.size + 1) hn
  have kk : ∀ b o, hp.get? b = some o → ((hp.push (PySem.W.kdv_tup us)).push (excO C hp.objs.size)).get? b = some o := fun b o e => Heap.get?_push_of_some _ (Heap.get?_push_of_some _ e)
  have made : ((hp.push (PySem.W.kdv_tup us)).push (excO C hp.objs.size)).get? (hp.objs.size + 1) = some (excO C hp.objs.size) := by heap_get
  have I2 : L2.Inv X pins σ (upd H1 (hp.objs.size + 1) (exo (hp.objs.size + 1) C none)) ⟨(hp.push (PySem.W.kdv_tup us)).push (excO C hp.objs.size), g, dr, tk, os⟩ :=
    I1.laid (t' := tk) (a := hp.objs.size + 1) (o := exo (hp.objs.size + 1) C none) (h' := (hp.push (PySem.W.kdv_tup us)).push (excO C hp.objs.size)) kk big (exo_ok made)
  have r2 : Vals (V.ref (hp.objs.size + 1) :: vs) (Value.ref (hp.objs.size + 1) :: us) := .cons rfl r1
  have hl : ((Value.ref (hp.objs.size + 1) :: us) ++ []).length = ps.length := by
    rw [List.append_nil, ← r2.length]
    exact F1.len _ _ _ _ hq
  have short : us.length ≤ sizeLine := by
    rw [← Paired.length r1, sizeLine_eq]
    omega
  have bd := hb _ (Value.ref (hp.objs.size + 1) :: us) I2.kIn hl
  rw [List.append_nil] at bd
  refine wpAny_call (call_own S.F (fun _ => rfl) (I1.kIn _ _ hC) (PySem.W.looks_findIn I1.kIn iC) (fun self => PySem.W.bind_fn I1.kIn self tI) short
    (codeAny_mono (F1.run _ X.stack _ _ ⟨Value.ref (hp.objs.size + 1) :: us, []⟩ (Value.ref (hp.objs.size + 1) :: us) (V.ref (hp.objs.size + 1) :: vs) _ (fun _ _ _ => False) (hr.make C us []) (I2.env0.make C us []) bd r2 hq) fun r s' hq' => ?_))
  cases r with
  | error er => exact hx pins σ _ _ er s' I2 hq'
  | ok fl =>
    cases fl with
    | next => exact False.elim hq'
    | brk => exact False.elim hq'
    | cont => exact False.elim hq'
    | ret u =>
      obtain ⟨v, H2, os2, bare2, un2, hok2, rv, ev, alt⟩ := hq'
      subst ev
      obtain ⟨h2, g2, d2, t2, os'⟩ := s'
      rcases alt with ⟨d, fs, ea, ed, hd1, q2⟩ | ⟨ea, q2⟩
      · exact ⟨rv, mk_end (raises_own T.exC T.tyC) I1 big kk un2 hok2 os2 bare2 ea ed hd1 q2⟩
      · exact ⟨rv, mk_endN (raises_own T.exC T.tyC) I1 big kk un2 hok2 os2 bare2 ea q2⟩
theorem pmk_b {CX : CXT} {x : Str} {C fI : Addr} {k : Nat} {fd : FuncData} {ps : List Str} {sp : Sp} (S : Bas B newId initId bm) (T : OexB X.K C newId bm) (iC : PySem.W.findIn X.K (.ref C) "__init__" = some (some (.ref fI))) (tI : PySem.W.typeIn X.K (.ref fI) = some (.type "function"))
    (F1 : FnOk X.prog X.w X.K X.mg X.base CX k fI fd ps sp) (hr : Room (k + 1) X.A) (hb : Binds X.K fd ps []) (hx : Passes CX X (fun _ _ _ => False)) (hg : Gl X x) (hm : X.mg x = some (.ref C)) (ha : PA X (e :: es) ta)
    (hdb : (x == ("__debug__" : Str)) = false := by decide) (he : starEach (e :: es) X.env = (false, eval e X.env) :: starEach es X.env := by rfl) (hpl : (backTo pos (starEach es X.env)).any (·.1) = false := by rfl) :
    PMk X (.Call (.Name x p) (e :: es) [] pos) (tMkB C sp ta) := by
  intro pins s σ H Q I h
  refine wpAny_Call_Name_kw (ld_glob I hg hm ?_ hdb)
  refine PySem.W.callWith_K (h₀ := X.base) I.ok.mod.kin T.kC (thn (ha.run pos pins s σ H _ I h) fun us s1 got => ?_) he hpl
  obtain ⟨vs, H1, I1, r1, hz, q1⟩ := got
  exact ⟨I1.kIn, mk_run S T iC tI F1 hr hb hx I1 r1 hz q1⟩
theorem pmk_b0 {CX : CXT} {x : Str} {C fI : Addr} {k : Nat} {fd : FuncData} {ps : List Str} {sp : Sp} (S : Bas B newId initId bm) (T : OexB X.K C newId bm) (iC : PySem.W.findIn X.K (.ref C) "__init__" = some (some (.ref fI))) (tI : PySem.W.typeIn X.K (.ref fI) = some (.type "function"))
    (F1 : FnOk X.prog X.w X.K X.mg X.base CX k fI fd ps sp) (hr : Room (k + 1) X.A) (hb : Binds X.K fd ps []) (hx : Passes CX X (fun _ _ _ => False)) (hg : Gl X x) (hm : X.mg x = some (.ref C)) (hdb : (x == ("__debug__" : Str)) = false := by decide) :
    PMk X (.Call (.Name x p) [] [] pos) (tMkB C sp tNil) := by
  intro pins s σ H Q I h
  refine wpAny_Call_Name_kw (ld_glob I hg hm ?_ hdb)
  exact PySem.W.callWith_K0 I.kIn T.kC (mk_run (us := []) (vs := []) S T iC tI F1 hr hb hx I .nil (Nat.zero_le _) h.2)
end
end NS

/-! ### an exception that is caught and kept: try .. except A as n, except (A, B, ..) as n -/
namespace NS
open PySem PySem.Spec PyProof.Rows L2 PySem.Calls
/-- at a: an exception of the class cls, its dict at d -/
def ExV (cls : Value) (d : Option Addr) (a : Addr) : HO := .ext fun h => ∃ (oe : Obj) (vs : Array Value), h.get? a = some oe ∧ Zc cls d oe ∧ oe.data = .fields vs
theorem exV_ok {P : Program} {w : World} {H : Hp} {h : Heap} {a : Addr} {cls : Value} {d : Option Addr} {oe : Obj} {vs : Array Value} (e : h.get? a = some oe) (z : Zc cls d oe) (f : oe.data = .fields vs) : ObjOk P w H h a (ExV cls d a) :=
  ⟨⟨oe, vs, e, z, f⟩, ⟨oe, e⟩, fun _ _ ⟨o, v, q, r⟩ k => ⟨o, v, k o q, r⟩⟩
theorem exV_at {P : Program} {w : World} {H : Hp} {h : Heap} {a : Addr} {cls : Value} {d : Option Addr} (hok : HOk P w H h) (e : H a = some (ExV cls d a)) : ∃ (oe : Obj) (vs : Array Value), h.get? a = some oe ∧ Zc cls d oe ∧ oe.data = .fields vs := (hok a _ e).1
/-- one class, or a tuple of them: whether the exception is among them -/
def ClM (K : PySem.W.Frag) (cls : Value) (v : V) (H : Hp) (b : Bool) : Prop :=
  (∃ C : Addr, v = .ref C ∧ PySem.W.exmOne K cls (.ref C) = some b) ∨ (∃ (tp : Addr) (Cs : List Addr), v = .ref tp ∧ H tp = some (.tup (Cs.map V.ref)) ∧ PySem.W.exmAny K cls (Cs.map Value.ref) = some b)
section
variable {M : Model} {A : Around} {E : Value → Shared → Prop}
/-- all are classes of exceptions -/
theorem loop_cls {h : Heap} {f : Value → PUnit → Sem (ForInStep PUnit)} {Q : PUnit → Shared → Prop} {s : Shared} : ∀ {cs : List Value}, (∀ c ∈ cs, ∀ Q' : ForInStep PUnit → Shared → Prop, Q' (.yield ⟨⟩) s → wpAny M A (f c ⟨⟩) Q' E s) → Q ⟨⟩ s → wpAny M A (forIn cs PUnit.unit f) Q E s
  | [], _, q => by
    rw [List.forIn_nil]
    exact wpAny_pure q
  | c :: cs, hf, q => by
    rw [List.forIn_cons]
    refine wpAny_bind (hf c (List.mem_cons_self ..) _ ?_)
    exact loop_cls (h := h) (fun c' m => hf c' (List.mem_cons_of_mem _ m)) q
/-- the first that it is of -/
theorem loop_any {σ : Type} {f : Value → σ → Sem (ForInStep σ)} {Q : σ → Shared → Prop} {s : Shared} {y : σ} {z : σ} : ∀ {cs : List Value} {b : Bool} (m : Value → Bool), (∀ c ∈ cs, ∀ Q' : ForInStep σ → Shared → Prop, Q' (if m c = true then .done z else .yield y) s → wpAny M A (f c y) Q' E s) →
    b = cs.any m → Q (if b = true then z else y) s → wpAny M A (forIn cs y f) Q E s
  | [], b, m, _, e, q => by
    subst e
    rw [List.forIn_nil]
    exact wpAny_pure q
  | c :: cs, b, m, hf, e, q => by
    rw [List.forIn_cons]
    refine wpAny_bind (hf c (List.mem_cons_self ..) _ ?_)
    rw [List.any_cons] at e
    by_cases mc : m c = true
    · rw [if_pos mc]
      have eb : b = true := by rw [e, mc]; rfl
      rw [eb, if_pos rfl] at q
      exact wpAny_pure q
    · rw [if_neg mc]
      have mc' : m c = false := by simpa using mc
      rw [mc', Bool.false_or] at e
      exact loop_any m (fun c' h => hf c' (List.mem_cons_of_mem _ h)) e q
end
theorem exm_all {K : PySem.W.Frag} {cls : Value} : ∀ {cs : List Value} {b : Bool}, PySem.W.exmAny K cls cs = some b → ∃ m : Value → Bool, (∀ c ∈ cs, PySem.W.exmOne K cls c = some (m c)) ∧ b = cs.any m
  | [], b, h => ⟨fun _ => false, (fun _ z => nomatch z), (Option.some.inj h).symm⟩
  | c :: cs, b, h => by
    obtain ⟨b1, d1, h1, h2, rfl⟩ := PySem.W.exmAny_cons h
    obtain ⟨m, hm, e⟩ := exm_all h2
    refine ⟨fun x => (PySem.W.exmOne K cls x).getD false, fun x hx => ?_, ?_⟩
    · rcases List.mem_cons.mp hx with z | z
      · subst z
        show PySem.W.exmOne K cls x = some ((PySem.W.exmOne K cls x).getD false)
        rw [h1]
        rfl
      · show PySem.W.exmOne K cls x = some ((PySem.W.exmOne K cls x).getD false)
        rw [hm x z]
        rfl
    · rw [List.any_cons, h1, e]
      show (b1 || cs.any m) = (b1 || cs.any fun x => (PySem.W.exmOne K cls x).getD false)
      congr 1
      rw [Bool.eq_iff_iff, List.any_eq_true, List.any_eq_true]
      constructor
      · rintro ⟨x, hx, q⟩
        exact ⟨x, hx, by rw [hm x hx]; exact q⟩
      · rintro ⟨x, hx, q⟩
        refine ⟨x, hx, ?_⟩
        rw [hm x hx] at q
        exact q
theorem exm_tupN {M : Model} {K : PySem.W.Frag} {cls : Value} {tp e : Addr} {b : Bool} {h : Heap} {cs : List Value} {ot : Obj} (KX : K.In h) (LT : PySem.W.Looks M h (typeOf (.ref e)) cls) (ht : h.get? tp = some ot) (hcl : ot.cls = .type "tuple") {n : Nat} (hd : ot.data = .seq cs.toArray n)
    (hx : PySem.W.exmAny K cls cs = some b) : PySem.W.Looks M h (excMatches (.ref e) (.ref tp)) b := by
  intro A Q E s k₀ q
  obtain ⟨hh, g, d, tk, os⟩ := s
  have k : ∀ b o, h.get? b = some o → hh.get? b = some o := k₀
  obtain ⟨m, hm, eb⟩ := exm_all hx
  have isT : PySem.W.Looks M h (isInstance (.ref tp) (.type "tuple")) true := ((PySem.W.Looks.ld ht).andThen (by rw [hcl]; exact .now)).andThen (PySem.W.Looks.of_pure isSubtype_tuple_tuple)
  have LT2 := LT.keeps k
  have isT2 := isT.keeps k
  have hp' := k _ _ ht
  unfold excMatches
  refine wpAny_bind (isT2.at ?_)
  dsimp only
  rw [if_pos rfl]
  first
    | refine wpAny_bind (wpAny_seqItems hp' hd ?_)
    | refine wpAny_bind (wpAny_bind (wpAny_seqItems hp' hd (wpAny_pure ?_)))
  dsimp only [Option.getD_some, Option.getD]
  refine wpAny_bind (wpAny_pure ?_)
  refine wpAny_bind (loop_cls (h := h) (fun c hc Q' q' => ?_) ?_)
  · have L1 := (PySem.W.exm_cls (M := M) KX (hm c hc)).1.keeps k
    refine wpAny_bind (L1.at ?_)
    simp only [Bool.not_true, Bool.false_eq_true, if_false]
    exact wpAny_pure q'
  · refine wpAny_bind (LT2.at ?_)
    refine wpAny_bind (loop_any (z := (some true, PUnit.unit)) (y := (none, PUnit.unit)) m (fun c hc Q' q' => ?_) eb ?_)
    · have L2' := (PySem.W.exm_cls (M := M) KX (hm c hc)).2.keeps k
      refine wpAny_bind (L2'.at ?_)
      cases hmc : m c with
      | true =>
        rw [hmc] at q'
        first | exact wpAny_pure q' | exact wpAny_bind (wpAny_pure (wpAny_pure q'))
      | false =>
        rw [hmc] at q'
        first | exact wpAny_pure q' | exact wpAny_bind (wpAny_pure (wpAny_pure q'))
    · cases b with
      | true => exact wpAny_pure q
      | false => exact wpAny_pure q
theorem clm_looks {M : Model} {P : Program} {w : World} {K : PySem.W.Frag} {cls : Value} {v : V} {u : Value} {H : Hp} {b : Bool} {h : Heap} {e : Addr} (KX : K.In h) (hok : HOk P w H h) (LT : PySem.W.Looks M h (typeOf (.ref e)) cls) (r : RelV v u) (c : ClM K cls v H b) : PySem.W.Looks M h (excMatches (.ref e) u) b := by
  rcases c with ⟨C, rfl, hx⟩ | ⟨tp, Cs, rfl, ht, hx⟩
  · obtain rfl : u = Value.ref C := r
    exact PySem.W.exm_one KX LT hx
  · obtain rfl : u = Value.ref tp := r
    obtain ⟨_, its, rv, ob, e1, e2, n, e3⟩ := hok tp _ ht
    have eq : its = Cs.map Value.ref := by
      have gen : ∀ (Cs : List Addr) (its : List Value), Vals (Cs.map V.ref) its → its = Cs.map Value.ref := by
        intro Cs
        induction Cs with
        | nil =>
          intro its z
          cases z
          rfl
        | cons c Cs ih =>
          intro its z
          cases z with
          | cons z1 z2 =>
            rw [ih _ z2]
            exact congrArg (· :: Cs.map Value.ref) z1
      exact gen Cs its rv
    rw [eq] at e3
    exact exm_tupN KX LT e1 e2 e3 hx
section
variable {X : Cx} {pins : List (Addr × Obj)} {σ : L2.St} {H : Hp} {s : Shared}
/-- an object that is there and came after the entry is tracked from now on -/
theorem inv_track {a : Addr} {o : HO} {oe : Obj} {vs : Array Value} (I : L2.Inv X pins σ H s) (ha : s.heap.get? a = some oe) (hd : oe.data = .fields vs) (n0 : X.s_0.heap.get? a = none) (na : H a = none) (nL : a ≠ X.env.locals) (nP : ∀ p ∈ X.pn ++ pins, p.1 ≠ a)
    (new : ObjOk X.prog X.w (upd H a o) s.heap a o) : L2.Inv X pins σ (upd H a o) s := by
  have sm : Same H (upd H a o) := fun b u q => by
    rw [upd_ne (ne_of_none q na)]
    exact q
  have n0' : ∀ {b : Addr} {u : Obj}, X.s_0.heap.get? b = some u → b ≠ a := fun {b u} q z => by
    rw [z, n0] at q
    cases q
  have nC : ∀ x c, X.env.cells.lookup x = some c → c ≠ a := fun x c e z => by
    obtain ⟨v, o', ho, hdc⟩ := I.cell x c e
    rw [z, ha] at ho
    cases ho
    rw [hd] at hdc
    cases hdc
  refine ⟨I.ok, I.os, I.bare, ⟨fun b u q n f x => I.base.keep b u q n f x, fun b u q n f x => I.base.slot b u q n f x, fun b u q n x => ?_, fun b u q x => I.base.there b u q x, fun b xs q => sm _ _ (I.base.tups b xs q), fun b u v q => sm _ _ (I.base.frzs b u v q), fun b ps q => ?_⟩,
    I.loc, I.cell, ?_, fun x c e => ?_, fun p hp => ?_, fun b u q => ?_, I.len⟩
  · rw [upd_ne (n0' q)]
    exact I.base.free b u q n x
  · obtain ⟨more, z⟩ := I.base.tbls b ps q
    exact ⟨more, sm _ _ z⟩
  · rw [upd_ne (Ne.symm nL)]
    exact I.free
  · rw [upd_ne (nC x c e)]
    exact I.freeC x c e
  · obtain ⟨e1, e2, e3, e4, e5⟩ := I.pin p hp
    refine ⟨e1, ?_, e3, e4, e5⟩
    rw [upd_ne (nP p hp)]
    exact e2
  · by_cases hb : b = a
    · subst hb
      rw [upd_same] at q
      cases q
      exact new
    · rw [upd_ne hb] at q
      exact (I.hok b u q).stay (fun c v _ z => z) (fun c z => sm _ _ z) fun c xs z => sm _ _ z
end
/-- the flight of an exception that stands on the ground is set to none once more: nothing changes -/
theorem ground_again {M : Model} {A : Around} {E : Value → Shared → Prop} {s : Shared} {e T : Addr} {oe oT : Obj} {vs ts : Array Value} {Q : Unit → Shared → Prop} (he : s.heap.get? e = some oe) (hd : oe.data = .fields vs) (h1 : vs[1]? = some (.ref T)) (hT : s.heap.get? T = some oT) (hdT : oT.data = .fields ts) (h3 : ts[3]? = some .none)
    (h : ∀ h', (∀ b o, s.heap.get? b = some o → h'.get? b = some o) → Q () { s with heap := h' }) : wpAny M A (setFlight (.ref e) none) Q E s := by
  unfold setFlight
  refine wpAny_bind (wpAny_field he hd h1 ?_)
  have nn : (Value.ref T != Value.none) = true := by simp
  rw [if_pos nn]
  refine wpAny_setField hT hdT (Array.getElem?_eq_some_iff.mp h3).1 (h _ fun b o hb => ?_)
  by_cases z : b = T
  · subst z
    rw [Heap.get?_update_self _ hT (Obj.isFreed_of_fields (Obj.data_mapFields hdT _))]
    rw [hT] at hb
    cases hb
    obtain ⟨c, d, dt, sl⟩ := oT
    have hdT' : dt = .fields ts := hdT
    subst hdT'
    obtain ⟨hlt, e3⟩ := Array.getElem?_eq_some_iff.mp h3
    have same : ts.setIfInBounds 3 Value.none = ts := by
      apply Array.ext_getElem?
      intro i
      rw [Array.getElem?_setIfInBounds]
      split
      · rename_i hi
        subst hi
        first
          | exact h3.symm
          | rw [if_pos hlt, h3]
      · rfl
    show some (Obj.mapFields (·.setIfInBounds 3 Value.none) { cls := c, dict := d, data := .fields ts, slots := sl }) = _
    show some ({ cls := c, dict := d, data := .fields (ts.setIfInBounds 3 Value.none), slots := sl } : Obj) = _
    rw [same]
  · exact (Heap.get?_update_other _ _ (Ne.symm z)).trans hb
/-- what «except .. as n» wishes of an exception of the body: slot i is n's; behind the suite the exception is kept -/
def wKeep (K : PySem.W.Frag) (tt : Addr → Value → Option Addr → TE) (i : Nat) (ts : Addr → Value → Option Addr → TS) (D : Ends) : WX := fun cls d σ H => ∀ a, H a = none → tt a cls d σ H fun v H1 => ClM K cls v H1 true ∧
  ts a cls d { nx := fun σ' H' => H' a = none → D.nx (σ'.set i none) (upd H' a (ExV cls d a)), rt := fun _ _ => False } (σ.set i (some (.ref a))) H1
section
variable {X : Cx} {n : Str} {i : Nat} {body suite : List Stmt} {b₀ : Stmt} {te : Expr} {pos pos' : Pos} {tb : WX → TS} {tt : Addr → Value → Option Addr → TE} {ts : Addr → Value → Option Addr → TS}
theorem ps_keep (hs : X.stack = X.env :: X.outer) (hf : X.env.frame = some X.env.locals) (hN : X.N.Nodup) (hi : X.N[i]? = some n) (hln : X.env.kindOf n = some .local) (hex : X.ex = [])
    (hb : ∀ (W : WX) (pn : List (Addr × Obj)) (xe : Value → Shared → Prop), Takes (X.tr pn xe) W → PassesOwn (model X.prog X.w) X.A X.env xe → PSs (X.tr pn xe) body (tb W))
    (hcl : ∀ (a : Addr) (oe : Obj) (cls : Value) (d : Option Addr) (pn : List (Addr × Obj)), Zc cls d oe → (∃ vs, oe.data = .fields vs) → PE (X.suite a ((a, oe) :: pn)) te (tt a cls d))
    (hsu : ∀ (a : Addr) (oe : Obj) (cls : Value) (d : Option Addr) (pn : List (Addr × Obj)), Zc cls d oe → (∃ vs, oe.data = .fields vs) → PSs (X.suite a ((a, oe) :: pn)) (b₀ :: suite) (ts a cls d)) :
    PS X (.Try body [.ExceptHandler (some te) (some n) (b₀ :: suite) pos'] [] [] pos) (fun D σ H => tb (wKeep X.K tt i ts D) D σ H) := by
  constructor
  intro pins s σ H D I h
  have ok := I.ok
  have hfr : X.A.frames = some (X.env :: X.outer) := ok.frames.trans (congrArg some hs)
  have hloc : L2.Loc X.env.scope n := .inl hln
  refine wpAny_Try_except ?_
  refine wpAny_mono ((hb (wKeep X.K tt i ts D) (X.pn ++ pins) (fun e s₁ => wpAny (model X.prog X.w) X.A (noteFrame e X.env) (fun _ s₂ => wpAny (model X.prog X.w) X.A (setFlight e none) (fun _ s₃ =>
    wpAny (model X.prog X.w) X.A (handleBy e X.env [.ExceptHandler (some te) (some n) (b₀ :: suite) pos']) (SP X pins D) X.xe s₃) X.xe s₂) X.xe s₁) (fun u s' caught => ?_) PassesOwn.looking).run [] s σ H D (I.toTry _) h) (fun f s1 hsp => ?_) (fun e s1 he => he)
  · obtain ⟨a, B, sI, pins', σ', H', cls, d, rfl, J', nb, up, sky, na, os, ag, wish⟩ := caught
    have J : L2.Inv X pins σ' H' sI := J'.ofTry ok
    have sky' : Sky B (X.env :: X.outer) a (Zc cls d) X.env.locals s'.heap := hs ▸ sky
    show wpAny (model X.prog X.w) X.A (noteFrame (.ref a) X.env) _ _ _
    refine Sky.land Zc.steady hfr hf sky' fun h3 fl3 up3 => ?_
    have J3 : L2.Inv X pins σ' H' { s' with heap := h3 } := J.landed nb fl3.1 (up.trans up3) os ag
    obtain ⟨-, nB, ff, oe3, vs3, T, oT, ts3, he3, hz3, hd3, hT1, nBT, hTe, hT, hdT, hT3⟩ := id fl3
    have nfr : a ∉ frs (X.env :: X.outer) := fun hm => by
      obtain ⟨_, o', e', hnf⟩ := ff.mem hm
      rw [he3] at e'
      cases e'
      exact hnf _ hd3
    have nfs : a ∉ frs X.stack := by
      rw [hs]
      exact nfr
    have nL : a ≠ X.env.locals := fun z => nfr (List.mem_filterMap.mpr ⟨X.env, List.mem_cons_self, by rw [hf, z]⟩)
    have nF : a ∉ X.fs := fun hm => by
      obtain ⟨e, he, q⟩ := List.mem_filterMap.mp hm
      exact nfr (List.mem_filterMap.mpr ⟨e, List.mem_cons_of_mem _ he, q⟩)
    have nI : sI.heap.get? a = none := by
      cases q : sI.heap.get? a with
      | none => rfl
      | some o =>
        have z := nb a o q nfs
        rw [nB] at z
        cases z
    have n0 : X.s_0.heap.get? a = none := by
      cases q : X.s_0.heap.get? a with
      | none => rfl
      | some o =>
        obtain ⟨o', z⟩ := J.base.there a o q (by rw [hex]; exact fun z => nomatch z)
        rw [nI] at z
        cases z
    have nP : ∀ p ∈ X.pn ++ pins, p.1 ≠ a := fun p hp z => by
      have q := (J.pin p hp).1
      rw [z, nI] at q
      cases q
    have recNo : ∀ {b : Addr} {o : Obj} {fs : Array Value}, h3.get? b = some o → o.data = .fields fs → b ∉ frs (X.env :: X.outer) := fun {b o fs} e dd hm => by
      obtain ⟨_, o', e', hnf⟩ := ff.mem hm
      rw [e] at e'
      cases e'
      exact hnf _ dd
    have tfr := recNo hT hdT
    have nTL : T ≠ X.env.locals := fun z => tfr (List.mem_filterMap.mpr ⟨X.env, List.mem_cons_self, by rw [hf, z]⟩)
    have nTF : T ∉ X.fs := fun hm => by
      obtain ⟨e, he, q⟩ := List.mem_filterMap.mp hm
      exact tfr (List.mem_filterMap.mpr ⟨e, List.mem_cons_of_mem _ he, q⟩)
    have nHT : H' T = none := HOk.gone (show HOk X.prog X.w H' B from J.inGround nb) nBT
    have J3T : L2.Inv X ((T, oT) :: pins) σ' H' { s' with heap := h3 } := { J3 with
      pin := fun p hp => by
        rcases List.mem_append.mp hp with z | z
        · exact J3.pin p (List.mem_append_left _ z)
        · rcases List.mem_cons.mp z with z | z
          · subst z
            exact ⟨hT, nHT, nTL, nTF, fun v y => by
              have y' : oT.data = .cell v := y
              rw [hdT] at y'
              cases y'⟩
          · exact J3.pin p (List.mem_append_right _ z) }
    have S3 := J3T.suite he3 hd3 na nL nF
    refine wpAny_handleBy_cons (codeAny_handlers_test ?_) (by intro q; cases q)
    refine wpAny_mono ((hcl a oe3 cls d (X.pn ++ (T, oT) :: pins) hz3 ⟨_, hd3⟩).run [] _ _ H' _ S3 (wish a na)) (fun u sx got => ?_) (fun _ _ z => False.elim z)
    obtain ⟨v, H1, I1, r1, cm, sw⟩ := got
    have atA := (I1.pin (a, oe3) (List.mem_append_left _ List.mem_cons_self)).1
    have atT := (I1.pin (T, oT) (List.mem_append_left _ (List.mem_cons_of_mem _ (List.mem_append_right _ List.mem_cons_self)))).1
    have LT : PySem.W.Looks (model X.prog X.w) sx.heap (typeOf (.ref a)) cls := fun A Q E s k q => wpAny_typeOf_ref (k _ _ atA) (by rw [hz3.1]; exact q)
    refine (clm_looks (M := model X.prog X.w) I1.kIn I1.hok LT r1 cm).here ?_
    refine codeAny_handlers_suite_as ?_
    refine ground_again atA hd3 hT1 atT hdT hT3 fun h4 k4 => ?_
    have S4 : L2.Inv (X.suite a ((a, oe3) :: (X.pn ++ (T, oT) :: pins))) [] σ' H1 { sx with heap := h4 } := I1.kept (t' := sx.toks) k4
    refine store_ok (X := X.suite a ((a, oe3) :: (X.pn ++ (T, oT) :: pins))) (v := .ref a) S4 hN hi hloc rfl (fun s5 S5 => ?_) (.inr hln)
    refine wpAny_mono ((hsu a oe3 cls d (X.pn ++ (T, oT) :: pins) hz3 ⟨_, hd3⟩).run [] s5 _ H1 _ S5 sw) (fun f s6 hsp => ?_) (fun _ _ z => False.elim z)
    cases f with
    | next =>
      obtain ⟨σ6, H6, S6, q6⟩ := hsp
      obtain ⟨at6, n6, _⟩ := S6.pin (a, oe3) (List.mem_append_left _ List.mem_cons_self)
      have K6 := S6.unsuite J3T.ok
      have K7 : L2.Inv X pins σ6 H6 s6 := { K6 with
        pin := fun p hp => K6.pin p (by
          rcases List.mem_append.mp hp with z | z
          · exact List.mem_append_left _ z
          · exact List.mem_append_right _ (List.mem_cons_of_mem _ z)) }
      have K8 := inv_track (o := ExV cls d a) K7 at6 hd3 n0 n6 nL nP (exV_ok at6 hz3 hd3)
      exact gone_ok K8 hN hi hln fun s7 J7 => ⟨_, _, J7, q6 n6⟩
    | brk =>
      obtain ⟨σ6, H6, S6, q6⟩ := hsp
      exact False.elim q6
    | cont =>
      obtain ⟨σ6, H6, S6, q6⟩ := hsp
      exact False.elim q6
    | ret u =>
      obtain ⟨v6, σ6, H6, S6, r6, q6⟩ := hsp
      exact False.elim q6
  · cases f with
    | next =>
      obtain ⟨σ', H', J', q⟩ := hsp
      exact wpAny_execs_nil ⟨σ', H', J'.ofTry ok, q⟩
    | brk =>
      obtain ⟨σ', H', J', q⟩ := hsp
      exact ⟨σ', H', J'.ofTry ok, q⟩
    | cont =>
      obtain ⟨σ', H', J', q⟩ := hsp
      exact ⟨σ', H', J'.ofTry ok, q⟩
    | ret u =>
      obtain ⟨v, σ', H', J', r, q⟩ := hsp
      exact ⟨v, σ', H', J'.ofTry ok, r, q⟩
end
end NS

/-! ### a kept exception is read: its class, its field -/
namespace NS
open PySem PySem.Spec PyProof.Rows L2
/-- at a: an exception of the class at D with the fields fs -/
def Exn (H : Hp) (a D : Addr) (fs : List (Str × V)) : Prop := (H a = some (ExV (.ref D) none a) ∧ fs = []) ∨ ∃ dd, H a = some (ExV (.ref D) (some dd) a) ∧ H dd = some (.xd fs)
theorem Exn.ext {H H' : Hp} {a D : Addr} {fs : List (Str × V)} (s : ∀ b o, H b = some o → (∀ ps, o ≠ .tbl ps) → H' b = some o) (e : Exn H a D fs) : Exn H' a D fs := by
  rcases e with ⟨h, z⟩ | ⟨dd, h1, h2⟩
  · exact .inl ⟨s _ _ h (fun ps z => by unfold ExV at z; cases z), z⟩
  · exact .inr ⟨dd, s _ _ h1 (fun ps z => by unfold ExV at z; cases z), s _ _ h2 fun ps z => nomatch z⟩
theorem Exn.same {H H' : Hp} {a D : Addr} {fs : List (Str × V)} (s : Same H H') (e : Exn H a D fs) : Exn H' a D fs := e.ext fun b o h _ => s b o h
/-- what the top says of the own class named x, at C -/
structure ErrC (K : PySem.W.Frag) (mg : Str → Option Value) (x : Str) (newId : String) (bm : List Value) (fld : Str) (C : Addr) : Prop where
  g : mg x = some (.ref C)
  o : OexB K C newId bm
  nof : PySem.W.findIn K (.ref C) fld = some none
  hg : PySem.W.findIn K (.ref C) "__getattribute__" = some (some (.builtin "BaseException.__getattribute__"))
  hk : PySem.W.findIn K (.ref C) "__getattr__" = some none
  hd : PySem.W.hasDictIn K C = true
  ha : PySem.W.findIn K (.ref C) "__class__" = some (some (.builtin "object.__class__"))
  hm : PySem.W.mroIn K C (.type "object") = some true
  hn : PySem.W.specialIn K (.builtin "object.__class__") "__get__" = some (some (.builtin "getset_descriptor.__get__"))
  ht : PySem.W.takesIn K (.builtin "object.__class__") = some true
/-- its __init__ -/
structure ErrI (K : PySem.W.Frag) (C : Addr) (qual : Str) (st : Stmt) (ps : List Str) (fI : Addr) (fd : FuncData) : Prop where
  iC : PySem.W.findIn K (.ref C) "__init__" = some (some (.ref fI))
  tI : PySem.W.typeIn K (.ref fI) = some (.type "function")
  F : Fun K "__init__" qual st fI fd
  b : Binds K fd ps []
theorem kit_own {K : PySem.W.Frag} {D C : Addr} {b : Bool} (hd : PySem.W.hasDictIn K C = true) (ht : PySem.W.typeIn K (.ref C) = some (.type "type")) (hs : PySem.W.subIn K (.ref D) (.ref C) = some b) (hr : PySem.W.subIn K (.ref D) (.ref D) = some true) : PySem.W.kitOne K (.ref D) (.ref C) = some b := by
  obtain ⟨cd, hc, _⟩ := PySem.W.any_some hd
  unfold PySem.W.kitOne
  by_cases e : D = C
  · subst e
    rw [hs] at hr
    cases hr
    rw [if_pos (by simp)]
  · rw [if_neg (by simpa using e)]
    show (if ((PySem.W.clsIn K C).isSome && PySem.W.typeIn K (.ref C) == some (.type "type")) = true then PySem.W.subIn K (.ref D) (.ref C) else none) = some b
    rw [hc, ht, hs]
    rfl
theorem kit_bt {K : PySem.W.Frag} {D : Addr} {T : String} {b : Bool} (hm : PySem.W.kitMeta T = true) (hs : PySem.W.subIn K (.ref D) (.type T) = some b) : PySem.W.kitOne K (.ref D) (.type T) = some b := by
  unfold PySem.W.kitOne
  rw [if_neg (by simp)]
  show (if PySem.W.kitMeta T = true then PySem.W.subIn K (.ref D) (.type T) else none) = some b
  rw [if_pos hm, hs]
theorem exm_own {K : PySem.W.Frag} {cls : Value} {C : Addr} {b : Bool} (hb : PySem.W.subIn K (.ref C) (.type "BaseException") = some true) (hd : PySem.W.hasDictIn K C = true) (ht : PySem.W.typeIn K (.ref C) = some (.type "type")) (hs : PySem.W.subIn K cls (.ref C) = some b) : PySem.W.exmOne K cls (.ref C) = some b := by
  obtain ⟨cd, hc, _⟩ := PySem.W.any_some hd
  unfold PySem.W.exmOne
  rw [hb, if_pos (by rfl)]
  show (if ((PySem.W.clsIn K C).isSome && PySem.W.typeIn K (.ref C) == some (.type "type")) = true then PySem.W.subIn K cls (.ref C) else none) = some b
  rw [hc, ht, hs]
  rfl
theorem exmAny_nil {K : PySem.W.Frag} {cls : Value} : PySem.W.exmAny K cls [] = some false := rfl
theorem exmAny_c {K : PySem.W.Frag} {cls c : Value} {r : List Value} {b d : Bool} (h1 : PySem.W.exmOne K cls c = some b) (h2 : PySem.W.exmAny K cls r = some d) : PySem.W.exmAny K cls (c :: r) = some (b || d) := by
  unfold PySem.W.exmAny
  rw [h1, h2]
/-- what isinstance asks of the class D -/
structure IsD (K : PySem.W.Frag) (D : Addr) : Prop where
  hg : PySem.W.findIn K (.ref D) "__getattribute__" = some (some (.builtin "BaseException.__getattribute__"))
  hk : PySem.W.findIn K (.ref D) "__getattr__" = some none
  hs : PySem.W.subIn K (.ref D) (.type "BaseException") = some true
  hd : PySem.W.hasDictIn K D = true
  ha : PySem.W.findIn K (.ref D) "__class__" = some (some (.builtin "object.__class__"))
  hm : PySem.W.mroIn K D (.type "object") = some true
  hn : PySem.W.specialIn K (.builtin "object.__class__") "__get__" = some (some (.builtin "getset_descriptor.__get__"))
  ht : PySem.W.takesIn K (.builtin "object.__class__") = some true
theorem ErrC.isD {K : PySem.W.Frag} {mg : Str → Option Value} {x : Str} {newId : String} {bm : List Value} {fld : Str} {C : Addr} (e : ErrC K mg x newId bm fld C) : IsD K C := ⟨e.hg, e.hk, e.o.exC, e.hd, e.ha, e.hm, e.hn, e.ht⟩
section
variable {X : Cx} {pins : List (Addr × Obj)} {σ : L2.St} {H : Hp} {s : Shared}
theorem exn_inst {a D : Addr} {fs : List (Str × V)} (I : L2.Inv X pins σ H s) (e : Exn H a D fs) : ∃ (oe : Obj) (od : Option Obj), PySem.W.InstAt s.heap a oe D od := by
  rcases e with ⟨h, _⟩ | ⟨dd, h1, h2⟩
  · obtain ⟨oe, vs, ho, hz, hv⟩ := exV_at I.hok h
    refine ⟨oe, none, ho, hz.1, by unfold PySem.W.notCls; rw [hv] <;> rfl, ?_⟩
    rw [hz.2]
    trivial
  · obtain ⟨oe, vs, ho, hz, hv⟩ := exV_at I.hok h1
    have hx : ObjOk X.prog X.w H s.heap dd (.xd fs) := I.hok dd _ h2
    obtain ⟨mA, hns, _⟩ := hx
    obtain ⟨od, hod, _⟩ := lookIn_ns hns
    refine ⟨oe, some od, ho, hz.1, by unfold PySem.W.notCls; rw [hv] <;> rfl, ?_⟩
    rw [hz.2]
    exact hod
end
def rIsX (K : PySem.W.Frag) : List V → Hp → VK → Prop := fun xs H Q => ∃ (a D : Addr) (fs : List (Str × V)) (c : V) (cv : Value) (b : Bool), xs = [.ref a, c] ∧ Exn H a D fs ∧ IsD K D ∧ (∀ u, RelV c u → u = cv) ∧ PySem.W.kitOne K (.ref D) cv = some b ∧ Q (.bl b) H
theorem call_isX {X : Cx} : CallR X (.builtin "isinstance") (rIsX X.K) := by
  intro pins s σ H xs us Q I r h
  obtain ⟨a, D, fs, c, cv, b, rfl, ex, C, hcv, e, q⟩ := h
  cases r with
  | cons rx rr =>
    cases rr with
    | cons rt rr =>
      cases rr
      cases rx
      have ec := hcv _ rt
      subst ec
      obtain ⟨oe, od, J⟩ := exn_inst I ex
      have isC : (PySem.W.clsIn X.K D).isSome = true := by
        obtain ⟨cd, hc, _⟩ := PySem.W.any_some C.hd
        rw [hc]
        rfl
      exact PySem.W.kia_one (PySem.W.kitx_exc isC C.hg C.hk C.hs C.ha C.hn C.ht C.hm) I.kIn J e (fun z => nomatch z) fun tk => ⟨.bl b, H, I.kept (t' := tk) fun _ _ z => z, rfl, q⟩
/-- e.f, e a kept exception -/
def tXv (K : PySem.W.Frag) (f : Str) (te : TE) : TE := fun σ H Q => te σ H fun x H1 => ∃ (a D dd : Addr) (fs : List (Str × V)) (v : V), x = .ref a ∧ H1 a = some (ExV (.ref D) (some dd) a) ∧ H1 dd = some (.xd fs) ∧ IsD K D ∧ PySem.W.findIn K (.ref D) f = some none ∧ fs.lookup f = some v ∧ Q v H1
theorem pe_xv {X : Cx} {e : Expr} {te : TE} {pos : Pos} {n : Str} (he : PE X e te) (hb : attributeBase e n X.env (eval e X.env) = eval e X.env := by rfl) : PE X (.Attribute e n pos) (tXv X.K n te) := by
  refine ⟨fun pins s σ H Q I h => ?_⟩
  refine attr_of hb (thn (he.run pins s σ H _ I h) fun u s1 got => ?_)
  obtain ⟨x, H1, I1, rx, a, D, dd, fs, v, ex, e1, e2, T, hno, l, q⟩ := got
  subst ex
  obtain rfl : u = Value.ref a := rx
  obtain ⟨oe, vs, ho, hz, hv⟩ := exV_at I1.hok e1
  have hx : ObjOk X.prog X.w H1 s1.heap dd (.xd fs) := I1.hok dd _ e2
  obtain ⟨mA, hns, hr⟩ := hx
  obtain ⟨od, hod, hl⟩ := lookIn_ns hns
  obtain ⟨u, hu, ru⟩ := RelO.some_of (v := v) (o := mA n) (by rw [← l]; exact hr n)
  have J : PySem.W.InstAt s1.heap a oe D (some od) := ⟨ho, hz.1, by unfold PySem.W.notCls; rw [hv] <;> rfl, by rw [hz.2]; exact hod⟩
  exact HandSPX.exc_get I1.kIn J T.hg T.hk T.hs (PySem.W.findObj_own T.hd hno rfl (by rw [hl, hu])) (handed_of ru) ⟨v, H1, I1.tok _, ru, q⟩
/-! ### the __init__ of an own class -/
def spInit (K : PySem.W.Frag) (newId : String) (bm : List Value) (f : Str) : Sp := fun vs H Q _ => ∃ (a C : Addr) (v : V), vs = [.ref a, v] ∧ H a = some (exo a C none) ∧ OexB K C newId bm ∧ PySem.W.findIn K (.ref C) f = some none ∧ ∀ dx, H dx = none → dx ≠ a → Q .non (upd (upd H dx (exd dx [(f, v)])) a (exo a C (some dx)))
def spInit0 (K : PySem.W.Frag) (newId : String) (bm : List Value) : Sp := fun vs H Q _ => ∃ a C : Addr, vs = [.ref a] ∧ H a = some (exo a C none) ∧ OexB K C newId bm ∧ Q .non H
/-- what C(v) asks -/
theorem made_of {K : PySem.W.Frag} {newId : String} {bm : List Value} {f : Str} {C : Addr} {v : V} {H : Hp} {Q : XK} (T : OexB K C newId bm) (hno : PySem.W.findIn K (.ref C) f = some none) (q : ∀ d, H d = none → Q (.ref C) (some d) (upd H d (.xd [(f, v)]))) :
    [v].length ≤ 1000 ∧ ∀ a, H a = none → spInit K newId bm f (.ref a :: [v]) (upd H a (exo a C none)) (fun u H2 => u = .non ∧ ((∃ (d : Addr) (fs : List (Str × V)), H2 a = some (exo a C (some d)) ∧ H2 d = some (exd d fs) ∧ H d = none ∧ Q (.ref C) (some d) (upd (del H2 a) d (.xd fs))) ∨ (H2 a = some (exo a C none) ∧ Q (.ref C) none (del H2 a)))) (fun _ _ _ => False) := by
  refine ⟨(by show 1 ≤ 1000; decide), fun a na => ⟨a, C, v, rfl, upd_same, T, hno, fun dx n1 n2 => ⟨rfl, .inl ⟨dx, [(f, v)], upd_same, ?_, ?_, ?_⟩⟩⟩⟩
  · rw [upd_ne n2, upd_same]
  · rw [upd_ne n2] at n1
    exact n1
  · have e : upd (del (upd (upd (upd H a (exo a C none)) dx (exd dx [(f, v)])) a (exo a C (some dx))) a) dx (.xd [(f, v)]) = upd H dx (.xd [(f, v)]) := by
      funext b
      by_cases h1 : b = dx
      · rw [h1, upd_same, upd_same]
      · rw [upd_ne h1, upd_ne h1]
        by_cases h2 : b = a
        · rw [h2, del_same, na]
        · rw [del_ne h2, upd_ne h2, upd_ne h1, upd_ne h2]
    rw [e]
    rw [upd_ne n2] at n1
    exact q dx n1
theorem made_of0 {K : PySem.W.Frag} {newId : String} {bm : List Value} {C : Addr} {H : Hp} {Q : XK} (T : OexB K C newId bm) (q : Q (.ref C) none H) :
    ([] : List V).length ≤ 1000 ∧ ∀ a, H a = none → spInit0 K newId bm (.ref a :: []) (upd H a (exo a C none)) (fun u H2 => u = .non ∧ ((∃ (d : Addr) (fs : List (Str × V)), H2 a = some (exo a C (some d)) ∧ H2 d = some (exd d fs) ∧ H d = none ∧ Q (.ref C) (some d) (upd (del H2 a) d (.xd fs))) ∨ (H2 a = some (exo a C none) ∧ Q (.ref C) none (del H2 a)))) (fun _ _ _ => False) := by
  refine ⟨Nat.zero_le _, fun a na => ⟨a, C, rfl, upd_same, T, rfl, .inr ⟨upd_same, ?_⟩⟩⟩
  have e : del (upd H a (exo a C none)) a = H := by
    funext b
    by_cases h2 : b = a
    · rw [h2, del_same, na]
    · rw [del_ne h2, upd_ne h2]
  rw [e]
  exact q
/-- a def that may raise -/
structure KnX (P : Program) (w : World) (K : PySem.W.Frag) (mg : Str → Option Value) (base : Heap) (k : Nat) (x : Str) (st : Stmt) (ps : List Str) (sp : Sp) (f : Addr) (fd : FuncData) : Prop where
  D : Df K mg x st ps f fd
  G : FnOk P w K mg base (L2.CX P w) k f fd ps sp
/-! ### list.count of a plain value -/
def rCntF (K : PySem.W.Frag) : V → List V → Hp → VK → Prop := fun x xs H Q => ∃ (a : Addr) (ys : List V) (y : V), x = .ref a ∧ xs = [y] ∧ SqL K H a ys ∧ flatV y = true ∧ ys.all flatV = true ∧ Q (.int (ys.countP (fun z => eqV z y) : Nat)) H
theorem mt_cntF {X : Cx} : MtR X "list.count" (rCntF X.K) := by
  intro pins s σ H x xs v us Q I rx rxs h
  obtain ⟨a, ys, y, rfl, rfl, hs, fy, fys, q⟩ := h
  cases rx
  cases rxs with
  | cons ry rt =>
    rename_i uy ut
    cases rt
    obtain ⟨its, rv, ⟨⟨cls, dd, data, sl⟩, n, ho, hc, hdn, hd⟩, hlen⟩ := I.list hs
    simp only at hc hd
    subst hc hd
    have cnt : ∀ (ys : List V) (its : List Value), Vals ys its → ys.all flatV = true → its.countP (eqU y) = ys.countP fun z => eqV z y := by
      intro ys
      induction ys with
      | nil =>
        intro its r _
        cases r
        rfl
      | cons z ys ih =>
        intro its r fz
        cases r with
        | cons r1 r2 =>
          rw [List.all_cons, Bool.and_eq_true] at fz
          rw [List.countP_cons, List.countP_cons, ih _ r2 fz.2, eqU_of r1 fz.1]
    refine call_meets PySem.F.slot_list_count ⟨_, ho, rfl⟩ PySem.F.entry_list_count (PySem.F.args_list_count_2 _ _) (SeqAt.list_countAt a its.toArray n dd sl uy (eqU y)) ⟨ho, fun u' hu' => mem_eqAt ry fy rv fys u' (by simpa using hu'), ?_⟩
    refine ⟨.int (ys.countP (fun z => eqV z y) : Nat), H, I.tok _, ⟨s.toks, ?_⟩, q⟩
    show Value.int ((its.toArray.toList.countP (eqU y) : Nat) : Int) s.toks = _
    rw [← cnt ys its rv fys]
end NS

/-! ### g(lambda: b): a lambda without parameters, handed to a def that calls it -/
namespace NS
open PySem PySem.Spec PyProof.Rows L2 LamX NdefX
/-- what the captured cells held when the running frame began they hold still -/
theorem cells_keep {X : Cx} {pins : List (Addr × Obj)} {σ : L2.St} {H : Hp} {s : Shared} {cl : List (Str × Addr)} {fr : List Str} {ws : List (Option V)} (C : CellsAt cl fr ws X.s_0.heap X.H_0) (hx : X.ex = []) (I : L2.Inv X pins σ H s) : CellsAt cl fr ws s.heap H := by
  have no : ∀ c : Addr, c ∉ X.ex := fun c z => by
    rw [hx] at z
    exact nomatch z
  have kp : ∀ {y c}, cl.lookup y = some c → ∀ {v}, X.s_0.heap.IsCell c v → s.heap.IsCell c v := fun {y c} e {v} z => by
    obtain ⟨o, ho, hd⟩ := z
    obtain ⟨sl, q⟩ := I.base.any ho (C.all y c e).1 (no c)
    exact ⟨_, q, hd⟩
  refine ⟨C.len, fun y c e => ?_, C.inj, fun i y e => ?_⟩
  · obtain ⟨n, v, z⟩ := C.all y c e
    obtain ⟨o, ho, _⟩ := id z
    exact ⟨I.base.free c o ho n (no c), v, kp e z⟩
  · obtain ⟨c, hc, hv⟩ := C.has i y e
    refine ⟨c, hc, fun v ev => ?_⟩
    obtain ⟨u, r, z⟩ := hv v ev
    exact ⟨u, r, kp hc z⟩
/-- a(), in the def that got the lambda as a -/
theorem pe_actL {Z : Cx} {N fr : List Str} {F : NF} {b : Expr} {f : Addr} {k i : Nat} {a : Str} {pn : List (Addr × Obj)} {xe : Value → Shared → Prop} {W : WX} {tb : XK → TE} {ws : List (Option V)} {p1 p2 : Pos} (S : NScope N [] fr F.scope)
    (bnd : ∀ pm ctv : Value, bindArgs (PySem.W.kla_fn F.name F.qual F.params b F.scope F.cl pm (.ref F.c) ctv) ⟨[], []⟩ = pure []) (C : CellsAt F.cl fr ws Z.s_0.heap Z.H_0) (hex : Z.ex = []) (tk : Takes (Z.tr pn xe) W) (hr : Room (k + 1) Z.A)
    (hb : ∀ (A : Around) (outer : List Env) (s : Shared) (H : Hp) (E : XK), Room k (A.deeper (envF F f s.heap.objs.size)) → PE (ncx (L2.CX Z.prog Z.w) Z.prog Z.w Z.K Z.mg Z.base N F f A outer s H E) b (tb E))
    (hN : Z.N[i]? = some a) (hv : Vis Z.env.scope a) (hd : (a == ("__debug__" : Str)) = false) (hcd : (a == ("__classdict__" : Str)) = false) :
    PE (Z.tr pn xe) (.Call (.Name a p1) [] [] p2) (fun σZ HZ Q => σZ[i]? = some (some (.ref f)) ∧ HZ f = some (LamO f F b) ∧ HZ F.c = some (CodeO F.c F.qual) ∧ tb (fun cls d H' => W cls d σZ H') (startF N [] ws) HZ Q) := by
  refine ⟨fun pinsZ sZ σZ HZ Q IZ h => ?_⟩
  obtain ⟨hs, isL, isC, ht⟩ := h
  refine wpAny_Call_Name_kw (thn ((pe_var (X := Z.tr pn xe) (pos := p1) (i := i) hN hv hd hcd).run pinsZ sZ σZ HZ (fun v H1 => v = .ref f ∧ H1 = HZ) IZ ⟨.ref f, hs, rfl, rfl⟩) fun u s1 got => ?_)
  obtain ⟨v, H1, I1, r1, ev, eH⟩ := got
  subst ev
  rw [eH] at I1
  obtain rfl : u = Value.ref f := r1
  obtain ⟨od, sl, pm, ctv, ho⟩ := lamO_at I1.hok isL
  refine PySem.W.callWith_F0 ⟨_, _, _, _, ho⟩ ?_
  have CZ : CellsAt F.cl fr ws s1.heap HZ := cells_keep (X := Z.tr pn xe) C hex I1
  have run := lam_run (CX := L2.CX Z.prog Z.w) (E := fun cls d H' => W cls d σZ H') (k := k) (N := N) (ps := []) (fr := fr) (us := []) (vs := []) (ws := ws) (Q := Q) S (fun pm ctv us hl => by
    obtain rfl : us = [] := List.length_eq_zero_iff.mp hl
    exact bnd pm ctv) rfl (show Room (k + 1) Z.A from hr) I1.env0 isL isC CZ .nil fun hr' => ⟨_, hb _ _ _ _ _ hr', ht⟩
  refine wpAny_call (codeAny_mono run fun r s' hq => ?_)
  cases r with
  | error e => exact tk e s' (XE.of_call I1 (fun _ _ _ h => h) hq)
  | ok fl =>
    cases fl with
    | ret u => exact I1.after hq
    | next => exact False.elim hq
    | brk => exact False.elim hq
    | cont => exact False.elim hq
/-- the def that calls what it got as a; TT: what it makes of the lambda's reading -/
def GivesL (P : Program) (w : World) (K : PySem.W.Frag) (mg : Str → Option Value) (base : Heap) (A : Around) (stack : List Env) (Ng : List Str) (x : Str) (sg : Scope) (g : Addr) (cdg : Value) (bg : List Stmt) (a : Str) (kg : Nat) (TT : (XK → Hp → VK → Prop) → Hp → VK → Prop) : Prop :=
  ∀ (f : Addr) (F : NF) (b : Expr) (s : Shared) (H : Hp) (Q : VK) (tl : XK → Hp → VK → Prop), Room kg (cxOf CX0 P w K mg base Ng x sg g cdg A stack s H E0).A →
    (∀ (W : WX) (pn : List (Addr × Obj)) (xe : Value → Shared → Prop) (p1 p2 : Pos), Takes ((cxOf CX0 P w K mg base Ng x sg g cdg A stack s H E0).nox.tr pn xe) W →
      PE ((cxOf CX0 P w K mg base Ng x sg g cdg A stack s H E0).nox.tr pn xe) (.Call (.Name a p1) [] [] p2) (fun σZ HZ Q => σZ[0]? = some (some (.ref f)) ∧ HZ f = some (LamO f F b) ∧ HZ F.c = some (CodeO F.c F.qual) ∧ tl (fun cls d H' => W cls d σZ H') HZ Q)) →
    H f = some (LamO f F b) → H F.c = some (CodeO F.c F.qual) → TT tl H Q →
    ∃ t, PSs (cxOf CX0 P w K mg base Ng x sg g cdg A stack s H E0).nox bg t ∧ t { nx := fun _ H' => Q .non H', rt := Q } (L2.start Ng [.ref f]) H
def tGive (Ps : List Addr) (nm : Nat → Nat → Str) (N : List Str) (js : List Nat) (TT : (XK → Hp → VK → Prop) → Hp → VK → Prop) (tb : XK → TE) : TE := fun σ H Q => TabsOk Ps nm H ∧ ∀ H1, ExtN H H1 → TabsOk Ps nm H1 → TT (fun E H' Q' => tb E (startF N [] (js.map (slotAt σ))) H' Q') H1 Q
theorem pe_giveL {X : Cx} {Ps : List Addr} {nm : Nat → Nat → Str} {c P g : Addr} {N Ng fr : List Str} {js : List Nat} {k : Nat} {a x : Str} {st : Stmt} {fd : FuncData} {params : Arguments} {b : Expr} {scope : Scope} {p pos lpos : Pos} {TT : (XK → Hp → VK → Prop) → Hp → VK → Prop} {tb : XK → TE}
    (D : Df X.K X.mg x st [a] g fd) (Sg : FnScope Ng [a] (defScope st)) (hNg : Ng[0]? = some a) (hva : Vis (defScope st) a) (hG : ∀ cdg, GivesL X.prog X.w X.K X.mg X.base X.A X.stack Ng x (defScope st) g cdg (defBody st) a (k + 1) TT) (hg : Gl X x)
    (TB : TabB X.base X.mg c P) (hcode : X.env.code = .ref c) (hP : P ∈ Ps) (hn : nm lpos.line lpos.col = X.env.qual ++ "<lambda>") (hdef : defaultsOf params X.env = ([], [])) (S : NScope N [] fr scope) (hsc : ndefB X.env.scope scope fr = true) (hjs : js.map (fun j => X.N[j]?) = fr.map some)
    (bnd : ∀ (q : Str) (cl : List (Str × Addr)) (pm cv ctv : Value), bindArgs (PySem.W.kla_fn "<lambda>" q params b scope cl pm cv ctv) ⟨[], []⟩ = pure []) (room : Room (k + 2) X.A)
    (hb : ∀ (A : Around) (outer : List Env) (s : Shared) (H : Hp) (E : XK) (f c' : Addr), Room k (A.deeper (envF (lamF X params scope c') f s.heap.objs.size)) → PE (ncx (L2.CX X.prog X.w) X.prog X.w X.K X.mg X.base N (lamF X params scope c') f A outer s H E) b (tb E))
    (hdb : (x == ("__debug__" : Str)) = false := by decide) (hd : (a == ("__debug__" : Str)) = false := by decide) (hcd : (a == ("__classdict__" : Str)) = false := by decide) :
    PE X (.Call (.Name x p) [.Lambda params b scope lpos] [] pos) (tGive Ps nm N js TT tb) := by
  refine ⟨fun pins s σ H Q I h => ?_⟩
  obtain ⟨hT, h⟩ := h
  refine wpAny_Call_Name_kw (ld_glob I hg D.g ?_ hdb)
  refine PySem.W.callWith_K (h₀ := X.base) I.ok.mod.kin D.F.kp ?_ (by rfl) (by rfl)
  show wpAny _ _ (spliced ((false, eval (.Lambda params b scope lpos) X.env) :: backTo pos (starEach [] X.env))) _ _ s
  have hf := ndef_free hsc
  refine Calls.spliced_cons (lam_made I TB hcode hP hn hT hdef (fun y hy z => (hf y hy z).elim (fun z => I.ok.has _ (.inl z)) fun z => I.ok.has _ (.inr z)) fun f c' H1 s' I1 gr T1 nf isL isC => ?_)
  refine Calls.spliced_nil ⟨I1.kIn, ?_⟩
  have caps := Caps.made (js := js) I1.ok hf (ndef_fr hsc) hjs
  have cells := cells_of I1 caps
  obtain ⟨oc, od, kV, doc, pm, an, cdg, ct, osl, efd, lk, hcd'⟩ := D.F.ex
  have bd : BindsTo s' fd ⟨[.ref f], []⟩ ([a].zip [.ref f]) := D.b s' [.ref f] I1.kIn rfl
  subst efd
  have rc : codeAny (model X.prog X.w) X.A (.call (.ref g) ⟨[.ref f], []⟩) (CR CX0 X.stack X.prog X.w H1 s' Q E0) s' := by
    refine run_ofS (k := k + 1) (N := Ng) (ps := [a]) (us := [.ref f]) (vs := [.ref f]) lk hcd' Sg room I1.env0 bd (.cons rfl .nil) rfl fun hr' => ?_
    obtain ⟨t', ht', hq'⟩ := hG cdg f (lamF X params scope c') b s' H1 Q (fun E H' Q' => tb E (startF N [] (js.map (slotAt σ))) H' Q') hr' (fun W pn xe p1 p2 tk => pe_actL (Z := (cxOf CX0 X.prog X.w X.K X.mg X.base Ng x (defScope st) g cdg X.A X.stack s' H1 E0).nox) S (fun pm ctv => bnd _ _ pm _ ctv) cells rfl tk hr' (fun A outer s H E hr2 => hb A outer s H E f c' hr2) hNg hva hd hcd) isL isC (h H1 gr T1)
    exact ⟨t', ht'.nox, hq'⟩
  refine wpAny_call (codeAny_mono rc fun r s2 hq => ?_)
  cases r with
  | error e => exact (show False from hq).elim
  | ok fl =>
    cases fl with
    | ret u => exact I1.after hq
    | next => exact False.elim hq
    | brk => exact False.elim hq
    | cont => exact False.elim hq
/-- f(..) within a try, f a def that may raise -/
def tCallW (sp : Sp) (W : WX) (t : TA) : TE := fun σ H Q => t σ H fun vs H1 => sp vs H1 Q (fun cls d H' => W cls d σ H')
theorem pe_callW {X : Cx} {k : Nat} {f : Addr} {fd : FuncData} {ps : List Str} {sp : Sp} {x : Str} {p pos : Pos} {e : Expr} {es : List Expr} {t : TA} {W : WX} (F : FnOk X.prog X.w X.K X.mg X.base (L2.CX X.prog X.w) k f fd ps sp) (hr : Room k X.A) (hg : Gl X x) (hm : X.mg x = some (.ref f)) (hk : PySem.W.keepIn X.K (.ref f) = true) (hb : Binds X.K fd ps [])
    (tk : Takes X W) (ha : PA X (e :: es) t) (hdb : (x == ("__debug__" : Str)) = false := by decide) (he : starEach (e :: es) X.env = (false, eval e X.env) :: starEach es X.env := by rfl) (hpl : (backTo pos (starEach es X.env)).any (·.1) = false := by rfl) :
    PE X (.Call (.Name x p) (e :: es) [] pos) (tCallW sp W t) := by
  constructor
  intro pins s σ H Q I h
  refine wpAny_Call_Name_kw (ld_glob I hg hm ?_ hdb)
  refine PySem.W.callWith_K (h₀ := X.base) I.ok.mod.kin hk (thn (ha.run pos pins s σ H _ I h) fun us s1 got => ?_) he hpl
  obtain ⟨vs, H1, I1, r, q⟩ := got
  refine ⟨I1.kIn, ?_⟩
  have hl : (us ++ []).length = ps.length := by
    rw [List.append_nil, ← r.length]
    exact F.len _ _ _ _ q
  have bd := hb s1 us I1.kIn hl
  rw [List.append_nil] at bd
  show wpAny _ _ (call (.ref f) us) _ _ _
  refine wpAny_call (codeAny_mono (F.run X.A X.stack s1 H1 ⟨us, []⟩ us vs Q _ hr I1.env0 bd r q) fun res s' hq => ?_)
  cases res with
  | error ex => exact tk ex s' (XE.of_call I1 (fun _ _ _ h => h) hq)
  | ok fl =>
    cases fl with
    | ret u => exact I1.after hq
    | next => exact False.elim hq
    | brk => exact False.elim hq
    | cont => exact False.elim hq
theorem sl_listK {X : Cx} {K : PySem.W.Frag} (e : X.K = K) : SlR X (rSlL K) := by subst e; exact sl_list
theorem takesE {P : Program} {w : World} {K : PySem.W.Frag} {mg : Str → Option Value} {base : Heap} {N : List Str} {q : Str} {sc : Scope} {f : Addr} {cd : Value} {A : Around} {outer : List Env} {s : Shared} {H : Hp} {E : XK} : Takes (cxOf (L2.CX P w) P w K mg base N q sc f cd A outer s H E) (fun cls d _ H' => E cls d H') :=
  takes_of (E₁ := fun e' s'' => L2.CX P w outer H s E e' s'') rfl rfl rfl rfl
theorem ownE {P : Program} {w : World} {K : PySem.W.Frag} {mg : Str → Option Value} {base : Heap} {N : List Str} {q : Str} {sc : Scope} {f : Addr} {cd : Value} {A : Around} {outer : List Env} {s : Shared} {H : Hp} {E : XK} : PassesOwn (model P w) (cxOf (L2.CX P w) P w K mg base N q sc f cd A outer s H E).A (cxOf (L2.CX P w) P w K mg base N q sc f cd A outer s H E).env (cxOf (L2.CX P w) P w K mg base N q sc f cd A outer s H E).xe :=
  passes_of (X := cxOf (L2.CX P w) P w K mg base N q sc f cd A outer s H E) (K := fun e s'' => L2.CX P w outer H s E e s'') (E₁ := fun e' s'' => L2.CX P w outer H s E e' s'') rfl
theorem takesN {P : Program} {w : World} {K : PySem.W.Frag} {mg : Str → Option Value} {base : Heap} {N : List Str} {F : NF} {f : Addr} {A : Around} {outer : List Env} {s : Shared} {H : Hp} {E : XK} : Takes (ncx (L2.CX P w) P w K mg base N F f A outer s H E) (fun cls d _ H' => E cls d H') :=
  takes_of (E₁ := fun e' s'' => L2.CX P w outer H s E e' s'') rfl rfl rfl rfl
/-- a guarded def whose code object is known -/
theorem okGC {P : Program} {w : World} {K : PySem.W.Frag} {mg : Str → Option Value} {base : Heap} {x : Str} {st : Stmt} {f c : Addr} {fd : FuncData} {N ps : List Str} {k : Nat} {sp : Sp} (L : DfC K x st f fd c) (S : FnScope N ps (defScope st)) (len : ∀ vs H Q E, sp vs H Q E → vs.length = ps.length)
    (body : ∀ (A : Around) (outer : List Env) (s : Shared) (H : Hp) (vs : List V) (Q : VK) (E : XK), A.guards = some [] → Room k (A.deeper (envOfC x (defScope st) s.heap.objs.size f (.ref c))) → sp vs H Q E →
      ∃ t, PSs (cxOf CX0 P w K mg base N x (defScope st) f (.ref c) A outer s H E).nox (defBody st) t ∧ t { nx := fun _ H' => Q .non H', rt := Q } (start N vs) H) : FnOkG P w K mg base (k + 1) f fd ps sp := by
  obtain ⟨oc, od, kV, doc, pm, an, ct, osl, efd, lk, hcd⟩ := L.ex
  subst efd
  refine ⟨len, fun A outer s H args us vs Q E hgd room en bnd rel promised => ?_⟩
  exact run_ofS (CX := CX0) (k := k) lk hcd S room en bnd rel (len _ _ _ _ promised) fun hr' => by
    obtain ⟨t, der, rd⟩ := body A outer s H vs Q E hgd hr' promised
    exact ⟨t, der.nox, rd⟩
/-- a def that may raise, whose code object is known -/
theorem okCX {P : Program} {w : World} {K : PySem.W.Frag} {mg : Str → Option Value} {base : Heap} {x : Str} {st : Stmt} {f c : Addr} {fd : FuncData} {N ps : List Str} {k : Nat} {sp : Sp} (L : DfC K x st f fd c) (S : FnScope N ps (defScope st)) (len : ∀ vs H Q E, sp vs H Q E → vs.length = ps.length)
    (body : ∀ (A : Around) (outer : List Env) (s : Shared) (H : Hp) (vs : List V) (Q : VK) (E : XK), Room k (A.deeper (envOfC x (defScope st) s.heap.objs.size f (.ref c))) → sp vs H Q E →
      ∃ t, PSs (cxOf (L2.CX P w) P w K mg base N x (defScope st) f (.ref c) A outer s H E) (defBody st) t ∧ t { nx := fun _ H' => Q .non H', rt := Q } (start N vs) H) : FnOk P w K mg base (L2.CX P w) (k + 1) f fd ps sp := by
  obtain ⟨oc, od, kV, doc, pm, an, ct, osl, efd, lk, hcd⟩ := L.ex
  subst efd
  exact fn_of lk hcd S len fun A outer s H vs Q E hr h => body A outer s H vs Q E hr h
end NS

/-! ### own classes: methods, try .. finally, len(x), repr(x) -/
namespace NS
open PySem PySem.Spec PyProof.Rows L2
/-- a method as the top left it -/
structure Dm (K : PySem.W.Frag) (C : Addr) (m q : Str) (st : Stmt) (ps : List Str) (f : Addr) (fd : FuncData) : Prop where
  F : Fun K m q st f fd
  b : Binds K fd ps []
  m : Meth K C m f
structure KnM (P : Program) (w : World) (K : PySem.W.Frag) (mg : Str → Option Value) (base : Heap) (k : Nat) (C : Addr) (m q : Str) (st : Stmt) (ps : List Str) (sp : Sp) (f : Addr) (fd : FuncData) : Prop where
  D : Dm K C m q st ps f fd
  G : FnOk P w K mg base CX0 k f fd ps sp
structure KnMX (P : Program) (w : World) (K : PySem.W.Frag) (mg : Str → Option Value) (base : Heap) (k : Nat) (C : Addr) (m q : Str) (st : Stmt) (ps : List Str) (sp : Sp) (f : Addr) (fd : FuncData) : Prop where
  D : Dm K C m q st ps f fd
  G : FnOk P w K mg base (L2.CX P w) k f fd ps sp
/-- a block that returns at each of its ends -/
abbrev TR := (V → L2.St → Hp → Prop) → L2.St → Hp → Prop
structure PR (X : Cx) (b : List Stmt) (t : TR) : Prop where
  run : ∀ (pins : List (Addr × Obj)) (s : Shared) (σ : L2.St) (H : Hp) (R : V → L2.St → Hp → Prop), L2.Inv X pins σ H s → t R σ H →
    wpAny (model X.prog X.w) X.A (execs b X.env) (fun g s' => ∃ u v σ' H', g = .ret u ∧ L2.Inv X pins σ' H' s' ∧ RelV v u ∧ R v σ' H') X.xe s
def trRet (te : TE) : TR := fun R σ H => te σ H fun v H1 => R v σ H1
def trCons (ts : TS) (t : TR) : TR := fun R σ H => ts { nx := fun σ1 H1 => t R σ1 H1, rt := fun _ _ => False } σ H
def trIf (c : TT) (t u : TR) : TR := fun R σ H => c σ H fun b H1 => if b = true then t R σ H1 else u R σ H1
section
variable {X : Cx} {e c : Expr} {st : Stmt} {a r : List Stmt} {p pos : Pos} {te : TE} {tc : TT} {ts : TS} {t u : TR}
theorem pr_ret (he : PE X e te) : PR X [.Return (some e) p] (trRet te) := by
  refine ⟨fun pins s σ H R I h => wpAny_execs_cons (wpAny_Return_some (thn (he.run pins s σ H _ I h) fun u s1 z => ?_))⟩
  obtain ⟨v, H1, I1, r1, q1⟩ := z
  exact ⟨u, v, σ, H1, rfl, I1, r1, q1⟩
theorem pr_cons (hs : PS X st ts) (ht : PR X r t) : PR X (st :: r) (trCons ts t) := by
  refine ⟨fun pins s σ H R I h => wpAny_execs_cons (thn (hs.run pins s σ H _ I h) fun g s1 z => ?_)⟩
  cases g with
  | next =>
    obtain ⟨σ1, H1, I1, q1⟩ := z
    exact ht.run pins s1 σ1 H1 R I1 q1
  | ret u =>
    obtain ⟨_, _, _, _, _, q⟩ := z
    exact False.elim q
  | brk =>
    obtain ⟨_, _, _, q⟩ := z
    exact False.elim q
  | cont =>
    obtain ⟨_, _, _, q⟩ := z
    exact False.elim q
theorem pr_if (hc : PT X c tc) (ha : PR X a t) (hr : PR X r u) : PR X (.If c a [] p :: r) (trIf tc t u) := by
  refine ⟨fun pins s σ H R I h => wpAny_execs_cons (wpAny_If (thn (hc.run pins s σ H _ I h) fun d s1 ⟨H1, I1, q1⟩ => ?_))⟩
  cases d with
  | true =>
    refine thn (ha.run pins s1 σ H1 R I1 q1) fun g s2 z => ?_
    obtain ⟨u, v, σ', H', rfl, z⟩ := z
    exact ⟨u, v, σ', H', rfl, z⟩
  | false => exact wpAny_execs_nil (hr.run pins s1 σ H1 R I1 q1)
end
/-- try: body finally: suite; the body returns at each of its ends or raises -/
def tFinR (tb : WX → TR) (tf tfs : TS) (Wout : WX) : TS := fun D σ H => tb (wFin tfs Wout) (fun v σ1 H1 => tf { D with nx := fun _ H2 => D.rt v H2 } σ1 H1) σ H
theorem ps_finR {X : Cx} {body : List Stmt} {f₀ : Stmt} {fs : List Stmt} {pos : Pos} {tb : WX → TR} {tf tfs : TS} {Wout : WX} (hs : X.stack = X.env :: X.outer) (hf : X.env.frame = some X.env.locals) (hex : X.ex = []) (tk : Takes X Wout)
    (hb : ∀ (W : WX) (pn : List (Addr × Obj)) (xe : Value → Shared → Prop), Takes (X.tr pn xe) W → PassesOwn (model X.prog X.w) X.A X.env xe → PR (X.tr pn xe) body (tb W))
    (hfin : PSs X.nox (f₀ :: fs) tf) (hsu : ∀ (a : Addr) (pn : List (Addr × Obj)), PSs (X.suite a pn) (f₀ :: fs) tfs) : PS X (.Try body [] [] (f₀ :: fs) pos) (tFinR tb tf tfs Wout) := by
  refine ⟨fun pins s σ H D I h => ?_⟩
  have ok := I.ok
  refine wpAny_Try_finally ?_
  refine wpAny_mono ((hb (wFin tfs Wout) (X.pn ++ pins) (fun x s₁ => wpAny (model X.prog X.w) X.A (noteFrame x X.env) (fun _ s₂ => FinallyRaised X.prog X.w X.A X.xe X.env (f₀ :: fs) (SP X pins D) x s₂) (FinallyRaised X.prog X.w X.A X.xe X.env (f₀ :: fs) (SP X pins D)) s₁)
    (fun u s' xx => ?_) PassesOwn.looking).run [] s σ H (fun v σ1 H1 => tf { D with nx := fun _ H2 => D.rt v H2 } σ1 H1) (I.toTry _) h) (fun g s1 z => ?_) (fun x s1 hx => hx)
  · exact fin_exc hs hf hex ok tk hsu xx
  · obtain ⟨u, v, σ1, H1, rfl, I1, r1, q1⟩ := z
    exact fin_ret hfin (I1.ofTry ok) r1 q1
/-- o.m(e, ..) within a try, m a method that may raise -/
def tMethW (C : Addr) (m : Str) (sp : Sp) (W : WX) (ta : TE) (t : TA) : TE := fun σ H Q => ta σ H fun x H1 => ∃ a dx fs, x = .ref a ∧ H1 a = some (.ins C dx fs) ∧ fs.lookup m = none ∧ t σ H1 fun vs H2 => sp (x :: vs) H2 Q (fun cls d H' => W cls d σ H')
theorem pe_methW {X : Cx} {k : Nat} {f C : Addr} {fd : FuncData} {ps : List Str} {sp : Sp} {m : Str} {pos apos : Pos} {e o : Expr} {es : List Expr} {ta : TE} {t : TA} {W : WX} {pl : Sem Bool} (he : PE X o ta) (c : Cls X.K C) (hm : Meth X.K C m f)
    (F : FnOk X.prog X.w X.K X.mg X.base (L2.CX X.prog X.w) k f fd ps sp) (hr : Room k X.A) (hb : Binds X.K fd ps []) (tk : Takes X W) (ha : PA X (e :: es) t)
    (hst : starEach (e :: es) X.env = (false, eval e X.env) :: starEach es X.env := by rfl) (hpl : (backTo pos (starEach es X.env)).any (·.1) = false := by rfl)
    (ht : eval (.Call (.Attribute o m apos) (e :: es) [] pos) X.env = (do
      let ov ← eval o X.env
      standAt apos.atName
      let (f, first) ← holding [ov] (getMethod ov m pl)
      callWith pos f first (backTo pos (starEach (e :: es) X.env)) (backToKw pos (keywordEach [] X.env))) := by rfl) :
    PE X (.Call (.Attribute o m apos) (e :: es) [] pos) (tMethW C m sp W ta t) := by
  refine ⟨fun pins s σ H Q I h => ?_⟩
  refine PySem.W.methodCall_KW (pl := pl) (thn (he.run pins s σ H _ I h) fun u s1 ⟨x, H1, I1, rx, a, dx, fs, ex, ea, l, q⟩ => ?_) ht
  subst ex
  obtain rfl : u = Value.ref a := rx
  refine getmeth_ok I1 ea c hm l ?_
  refine PySem.W.callWith_K (first := [.ref a]) (h₀ := X.base) I.ok.mod.kin hm.kp (thn (ha.run pos pins s1 σ H1 _ I1 q) fun us s2 ⟨vs, H2, I2, r, q2⟩ => ⟨I2.kIn, ?_⟩) hst hpl
  have hl : ((Value.ref a :: us) ++ []).length = ps.length := by
    rw [List.append_nil, List.length_cons, ← r.length]
    exact F.len _ _ _ _ q2
  have bd := hb s2 (Value.ref a :: us) I2.kIn hl
  rw [List.append_nil] at bd
  show wpAny _ _ (call (.ref f) (Value.ref a :: us)) _ _ _
  refine wpAny_call (codeAny_mono (F.run X.A X.stack s2 H2 ⟨Value.ref a :: us, []⟩ (Value.ref a :: us) (V.ref a :: vs) Q _ hr I2.env0 bd (.cons rfl r) q2) fun res s' hq => ?_)
  cases res with
  | error ex => exact tk ex s' (XE.of_call I2 (fun _ _ _ h => h) hq)
  | ok fl =>
    cases fl with
    | ret u => exact I2.after hq
    | next => exact False.elim hq
    | brk => exact False.elim hq
    | cont => exact False.elim hq
theorem pe_fldK {X : Cx} {K : PySem.W.Frag} (e0 : X.K = K) {e : Expr} {ta : TE} {f : Str} {pos : Pos} (he : PE X e ta) (hb : attributeBase e f X.env (eval e X.env) = eval e X.env) : PE X (.Attribute e f pos) (tFld K ta f) := by
  subst e0
  exact pe_fld he hb
end NS

/-! ### len(x), repr(x), x == y of an own class -/
namespace NS
open PySem PySem.Spec PyProof.Rows L2 Builtin
section
variable {M : Model} {A : Around} {E : Value → Shared → Prop} {s : Shared} {f x : Addr}
theorem bindS_fn {self : Value} {Q : Value × List Value → Shared → Prop} (tf : PySem.W.Looks M s.heap (typeOf (.ref f)) (.type "function")) (hq : Q (.ref f, [self]) s) : wpAny M A (bindSpecial (.ref f) self) Q E s := by
  unfold bindSpecial
  refine wpAny_bind (tf.here ?_)
  rw [if_pos (by decide)]
  exact wpAny_pure hq
theorem cspD {name : Str} {args : List Value} {Q : Option Value → Shared → Prop} (sp : PySem.W.Looks M s.heap (specialOf (.ref x) name) (some (.ref f))) (tf : PySem.W.Looks M s.heap (typeOf (.ref f)) (.type "function"))
    (hcall : wpAny M A (call (.ref f) (.ref x :: args)) (fun v => Q (some v)) E s) : wpAny M A (callSpecial? (.ref x) name args) Q E s := by
  unfold callSpecial?
  refine wpAny_bind (sp.here ?_)
  refine wpAny_holding (wpAny_bind (bindS_fn tf ?_))
  first
    | exact wpAny_bind (wpAny_mono hcall (fun v s' h' => wpAny_pure h') fun _ _ h' => h')
    | exact wpAny_pure (wpAny_bind (wpAny_mono hcall (fun v s' h' => wpAny_pure h') fun _ _ h' => h'))
theorem cspB {name : Str} {args : List Value} {Q : Option Value → Shared → Prop} (sp : PySem.W.Looks M s.heap (specialOf (.ref x) name) (some (.ref f))) (tf : PySem.W.Looks M s.heap (typeOf (.ref f)) (.type "function"))
    (hcall : wpAny M A (call (.ref f) (.ref x :: args)) (fun v => Q (some v)) E s) : wpAny M A (callSpecialIfBound? (.ref x) name args) Q E s := by
  simp only [callSpecialIfBound?, bindSpecialIfBound?]
  refine wpAny_holding (wpAny_bind (wpAny_bind (sp.here ?_)))
  refine wpAny_bind (wpAny_askSetting (wpAny_ite ?_))
  have fin : wpAny M A (call (.ref f) ([.ref x] ++ args) >>= fun v => pure (some v)) Q E s :=
    wpAny_bind (wpAny_mono hcall (fun v s' h' => wpAny_pure h') fun _ _ h' => h')
  split
  · exact wpAny_bind (bindS_fn tf (wpAny_pure (by exact fin)))
  · exact wpAny_tryCatch (wpAny_bind (bindS_fn tf (wpAny_pure (by exact fin))))
end
section
variable {X : Cx} {k : Nat} {f C : Addr} {fd : FuncData} {ps : List Str} {sp : Sp} {pins : List (Addr × Obj)} {σ : L2.St} {H : Hp} {s : Shared} {a dx : Addr} {fs : List (Str × V)}
/-- its special method is the class's def -/
theorem ins_sp {name : Str} (I : L2.Inv X pins σ H s) (ha : H a = some (.ins C dx fs)) (hm : Meth X.K C name f) : PySem.W.Looks (model X.prog X.w) s.heap (specialOf (.ref a) name) (some (.ref f)) ∧ PySem.W.Looks (model X.prog X.w) s.heap (typeOf (.ref f)) (.type "function") ∧ PySem.W.Looks (model X.prog X.w) s.heap (typeOf (.ref a)) (.ref C) := by
  obtain ⟨mA, O, _⟩ := ins_get I.hok ha
  obtain ⟨ho, hc⟩ := (show ∃ o, s.heap.get? a = some o ∧ o.cls = .ref C from ⟨_, O.obj, rfl⟩)
  have ty : PySem.W.Looks (model X.prog X.w) s.heap (typeOf (.ref a)) (.ref C) := fun A Q E s k q => wpAny_typeOf_ref (k _ _ hc.1) (by rw [hc.2]; exact q)
  exact ⟨ty.andThen (PySem.W.looks_findIn I.kIn hm.at_), PySem.W.looks_typeIn I.kIn (beq_iff_eq.mp hm.fn), ty⟩
/-- the method runs below one builtin -/
theorem run_in1 {us : List Value} {vs : List V} {Q : VK} (F : FnOk X.prog X.w X.K X.mg X.base CX0 k f fd ps sp) (hr : Room (k + 1) X.A) (hb : Binds X.K fd ps []) (I : L2.Inv X pins σ H s) (r : Vals vs us) (h : sp vs H Q E0) :
    wpAny (model X.prog X.w) X.A.in1 (call (.ref f) us) (EP X pins σ Q) X.xe s := by
  have hl : (us ++ []).length = ps.length := by
    rw [List.append_nil, ← r.length]
    exact F.len _ _ _ _ h
  have bd := hb s us I.kIn hl
  rw [List.append_nil] at bd
  refine wpAny_call (codeAny_mono (F.run X.A.in1 X.stack s H ⟨us, []⟩ us vs Q E0 hr.in1 I.env0.in1 bd r h) fun r s' hq => ?_)
  cases r with
  | error e => exact False.elim hq
  | ok fl =>
    cases fl with
    | ret u => exact I.after hq
    | next => exact False.elim hq
    | brk => exact False.elim hq
    | cont => exact False.elim hq
/-- len(x) -/
def rLenO (C : Addr) (sp : Sp) : List V → Hp → VK → Prop := fun xs H Q => ∃ (a dx : Addr) (fs : List (Str × V)), xs = [.ref a] ∧ H a = some (.ins C dx fs) ∧ sp [.ref a] H (fun v H' => ∃ n : Nat, v = .int (n : Int) ∧ n ≤ 1000000 ∧ Q (.int (n : Int)) H') E0
theorem call_lenO (hm : Meth X.K C "__len__" f) (F : FnOk X.prog X.w X.K X.mg X.base CX0 k f fd ps sp) (hr : Room (k + 1) X.A) (hb : Binds X.K fd ps []) : CallR X (.builtin "len") (rLenO C sp) := by
  intro pins s σ H xs us Q I r h
  obtain ⟨a, dx, fs, rfl, ha, h⟩ := h
  cases r with
  | cons r1 r2 =>
    cases r2
    cases r1
    obtain ⟨L1, L2, _⟩ := ins_sp I ha hm
    refine Calls.call_function_entry kind_len plain_len entry_len (args_len1 _) ?_
    unfold Builtin.«len»
    refine wpAny_bind (m := oneArg "len" _) (wpAny_pure ?_)
    refine wpAny_bind (m := callSpecial? (.ref a) (Str.ofString "__len__")) (cspD L1 L2 (wpAny_mono (run_in1 (vs := [V.ref a]) F hr hb I (.cons rfl .nil) h) (fun u s' hq => ?_) fun _ _ y => y))
    obtain ⟨v, H', I', rv, n, rfl, hn, q⟩ := hq
    obtain ⟨tk, rfl⟩ := rv
    refine wpAny_bind (wpAny_holding (wpAny_pure ?_))
    refine wpAny_bind (wpAny_letGo ?_)
    show wpAny _ _ (if (n : Int) < 0 then _ else _) _ _ _
    rw [if_neg (by omega)]
    show wpAny _ _ (if (n : Int) ≥ 2 ^ 63 then _ else _) _ _ _
    rw [if_neg (by omega)]
    exact wpAny_bind (wpAny_mkInt (wpAny_pure ⟨_, rfl, .int (n : Int), H', I'.tok _, ⟨_, rfl⟩, q⟩))
/-- repr(x) -/
def rReprO (C : Addr) (sp : Sp) : List V → Hp → VK → Prop := fun xs H Q => ∃ (a dx : Addr) (fs : List (Str × V)), xs = [.ref a] ∧ H a = some (.ins C dx fs) ∧ sp [.ref a] H (fun v H' => ∃ x : Str, v = .str x ∧ Q (.str x) H') E0
theorem call_reprO (hm : Meth X.K C "__repr__" f) (G : FnOk X.prog X.w X.K X.mg X.base CX0 k f fd ps sp) (hr : Room (k + 1) X.A) (hb : Binds X.K fd ps []) : CallR X (.builtin "repr") (rReprO C sp) := by
  intro pins s σ H xs us Q I r h
  obtain ⟨a, dx, fs, rfl, ha, h⟩ := h
  cases r with
  | cons r1 r2 =>
    cases r2
    cases r1
    obtain ⟨L1, L2, _⟩ := ins_sp I ha hm
    refine Calls.call_function_entry F.kind_repr F.plain_repr F.entry_repr (F.args_repr1 _) ?_
    unfold Builtin.«repr»
    refine wpAny_bind (m := oneArg "repr" _) (wpAny_pure ?_)
    refine wpAny_bind (wpAny_cRoomFor hr.in1.units0 ?_)
    refine wpAny_bind (L1.here ?_)
    show wpAny _ _ (if (some (Value.ref f)).isNone = true then _ else _) _ _ _
    rw [if_neg (by simp)]
    refine wpAny_bind (m := callSpecialIfBound? (.ref a) (Str.ofString "__repr__") _) (cspB L1 L2 (wpAny_mono (run_in1 (vs := [V.ref a]) G hr hb I (.cons rfl .nil) h) (fun u s' hq => ?_) fun _ _ y => y))
    obtain ⟨v, H', I', rv, x, rfl, q⟩ := hq
    obtain ⟨tk, rfl⟩ := rv
    refine wpAny_bind (wpAny_isInstance (typeIs_str _ _ _) isSubtype_str_str ?_)
    first
      | exact wpAny_pure ⟨_, rfl, .str x, H', I', ⟨_, rfl⟩, q⟩
      | (rw [if_pos rfl]; exact wpAny_pure ⟨_, rfl, .str x, H', I', ⟨_, rfl⟩, q⟩)
      | (simp only [if_true]; exact wpAny_pure ⟨_, rfl, .str x, H', I', ⟨_, rfl⟩, q⟩)
/-- x == y, both of the class -/
def rEqO (C : Addr) (sp : Sp) : R2 := fun x y H Q => ∃ (a b dx dy : Addr) (fs gs : List (Str × V)), x = .ref a ∧ y = .ref b ∧ H a = some (.ins C dx fs) ∧ H b = some (.ins C dy gs) ∧ sp [.ref a, .ref b] H (fun v H' => ∃ r : Bool, v = .bl r ∧ Q (.bl r) H') E0
theorem op_eqO (hm : Meth X.K C "__eq__" f) (G : FnOk X.prog X.w X.K X.mg X.base CX0 k f fd ps sp) (hr : Room k X.A) (hb : Binds X.K fd ps []) : OpR X (compareOp .Eq) (rEqO C sp) := by
  intro pins s σ H x y u v Q I rx ry h
  obtain ⟨a, b, dx, dy, fs, gs, rfl, rfl, ha, hb', h⟩ := h
  cases rx
  cases ry
  obtain ⟨L1, L2, L3⟩ := ins_sp I ha hm
  obtain ⟨_, _, L4⟩ := ins_sp I hb' hm
  unfold compareOp
  show wpAny _ _ (richCompare .Eq (.ref a) (.ref b)) _ _ _
  unfold richCompare
  simp only [oneThing_ref]
  refine wpAny_holding ?_
  refine wpAny_bind (wpAny_cRoomFor hr.units0 ?_)
  rw [show cmpInfo .Eq = ("==", Str.ofString "__eq__", Str.ofString "__eq__") from rfl]
  dsimp only
  refine wpAny_bind (L3.here ?_)
  refine wpAny_bind (L4.here ?_)
  rw [show (Value.ref C != Value.ref C) = false from by simp]
  simp only [Bool.false_eq_true, if_false]
  refine wpAny_bind (wpAny_pure ?_)
  simp only [Bool.false_eq_true, if_false]
  unfold tryCompare
  have hx : Passes CX0 X E0 := pass0
  refine wpAny_bind (wpAny_bind (cspB L1 L2 (wpAny_mono (run_fn (us := [.ref a, .ref b]) (vs := [V.ref a, V.ref b]) G hr hb .nil hx I (.cons rfl (.cons rfl .nil)) h) (fun u s' hq => ?_) fun _ _ e => e)))
  obtain ⟨v, H', I', rv, r, rfl, q⟩ := hq
  obtain rfl : u = Value.bool r := rv
  exact wpAny_pure (wpAny_pure ⟨.bl r, H', I', rfl, q⟩)
end
end NS

/-! ### a store in the heap: two lists, and what is told of them -/
namespace NS
open PySem PySem.Spec PyProof.Rows L2 LamX
/-- both lists, one by one -/
inductive All2 {α β : Type} (R : α → β → Prop) : List α → List β → Prop
  | nil : All2 R [] []
  | cons {a : α} {b : β} {as : List α} {bs : List β} (h : R a b) (t : All2 R as bs) : All2 R (a :: as) (b :: bs)
section
variable {α β : Type} {R R' : α → β → Prop} {as as' : List α} {bs bs' : List β} {a : α} {b : β}
theorem All2.len (h : All2 R as bs) : as.length = bs.length := by
  induction h with
  | nil => rfl
  | cons _ _ ih => rw [List.length_cons, List.length_cons, ih]
theorem All2.imp (f : ∀ a b, R a b → R' a b) (h : All2 R as bs) : All2 R' as bs := by
  induction h with
  | nil => exact .nil
  | cons h _ ih => exact .cons (f _ _ h) ih
theorem All2.app (h : All2 R as bs) (g : All2 R as' bs') : All2 R (as ++ as') (bs ++ bs') := by
  induction h with
  | nil => exact g
  | cons h _ ih => exact .cons h ih
theorem All2.snoc (h : All2 R as bs) (g : R a b) : All2 R (as ++ [a]) (bs ++ [b]) := h.app (.cons g .nil)
theorem All2.take (h : All2 R as bs) : ∀ n, All2 R (as.take n) (bs.take n) := by
  induction h with
  | nil =>
    intro n
    rw [List.take_nil, List.take_nil]
    exact .nil
  | cons h _ ih =>
    intro n
    cases n with
    | zero => exact .nil
    | succ n => exact .cons h (ih n)
theorem All2.at_ (h : All2 R as bs) : ∀ {i : Nat} {b : β}, bs[i]? = some b → ∃ a, as[i]? = some a ∧ R a b := by
  induction h with
  | nil =>
    intro i b g
    simp at g
  | @cons a0 b0 as bs h _ ih =>
    intro i b g
    cases i with
    | zero =>
      have : b0 = b := by simpa using g
      subst this
      exact ⟨a0, rfl, h⟩
    | succ i => exact ih (i := i) (by simpa using g)
theorem All2.last (h : All2 R as bs) (g : bs.getLast? = some b) : ∃ a, as.getLast? = some a ∧ R a b := by
  rw [List.getLast?_eq_getElem?] at g ⊢
  rw [h.len]
  exact h.at_ g
theorem All2.drop1 (h : All2 R as bs) : All2 R as.dropLast bs.dropLast := by
  rw [List.dropLast_eq_take, List.dropLast_eq_take, h.len]
  exact h.take _
end
abbrev SSt := List V × List Int
abbrev stF (ls le : Addr) : List (Str × V) := [("states", .ref ls), ("events", .ref le)]
section
variable {K : PySem.W.Frag} {C : Addr} {H H1 H2 H' : Hp} {p ls le a b : Addr} {xs ys zs svs es : List V} {sts : List SSt} {evs : List (Str × Str)} {s : SSt} {v : V} {o : HO} {Ps : List Addr} {nm : Nat → Nat → Str}
def StT (K : PySem.W.Frag) (H : Hp) (v : V) (s : SSt) : Prop := ∃ t p q, v = .ref t ∧ SqT K H t [.ref p, .ref q] ∧ SqT K H p s.1 ∧ SqT K H q (s.2.map V.int)
def EvT (K : PySem.W.Frag) (H : Hp) (v : V) (e : Str × Str) : Prop := ∃ t, v = .ref t ∧ SqT K H t [.str e.1, .str e.2]
/-- the store at p -/
structure SAtX (K : PySem.W.Frag) (C : Addr) (H : Hp) (p ls le : Addr) (dx : Addr) (svs es : List V) (sts : List SSt) (evs : List (Str × Str)) : Prop where
  ins : H p = some (.ins C dx (stF ls le))
  gs : H ls = some (.lst svs)
  ge : H le = some (.lst es)
  ne : ls ≠ le
  ss : All2 (StT K H) svs sts
  ee : All2 (EvT K H) es evs
def SAt (K : PySem.W.Frag) (C : Addr) (H : Hp) (p ls le : Addr) (sts : List SSt) (evs : List (Str × Str)) : Prop := ∃ dx svs es, SAtX K C H p ls le dx svs es sts evs
/-- all but the two lists and the tables stays -/
def StayS (ls le : Addr) (H H' : Hp) : Prop := ∀ b o, b ≠ ls → b ≠ le → H b = some o → (∀ ps, o ≠ .tbl ps) → H' b = some o
theorem StayS.trans (a : StayS ls le H H1) (b : StayS ls le H1 H2) : StayS ls le H H2 := fun c o n m h t => b c o n m (a c o n m h t) t
theorem StayS.of (e : ExtN H H') : StayS ls le H H' := fun b o _ _ h t => e b o h t
theorem StayS.refl (H : Hp) : StayS ls le H H := fun _ _ _ _ h _ => h
theorem StayS.atS (o : HO) : StayS ls le H (upd H ls o) := fun b u n m h t => by
  rw [upd_ne n]
  exact h
theorem StayS.atE (o : HO) : StayS ls le H (upd H le o) := fun b u n m h t => by
  rw [upd_ne m]
  exact h
theorem StayS.free (h : StayS ls le H H') (n : H' a = none) (n1 : a ≠ ls) (n2 : a ≠ le) : (∃ ps, H a = some (.tbl ps)) ∨ H a = none := by
  cases q : H a with
  | none => exact .inr rfl
  | some o =>
    refine .inl ?_
    false_or_by_contra
    rename_i hh
    have := h a o n1 n2 q fun ps z => hh ⟨ps, by rw [z]⟩
    rw [n] at this
    cases this
theorem stayS_tup (e : StayS ls le H H') (h1 : H ls = some (.lst xs)) (h2 : H le = some (.lst ys)) (h : SqT K H a zs) : SqT K H' a zs := by
  rcases h with (h | ⟨o, h⟩) | h
  · exact .inl (.inl (e _ _ (fun z => by rw [z, h1] at h; cases h) (fun z => by rw [z, h2] at h; cases h) h (fun ps z => nomatch z)))
  · exact .inl (.inr ⟨o, e _ _ (fun z => by rw [z, h1] at h; cases h) (fun z => by rw [z, h2] at h; cases h) h (fun ps z => nomatch z)⟩)
  · exact .inr h
theorem StT.stay (e : StayS ls le H H') (h1 : H ls = some (.lst xs)) (h2 : H le = some (.lst ys)) (h : StT K H v s) : StT K H' v s := by
  obtain ⟨t, p, q, rfl, a1, a2, a3⟩ := h
  exact ⟨t, p, q, rfl, stayS_tup e h1 h2 a1, stayS_tup e h1 h2 a2, stayS_tup e h1 h2 a3⟩
theorem EvT.stay {ev : Str × Str} (e : StayS ls le H H') (h1 : H ls = some (.lst xs)) (h2 : H le = some (.lst ys)) (h : EvT K H v ev) : EvT K H' v ev := by
  obtain ⟨t, rfl, a1⟩ := h
  exact ⟨t, rfl, stayS_tup e h1 h2 a1⟩
theorem StT.ext (e : ExtN H H') (h : StT K H v s) : StT K H' v s := by
  obtain ⟨t, p, q, rfl, a1, a2, a3⟩ := h
  exact ⟨t, p, q, rfl, ExtN.tup e a1, ExtN.tup e a2, ExtN.tup e a3⟩
theorem EvT.ext {ev : Str × Str} (e : ExtN H H') (h : EvT K H v ev) : EvT K H' v ev := by
  obtain ⟨t, rfl, a1⟩ := h
  exact ⟨t, rfl, ExtN.tup e a1⟩
variable {dx : Addr}
theorem SAtX.ext (h : SAtX K C H p ls le dx svs es sts evs) (e : ExtN H H') : SAtX K C H' p ls le dx svs es sts evs :=
  ⟨e _ _ h.ins (fun ps z => nomatch z), ext_lst e h.gs, ext_lst e h.ge, h.ne, h.ss.imp fun _ _ => StT.ext e, h.ee.imp fun _ _ => EvT.ext e⟩
theorem SAt.ext (h : SAt K C H p ls le sts evs) (e : ExtN H H') : SAt K C H' p ls le sts evs := by
  obtain ⟨dx, svs, es, h⟩ := h
  exact ⟨dx, svs, es, h.ext e⟩
theorem SAtX.pls (h : SAtX K C H p ls le dx svs es sts evs) : p ≠ ls := fun z => by
  have := h.ins
  rw [z, h.gs] at this
  cases this
theorem SAtX.ple (h : SAtX K C H p ls le dx svs es sts evs) : p ≠ le := fun z => by
  have := h.ins
  rw [z, h.ge] at this
  cases this
/-- the two lists are others now -/
theorem SAtX.stay {svs' es' : List V} {sts' : List SSt} {evs' : List (Str × Str)} (h : SAtX K C H p ls le dx svs es sts evs) (e : StayS ls le H H') (gs : H' ls = some (.lst svs')) (ge : H' le = some (.lst es')) (ss : All2 (StT K H') svs' sts') (ee : All2 (EvT K H') es' evs') : SAtX K C H' p ls le dx svs' es' sts' evs' :=
  ⟨e _ _ h.pls h.ple h.ins (fun ps z => nomatch z), gs, ge, h.ne, ss, ee⟩
theorem SAtX.pushS (h : SAtX K C H p ls le dx svs es sts evs) (hv : StT K H v s) : SAtX K C (upd H ls (.lst (svs ++ [v]))) p ls le dx (svs ++ [v]) es (sts ++ [s]) evs := by
  have e : StayS ls le H (upd H ls (.lst (svs ++ [v]))) := .atS _
  exact h.stay e upd_same ((upd_ne h.ne.symm).trans h.ge) ((h.ss.snoc hv).imp fun _ _ => StT.stay e h.gs h.ge) (h.ee.imp fun _ _ => EvT.stay e h.gs h.ge)
theorem SAtX.popS (h : SAtX K C H p ls le dx svs es sts evs) : SAtX K C (upd H ls (.lst svs.dropLast)) p ls le dx svs.dropLast es sts.dropLast evs := by
  have e : StayS ls le H (upd H ls (.lst svs.dropLast)) := .atS _
  exact h.stay e upd_same ((upd_ne h.ne.symm).trans h.ge) (h.ss.drop1.imp fun _ _ => StT.stay e h.gs h.ge) (h.ee.imp fun _ _ => EvT.stay e h.gs h.ge)
theorem SAtX.pushE {ev : Str × Str} (h : SAtX K C H p ls le dx svs es sts evs) (hv : EvT K H v ev) : SAtX K C (upd H le (.lst (es ++ [v]))) p ls le dx svs (es ++ [v]) sts (evs ++ [ev]) := by
  have e : StayS ls le H (upd H le (.lst (es ++ [v]))) := .atE _
  exact h.stay e ((upd_ne h.ne).trans h.gs) upd_same (h.ss.imp fun _ _ => StT.stay e h.gs h.ge) ((h.ee.snoc hv).imp fun _ _ => EvT.stay e h.gs h.ge)
/-- what stands beside a store -/
theorem SAt.ltup (h : SAt K C H p ls le sts evs) (e : StayS ls le H H') (g : SqT K H a xs) : SqT K H' a xs := by
  obtain ⟨dx, svs, es, h⟩ := h
  exact stayS_tup e h.gs h.ge g
theorem SAt.nls (h : SAt K C H p ls le sts evs) (n : H a = none) : a ≠ ls ∧ a ≠ le := by
  obtain ⟨dx, svs, es, h⟩ := h
  have h1 := h.gs
  have h2 := h.ge
  exact ⟨(fun z => by rw [z, h1] at n; cases n), (fun z => by rw [z, h2] at n; cases n)⟩
end
theorem ins_tup {K : PySem.W.Frag} {H H' : Hp} {x a C dx : Addr} {fs : List (Str × V)} {zs : List V} (e : ∀ b o, b ≠ x → H b = some o → H' b = some o) (hx : H x = some (.ins C dx fs)) (h : SqT K H a zs) : SqT K H' a zs := by
  rcases h with (h | ⟨o, h⟩) | h
  · exact .inl (.inl (e _ _ (fun z => by rw [z, hx] at h; cases h) h))
  · exact .inl (.inr ⟨o, e _ _ (fun z => by rw [z, hx] at h; cases h) h⟩)
  · exact .inr h
/-- a store just made -/
theorem sat_new {K : PySem.W.Frag} {H : Hp} {x C dx p5 p6 : Addr} {f0 f1 : List (Str × V)} {svs : List V} {sts : List SSt} (gx : H x = some (.ins C dx f0)) (g5 : H p5 = some (.lst svs)) (st : All2 (StT K H) svs sts) (n6 : (upd H x (.ins C dx f1)) p6 = none) : SAt K C (upd (upd (upd H x (.ins C dx f1)) p6 (.lst [])) x (.ins C dx (stF p5 p6))) x p5 p6 sts [] := by
  have n6x : p6 ≠ x := fun z => by rw [z, upd_same] at n6; cases n6
  have keep : ∀ b o, b ≠ x → H b = some o → (upd (upd (upd H x (.ins C dx f1)) p6 (.lst [])) x (.ins C dx (stF p5 p6))) b = some o := fun b o nb hb => by
    rw [upd_ne nb, upd_ne (fun z => by rw [z, ← upd_ne (H := H) (o := .ins C dx f1) n6x, n6] at hb; cases hb), upd_ne nb]
    exact hb
  have n5x : p5 ≠ x := fun z => by rw [z, gx] at g5; cases g5
  refine ⟨dx, svs, [], upd_same, keep _ _ n5x g5, ?_, fun z => ?_, st.imp fun v s h => ?_, .nil⟩
  · rw [upd_ne n6x, upd_same]
  · rw [← z, upd_ne n5x, g5] at n6
    cases n6
  · obtain ⟨t, p, q, rfl, a1, a2, a3⟩ := h
    exact ⟨t, p, q, rfl, ins_tup keep gx a1, ins_tup keep gx a2, ins_tup keep gx a3⟩
theorem atI_lastQ {xs : List V} {v : V} (h : xs.getLast? = some v) : atI xs (-1) = some v := by
  obtain ⟨ys, rfl⟩ := List.getLast?_eq_some_iff.mp h
  exact atI_last ys v
end NS

namespace NS
open PySem L2
def top (i : Nat) : Stmt := PySem.Challenge.pw_nearslot_k38_a_known_store.main.body.getD i (.Pass ⟨0, 0, 0, 0⟩)
abbrev s_nearness : Stmt := top 11
abbrev s_needs : Stmt := top 12
abbrev s_nearest : Stmt := top 13
abbrev s_put_into : Stmt := top 14
abbrev s_taken_cells : Stmt := top 16
abbrev s_needed_cells : Stmt := top 17
abbrev s_first_gap : Stmt := top 18
abbrev s_need_one_another : Stmt := top 19
abbrev s_first_both : Stmt := top 20
abbrev s_possible : Stmt := top 21
abbrev s_require_object : Stmt := top 22
abbrev s_comes_after_needed : Stmt := top 23
abbrev s_first_misfit : Stmt := top 24
abbrev s_choose : Stmt := top 26
abbrev s_span : Stmt := top 27
abbrev s_spans_of : Stmt := top 28
abbrev s_within_part : Stmt := top 29
abbrev s_lasts : Stmt := top 30
abbrev s_count_with_last : Stmt := top 31
abbrev s_parts_of : Stmt := top 32
abbrev s_part_counts : Stmt := top 33
abbrev s_count_between : Stmt := top 34
abbrev s_count_rest : Stmt := top 35
abbrev s_starts_order : Stmt := top 36
abbrev s_count_orders : Stmt := top 37
abbrev s_count_after : Stmt := top 38
abbrev s_needed_by : Stmt := top 40
abbrev s_left : Stmt := top 41
abbrev s_wish_choices : Stmt := top 43
abbrev s_choice_spans : Stmt := top 44
abbrev s_histories_of_part : Stmt := top 45
abbrev s_count_histories : Stmt := top 46
abbrev s_with_wish : Stmt := top 47
abbrev s_law_source : Stmt := top 51
abbrev s_law_equal : Stmt := top 52
abbrev s_law_failed : Stmt := top 53
abbrev s_law_result : Stmt := top 54
abbrev s_law_perform : Stmt := top 55
abbrev s_law_holds : Stmt := top 56
abbrev s_law : Stmt := top 57
abbrev s_Impossible_init : Stmt := inClass (PySem.Challenge.pw_nearslot_k38_a_known_store.main.body.getD 2 (.Pass ⟨0, 0, 0, 0⟩)) 0
abbrev s_NoObject_init : Stmt := inClass (PySem.Challenge.pw_nearslot_k38_a_known_store.main.body.getD 3 (.Pass ⟨0, 0, 0, 0⟩)) 0
abbrev s_NoState_init : Stmt := inClass (PySem.Challenge.pw_nearslot_k38_a_known_store.main.body.getD 4 (.Pass ⟨0, 0, 0, 0⟩)) 0
abbrev s_NoWay_init : Stmt := inClass (PySem.Challenge.pw_nearslot_k38_a_known_store.main.body.getD 5 (.Pass ⟨0, 0, 0, 0⟩)) 0
abbrev s_Needed_init : Stmt := inClass (PySem.Challenge.pw_nearslot_k38_a_known_store.main.body.getD 6 (.Pass ⟨0, 0, 0, 0⟩)) 0
abbrev s_TooMany_init : Stmt := inClass (PySem.Challenge.pw_nearslot_k38_a_known_store.main.body.getD 7 (.Pass ⟨0, 0, 0, 0⟩)) 0
abbrev s_Full_init : Stmt := inClass (PySem.Challenge.pw_nearslot_k38_a_known_store.main.body.getD 8 (.Pass ⟨0, 0, 0, 0⟩)) 0
abbrev s_Store___init__ : Stmt := inClass (PySem.Challenge.pw_nearslot_k38_a_known_store.main.body.getD 49 (.Pass ⟨0, 0, 0, 0⟩)) 0
abbrev s_Store_put_in : Stmt := inClass (PySem.Challenge.pw_nearslot_k38_a_known_store.main.body.getD 49 (.Pass ⟨0, 0, 0, 0⟩)) 1
abbrev s_Store_put : Stmt := inClass (PySem.Challenge.pw_nearslot_k38_a_known_store.main.body.getD 49 (.Pass ⟨0, 0, 0, 0⟩)) 2
abbrev s_Store_put_all : Stmt := inClass (PySem.Challenge.pw_nearslot_k38_a_known_store.main.body.getD 49 (.Pass ⟨0, 0, 0, 0⟩)) 3
abbrev s_Store_take_out : Stmt := inClass (PySem.Challenge.pw_nearslot_k38_a_known_store.main.body.getD 49 (.Pass ⟨0, 0, 0, 0⟩)) 4
abbrev s_Store_forget : Stmt := inClass (PySem.Challenge.pw_nearslot_k38_a_known_store.main.body.getD 49 (.Pass ⟨0, 0, 0, 0⟩)) 5
abbrev s_Store_undo : Stmt := inClass (PySem.Challenge.pw_nearslot_k38_a_known_store.main.body.getD 49 (.Pass ⟨0, 0, 0, 0⟩)) 6
abbrev s_Store_table : Stmt := inClass (PySem.Challenge.pw_nearslot_k38_a_known_store.main.body.getD 49 (.Pass ⟨0, 0, 0, 0⟩)) 7
abbrev s_Store_order : Stmt := inClass (PySem.Challenge.pw_nearslot_k38_a_known_store.main.body.getD 49 (.Pass ⟨0, 0, 0, 0⟩)) 8
abbrev s_Store_count : Stmt := inClass (PySem.Challenge.pw_nearslot_k38_a_known_store.main.body.getD 49 (.Pass ⟨0, 0, 0, 0⟩)) 9
abbrev s_Store_histories : Stmt := inClass (PySem.Challenge.pw_nearslot_k38_a_known_store.main.body.getD 49 (.Pass ⟨0, 0, 0, 0⟩)) 10
abbrev s_Store_operations : Stmt := inClass (PySem.Challenge.pw_nearslot_k38_a_known_store.main.body.getD 49 (.Pass ⟨0, 0, 0, 0⟩)) 11
abbrev s_Store_journal : Stmt := inClass (PySem.Challenge.pw_nearslot_k38_a_known_store.main.body.getD 49 (.Pass ⟨0, 0, 0, 0⟩)) 12
abbrev s_Store_as_of : Stmt := inClass (PySem.Challenge.pw_nearslot_k38_a_known_store.main.body.getD 49 (.Pass ⟨0, 0, 0, 0⟩)) 13
abbrev s_Store___eq__ : Stmt := inClass (PySem.Challenge.pw_nearslot_k38_a_known_store.main.body.getD 49 (.Pass ⟨0, 0, 0, 0⟩)) 15
abbrev s_Store___len__ : Stmt := inClass (PySem.Challenge.pw_nearslot_k38_a_known_store.main.body.getD 49 (.Pass ⟨0, 0, 0, 0⟩)) 16
abbrev s_Store___repr__ : Stmt := inClass (PySem.Challenge.pw_nearslot_k38_a_known_store.main.body.getD 49 (.Pass ⟨0, 0, 0, 0⟩)) 17
def nmL (l c : Nat) : Str := if l = 50 ∧ c = 25 then "nearest.<locals>.<lambda>" else if l = 291 ∧ c = 27 then "_law_perform.<locals>.<lambda>" else if l = 294 ∧ c = 27 then "_law_perform.<locals>.<lambda>" else if l = 296 ∧ c = 27 then "_law_perform.<locals>.<lambda>" else if l = 297 ∧ c = 23 then "_law_perform.<locals>.<lambda>" else ""

theorem sc_nearness : FnScope ["cell", "wish"] ["cell", "wish"] (defScope s_nearness) := ⟨rfl, rfl, rfl, by decide +kernel, rfl, by decide +kernel, by decide +kernel⟩
theorem sc_needs : FnScope ["size", "cell", "wish", "own", "other"] ["size", "cell", "wish"] (defScope s_needs) := ⟨rfl, rfl, rfl, by decide +kernel, rfl, by decide +kernel, by decide +kernel⟩
theorem sc_nearest : FnScope ["table", "wish", "free", "cell", "entry"] ["table", "wish"] (defScope s_nearest) := ⟨rfl, rfl, rfl, by decide +kernel, rfl, by decide +kernel, by decide +kernel⟩
theorem sc_put_into : FnScope ["table", "wishes", "row", "cells", "wish", "cell"] ["table", "wishes"] (defScope s_put_into) := ⟨rfl, rfl, rfl, by decide +kernel, rfl, by decide +kernel, by decide +kernel⟩
theorem sc_taken_cells : FnScope ["table", "cell", "entry"] ["table"] (defScope s_taken_cells) := ⟨rfl, rfl, rfl, by decide +kernel, rfl, by decide +kernel, by decide +kernel⟩
theorem sc_needed_cells : FnScope ["table", "cell", "wish"] ["table", "cell"] (defScope s_needed_cells) := ⟨rfl, rfl, rfl, by decide +kernel, rfl, by decide +kernel, by decide +kernel⟩
theorem sc_first_gap : FnScope ["table", "cell", "needed"] ["table"] (defScope s_first_gap) := ⟨rfl, rfl, rfl, by decide +kernel, rfl, by decide +kernel, by decide +kernel⟩
theorem sc_need_one_another : FnScope ["table", "one", "other"] ["table", "one", "other"] (defScope s_need_one_another) := ⟨rfl, rfl, rfl, by decide +kernel, rfl, by decide +kernel, by decide +kernel⟩
theorem sc_first_both : FnScope ["table", "one", "other"] ["table"] (defScope s_first_both) := ⟨rfl, rfl, rfl, by decide +kernel, rfl, by decide +kernel, by decide +kernel⟩
theorem sc_possible : FnScope ["table"] ["table"] (defScope s_possible) := ⟨rfl, rfl, rfl, by decide +kernel, rfl, by decide +kernel, by decide +kernel⟩
theorem sc_require_object : FnScope ["table", "cell"] ["table", "cell"] (defScope s_require_object) := ⟨rfl, rfl, rfl, by decide +kernel, rfl, by decide +kernel, by decide +kernel⟩
theorem sc_comes_after_needed : FnScope ["table", "cell", "came", "needed"] ["table", "cell", "came"] (defScope s_comes_after_needed) := ⟨rfl, rfl, rfl, by decide +kernel, rfl, by decide +kernel, by decide +kernel⟩
theorem sc_first_misfit : FnScope ["table", "cells", "place", "cell"] ["table", "cells"] (defScope s_first_misfit) := ⟨rfl, rfl, rfl, by decide +kernel, rfl, by decide +kernel, by decide +kernel⟩
theorem sc_choose : FnScope ["many", "some", "ways", "at"] ["many", "some"] (defScope s_choose) := ⟨rfl, rfl, rfl, by decide +kernel, rfl, by decide +kernel, by decide +kernel⟩
theorem sc_span : FnScope ["table", "rest", "at", "needed", "within", "place", "cell"] ["table", "rest", "at"] (defScope s_span) := ⟨rfl, rfl, rfl, by decide +kernel, rfl, by decide +kernel, by decide +kernel⟩
theorem sc_spans_of : FnScope ["table", "rest", "at"] ["table", "rest"] (defScope s_spans_of) := ⟨rfl, rfl, rfl, by decide +kernel, rfl, by decide +kernel, by decide +kernel⟩
theorem sc_within_part : FnScope ["own", "first", "end"] ["own", "first", "end"] (defScope s_within_part) := ⟨rfl, rfl, rfl, by decide +kernel, rfl, by decide +kernel, by decide +kernel⟩
theorem sc_lasts : FnScope ["spans", "first", "end", "at"] ["spans", "first", "end"] (defScope s_lasts) := ⟨rfl, rfl, rfl, by decide +kernel, rfl, by decide +kernel, by decide +kernel⟩
theorem sc_count_with_last : FnScope ["counts", "first", "last", "end"] ["counts", "first", "last", "end"] (defScope s_count_with_last) := ⟨rfl, rfl, rfl, by decide +kernel, rfl, by decide +kernel, by decide +kernel⟩
theorem sc_parts_of : FnScope ["many", "size", "first"] ["many"] (defScope s_parts_of) := ⟨rfl, rfl, rfl, by decide +kernel, rfl, by decide +kernel, by decide +kernel⟩
theorem sc_part_counts : FnScope ["spans", "counts", "first", "end", "at"] ["spans"] (defScope s_part_counts) := ⟨rfl, rfl, rfl, by decide +kernel, rfl, by decide +kernel, by decide +kernel⟩
theorem sc_count_between : FnScope ["table", "came", "cells", "rest", "cell"] ["table", "came", "cells"] (defScope s_count_between) := ⟨rfl, rfl, rfl, by decide +kernel, rfl, by decide +kernel, by decide +kernel⟩
theorem sc_count_rest : FnScope ["table", "came"] ["table", "came"] (defScope s_count_rest) := ⟨rfl, rfl, rfl, by decide +kernel, rfl, by decide +kernel, by decide +kernel⟩
theorem sc_starts_order : FnScope ["table", "cells"] ["table", "cells"] (defScope s_starts_order) := ⟨rfl, rfl, rfl, by decide +kernel, rfl, by decide +kernel, by decide +kernel⟩
theorem sc_count_orders : FnScope ["table"] ["table"] (defScope s_count_orders) := ⟨rfl, rfl, rfl, by decide +kernel, rfl, by decide +kernel, by decide +kernel⟩
theorem sc_count_after : FnScope ["table", "beginning"] ["table", "beginning"] (defScope s_count_after) := ⟨rfl, rfl, rfl, by decide +kernel, rfl, by decide +kernel, by decide +kernel⟩
theorem sc_needed_by : FnScope ["table", "cell", "other"] ["table", "cell"] (defScope s_needed_by) := ⟨rfl, rfl, rfl, by decide +kernel, rfl, by decide +kernel, by decide +kernel⟩
theorem sc_left : FnScope ["table", "cell", "place", "entry"] ["table", "cell"] (defScope s_left) := ⟨rfl, rfl, rfl, by decide +kernel, rfl, by decide +kernel, by decide +kernel⟩
theorem sc_wish_choices : FnScope ["table", "cell"] ["table", "cell"] (defScope s_wish_choices) := ⟨rfl, rfl, rfl, by decide +kernel, rfl, by decide +kernel, by decide +kernel⟩
theorem sc_choice_spans : FnScope ["table", "row", "at", "spans", "wish", "known", "needed"] ["table", "row", "at"] (defScope s_choice_spans) := ⟨rfl, rfl, rfl, by decide +kernel, rfl, by decide +kernel, by decide +kernel⟩
theorem sc_histories_of_part : FnScope ["choices", "counts", "first", "end", "total", "last", "wishes", "own"] ["choices", "counts", "first", "end"] (defScope s_histories_of_part) := ⟨rfl, rfl, rfl, by decide +kernel, rfl, by decide +kernel, by decide +kernel⟩
theorem sc_count_histories : FnScope ["table", "row", "choices", "counts", "first", "end", "at"] ["table"] (defScope s_count_histories) := ⟨rfl, rfl, rfl, by decide +kernel, rfl, by decide +kernel, by decide +kernel⟩
theorem sc_with_wish : FnScope ["table", "cell", "wish", "place", "entry"] ["table", "cell", "wish"] (defScope s_with_wish) := ⟨rfl, rfl, rfl, by decide +kernel, rfl, by decide +kernel, by decide +kernel⟩
theorem sc_law_source : FnScope ["_law_script", "_law_index", "_law_core"] ["_law_script", "_law_index"] (defScope s_law_source) := ⟨rfl, rfl, rfl, by decide +kernel, rfl, by decide +kernel, by decide +kernel⟩
theorem sc_law_equal : FnScope ["_law_found", "_law_due", "_law_lone", "_law_mate"] ["_law_found", "_law_due"] (defScope s_law_equal) := ⟨rfl, rfl, rfl, by decide +kernel, rfl, by decide +kernel, by decide +kernel⟩
theorem sc_law_failed : FnScope ["_law_caught", "_law_some", "_law_bases"] ["_law_caught"] (defScope s_law_failed) := ⟨rfl, rfl, rfl, by decide +kernel, rfl, by decide +kernel, by decide +kernel⟩
theorem sc_law_result : FnScope ["_law_work", "_law_found", "_law_caught", "error"] ["_law_work"] (defScope s_law_result) := ⟨rfl, rfl, rfl, by decide +kernel, rfl, by decide +kernel, by decide +kernel⟩
theorem sc_law_perform : FnScope ["_law_store", "_law_work", "_law_handed"] ["_law_store", "_law_work"] (defScope s_law_perform) := ⟨rfl, rfl, rfl, by decide +kernel, rfl, by decide +kernel, by decide +kernel⟩
theorem sc_law_holds : FnScope ["_law_source_here", "_law_store", "_law_told", "_law_works", "_law_due", "_law_names", "_law_name", "_law_work"] ["_law_source_here"] (defScope s_law_holds) := ⟨rfl, rfl, rfl, by decide +kernel, rfl, by decide +kernel, by decide +kernel⟩
theorem sc_law : FnScope ["_law_script", "_law_index"] ["_law_script"] (defScope s_law) := ⟨rfl, rfl, rfl, by decide +kernel, rfl, by decide +kernel, by decide +kernel⟩
theorem sc_Store___init__ : FnScope ["self", "size"] ["self", "size"] (defScope s_Store___init__) := ⟨rfl, rfl, rfl, by decide +kernel, rfl, by decide +kernel, by decide +kernel⟩
theorem sc_Store_put_in : FnScope ["self", "wishes", "table", "cells"] ["self", "wishes"] (defScope s_Store_put_in) := ⟨rfl, rfl, rfl, by decide +kernel, rfl, by decide +kernel, by decide +kernel⟩
theorem sc_Store_put : FnScope ["self", "wish"] ["self", "wish"] (defScope s_Store_put) := ⟨rfl, rfl, rfl, by decide +kernel, rfl, by decide +kernel, by decide +kernel⟩
theorem sc_Store_put_all : FnScope ["self", "wishes"] ["self", "wishes"] (defScope s_Store_put_all) := ⟨rfl, rfl, rfl, by decide +kernel, rfl, by decide +kernel, by decide +kernel⟩
theorem sc_Store_take_out : FnScope ["self", "cell", "table", "other"] ["self", "cell"] (defScope s_Store_take_out) := ⟨rfl, rfl, rfl, by decide +kernel, rfl, by decide +kernel, by decide +kernel⟩
theorem sc_Store_forget : FnScope ["self", "cell", "table"] ["self", "cell"] (defScope s_Store_forget) := ⟨rfl, rfl, rfl, by decide +kernel, rfl, by decide +kernel, by decide +kernel⟩
theorem sc_Store_undo : FnScope ["self"] ["self"] (defScope s_Store_undo) := ⟨rfl, rfl, rfl, by decide +kernel, rfl, by decide +kernel, by decide +kernel⟩
theorem sc_Store_table : FnScope ["self"] ["self"] (defScope s_Store_table) := ⟨rfl, rfl, rfl, by decide +kernel, rfl, by decide +kernel, by decide +kernel⟩
theorem sc_Store_order : FnScope ["self"] ["self"] (defScope s_Store_order) := ⟨rfl, rfl, rfl, by decide +kernel, rfl, by decide +kernel, by decide +kernel⟩
theorem sc_Store_count : FnScope ["self"] ["self"] (defScope s_Store_count) := ⟨rfl, rfl, rfl, by decide +kernel, rfl, by decide +kernel, by decide +kernel⟩
theorem sc_Store_histories : FnScope ["self"] ["self"] (defScope s_Store_histories) := ⟨rfl, rfl, rfl, by decide +kernel, rfl, by decide +kernel, by decide +kernel⟩
theorem sc_Store_operations : FnScope ["self"] ["self"] (defScope s_Store_operations) := ⟨rfl, rfl, rfl, by decide +kernel, rfl, by decide +kernel, by decide +kernel⟩
theorem sc_Store_journal : FnScope ["self"] ["self"] (defScope s_Store_journal) := ⟨rfl, rfl, rfl, by decide +kernel, rfl, by decide +kernel, by decide +kernel⟩
theorem sc_Store_as_of : FnScope ["self", "many", "other"] ["self", "many"] (defScope s_Store_as_of) := ⟨rfl, rfl, rfl, by decide +kernel, rfl, by decide +kernel, by decide +kernel⟩
theorem sc_Store___eq__ : FnScope ["self", "other"] ["self", "other"] (defScope s_Store___eq__) := ⟨rfl, rfl, rfl, by decide +kernel, rfl, by decide +kernel, by decide +kernel⟩
theorem sc_Store___len__ : FnScope ["self"] ["self"] (defScope s_Store___len__) := ⟨rfl, rfl, rfl, by decide +kernel, rfl, by decide +kernel, by decide +kernel⟩
theorem sc_Store___repr__ : FnScope ["self"] ["self"] (defScope s_Store___repr__) := ⟨rfl, rfl, rfl, by decide +kernel, rfl, by decide +kernel, by decide +kernel⟩
theorem sc_Impossible_init : FnScope ["self"] ["self"] (defScope s_Impossible_init) := ⟨rfl, rfl, rfl, by decide +kernel, rfl, by decide +kernel, by decide +kernel⟩
theorem sc_NoObject_init : FnScope ["self", "cell"] ["self", "cell"] (defScope s_NoObject_init) := ⟨rfl, rfl, rfl, by decide +kernel, rfl, by decide +kernel, by decide +kernel⟩
theorem sc_NoState_init : FnScope ["self", "many"] ["self", "many"] (defScope s_NoState_init) := ⟨rfl, rfl, rfl, by decide +kernel, rfl, by decide +kernel, by decide +kernel⟩
theorem sc_NoWay_init : FnScope ["self", "place"] ["self", "place"] (defScope s_NoWay_init) := ⟨rfl, rfl, rfl, by decide +kernel, rfl, by decide +kernel, by decide +kernel⟩
theorem sc_Needed_init : FnScope ["self", "cell"] ["self", "cell"] (defScope s_Needed_init) := ⟨rfl, rfl, rfl, by decide +kernel, rfl, by decide +kernel, by decide +kernel⟩
theorem sc_TooMany_init : FnScope ["self", "many"] ["self", "many"] (defScope s_TooMany_init) := ⟨rfl, rfl, rfl, by decide +kernel, rfl, by decide +kernel, by decide +kernel⟩
theorem sc_Full_init : FnScope ["self", "many"] ["self", "many"] (defScope s_Full_init) := ⟨rfl, rfl, rfl, by decide +kernel, rfl, by decide +kernel, by decide +kernel⟩


structure Bt (mg : Str → Option Value) : Prop where
  LookupError : mg "LookupError" = none
  OverflowError : mg "OverflowError" = none
  RuntimeError : mg "RuntimeError" = none
  ValueError : mg "ValueError" = none
  abs : mg "abs" = none
  all : mg "all" = none
  bool : mg "bool" = none
  enumerate : mg "enumerate" = none
  int : mg "int" = none
  isinstance : mg "isinstance" = none
  len : mg "len" = none
  list : mg "list" = none
  max : mg "max" = none
  min : mg "min" = none
  range : mg "range" = none
  repr : mg "repr" = none
  str : mg "str" = none
  sum : mg "sum" = none
  tuple : mg "tuple" = none
  zip : mg "zip" = none
  c_UNKNOWN : ∃ t, mg "UNKNOWN" = some (Value.str "?" t)
structure Er (K : PySem.W.Frag) (mg : Str → Option Value) where
  C_Impossible : Addr
  f_Impossible : Addr
  fd_Impossible : FuncData
  E_Impossible : ErrC K mg "Impossible" "ValueError.__new__" (tlV "ValueError") "zz" C_Impossible
  I_Impossible : ErrI K C_Impossible "Impossible.__init__" s_Impossible_init ["self"] f_Impossible fd_Impossible
  C_NoObject : Addr
  f_NoObject : Addr
  fd_NoObject : FuncData
  E_NoObject : ErrC K mg "NoObject" "LookupError.__new__" (tlV "LookupError") "cell" C_NoObject
  I_NoObject : ErrI K C_NoObject "NoObject.__init__" s_NoObject_init ["self", "cell"] f_NoObject fd_NoObject
  C_NoState : Addr
  f_NoState : Addr
  fd_NoState : FuncData
  E_NoState : ErrC K mg "NoState" "LookupError.__new__" (tlV "LookupError") "many" C_NoState
  I_NoState : ErrI K C_NoState "NoState.__init__" s_NoState_init ["self", "many"] f_NoState fd_NoState
  C_NoWay : Addr
  f_NoWay : Addr
  fd_NoWay : FuncData
  E_NoWay : ErrC K mg "NoWay" "RuntimeError.__new__" (tlV "RuntimeError") "place" C_NoWay
  I_NoWay : ErrI K C_NoWay "NoWay.__init__" s_NoWay_init ["self", "place"] f_NoWay fd_NoWay
  C_Needed : Addr
  f_Needed : Addr
  fd_Needed : FuncData
  E_Needed : ErrC K mg "Needed" "RuntimeError.__new__" (tlV "RuntimeError") "cell" C_Needed
  I_Needed : ErrI K C_Needed "Needed.__init__" s_Needed_init ["self", "cell"] f_Needed fd_Needed
  C_TooMany : Addr
  f_TooMany : Addr
  fd_TooMany : FuncData
  E_TooMany : ErrC K mg "TooMany" "OverflowError.__new__" (tlA "OverflowError") "many" C_TooMany
  I_TooMany : ErrI K C_TooMany "TooMany.__init__" s_TooMany_init ["self", "many"] f_TooMany fd_TooMany
  C_Full : Addr
  f_Full : Addr
  fd_Full : FuncData
  E_Full : ErrC K mg "Full" "OverflowError.__new__" (tlA "OverflowError") "many" C_Full
  I_Full : ErrI K C_Full "Full.__init__" s_Full_init ["self", "many"] f_Full fd_Full
  k_Impossible_Impossible : PySem.W.kitOne K (.ref C_Impossible) (.ref C_Impossible) = some true
  k_Impossible_NoObject : PySem.W.kitOne K (.ref C_Impossible) (.ref C_NoObject) = some false
  k_Impossible_NoState : PySem.W.kitOne K (.ref C_Impossible) (.ref C_NoState) = some false
  k_Impossible_TooMany : PySem.W.kitOne K (.ref C_Impossible) (.ref C_TooMany) = some false
  k_Impossible_ValueError : PySem.W.kitOne K (.ref C_Impossible) (.type "ValueError") = some true
  k_Impossible_LookupError : PySem.W.kitOne K (.ref C_Impossible) (.type "LookupError") = some false
  k_Impossible_RuntimeError : PySem.W.kitOne K (.ref C_Impossible) (.type "RuntimeError") = some false
  k_Impossible_OverflowError : PySem.W.kitOne K (.ref C_Impossible) (.type "OverflowError") = some false
  k_Impossible_Needed : PySem.W.kitOne K (.ref C_Impossible) (.ref C_Needed) = some false
  k_Impossible_NoWay : PySem.W.kitOne K (.ref C_Impossible) (.ref C_NoWay) = some false
  k_Impossible_Full : PySem.W.kitOne K (.ref C_Impossible) (.ref C_Full) = some false
  x0_Impossible : PySem.W.exmAny K (.ref C_Impossible) [.ref C_Full, .ref C_Impossible, .ref C_Needed, .ref C_NoObject, .ref C_NoState, .ref C_NoWay, .ref C_TooMany] = some true
  k_NoObject_Impossible : PySem.W.kitOne K (.ref C_NoObject) (.ref C_Impossible) = some false
  k_NoObject_NoObject : PySem.W.kitOne K (.ref C_NoObject) (.ref C_NoObject) = some true
  k_NoObject_NoState : PySem.W.kitOne K (.ref C_NoObject) (.ref C_NoState) = some false
  k_NoObject_TooMany : PySem.W.kitOne K (.ref C_NoObject) (.ref C_TooMany) = some false
  k_NoObject_ValueError : PySem.W.kitOne K (.ref C_NoObject) (.type "ValueError") = some false
  k_NoObject_LookupError : PySem.W.kitOne K (.ref C_NoObject) (.type "LookupError") = some true
  k_NoObject_RuntimeError : PySem.W.kitOne K (.ref C_NoObject) (.type "RuntimeError") = some false
  k_NoObject_OverflowError : PySem.W.kitOne K (.ref C_NoObject) (.type "OverflowError") = some false
  k_NoObject_Needed : PySem.W.kitOne K (.ref C_NoObject) (.ref C_Needed) = some false
  k_NoObject_NoWay : PySem.W.kitOne K (.ref C_NoObject) (.ref C_NoWay) = some false
  k_NoObject_Full : PySem.W.kitOne K (.ref C_NoObject) (.ref C_Full) = some false
  x0_NoObject : PySem.W.exmAny K (.ref C_NoObject) [.ref C_Full, .ref C_Impossible, .ref C_Needed, .ref C_NoObject, .ref C_NoState, .ref C_NoWay, .ref C_TooMany] = some true
  k_NoState_Impossible : PySem.W.kitOne K (.ref C_NoState) (.ref C_Impossible) = some false
  k_NoState_NoObject : PySem.W.kitOne K (.ref C_NoState) (.ref C_NoObject) = some false
  k_NoState_NoState : PySem.W.kitOne K (.ref C_NoState) (.ref C_NoState) = some true
  k_NoState_TooMany : PySem.W.kitOne K (.ref C_NoState) (.ref C_TooMany) = some false
  k_NoState_ValueError : PySem.W.kitOne K (.ref C_NoState) (.type "ValueError") = some false
  k_NoState_LookupError : PySem.W.kitOne K (.ref C_NoState) (.type "LookupError") = some true
  k_NoState_RuntimeError : PySem.W.kitOne K (.ref C_NoState) (.type "RuntimeError") = some false
  k_NoState_OverflowError : PySem.W.kitOne K (.ref C_NoState) (.type "OverflowError") = some false
  k_NoState_Needed : PySem.W.kitOne K (.ref C_NoState) (.ref C_Needed) = some false
  k_NoState_NoWay : PySem.W.kitOne K (.ref C_NoState) (.ref C_NoWay) = some false
  k_NoState_Full : PySem.W.kitOne K (.ref C_NoState) (.ref C_Full) = some false
  x0_NoState : PySem.W.exmAny K (.ref C_NoState) [.ref C_Full, .ref C_Impossible, .ref C_Needed, .ref C_NoObject, .ref C_NoState, .ref C_NoWay, .ref C_TooMany] = some true
  k_Needed_Impossible : PySem.W.kitOne K (.ref C_Needed) (.ref C_Impossible) = some false
  k_Needed_NoObject : PySem.W.kitOne K (.ref C_Needed) (.ref C_NoObject) = some false
  k_Needed_NoState : PySem.W.kitOne K (.ref C_Needed) (.ref C_NoState) = some false
  k_Needed_TooMany : PySem.W.kitOne K (.ref C_Needed) (.ref C_TooMany) = some false
  k_Needed_ValueError : PySem.W.kitOne K (.ref C_Needed) (.type "ValueError") = some false
  k_Needed_LookupError : PySem.W.kitOne K (.ref C_Needed) (.type "LookupError") = some false
  k_Needed_RuntimeError : PySem.W.kitOne K (.ref C_Needed) (.type "RuntimeError") = some true
  k_Needed_OverflowError : PySem.W.kitOne K (.ref C_Needed) (.type "OverflowError") = some false
  k_Needed_Needed : PySem.W.kitOne K (.ref C_Needed) (.ref C_Needed) = some true
  k_Needed_NoWay : PySem.W.kitOne K (.ref C_Needed) (.ref C_NoWay) = some false
  k_Needed_Full : PySem.W.kitOne K (.ref C_Needed) (.ref C_Full) = some false
  x0_Needed : PySem.W.exmAny K (.ref C_Needed) [.ref C_Full, .ref C_Impossible, .ref C_Needed, .ref C_NoObject, .ref C_NoState, .ref C_NoWay, .ref C_TooMany] = some true
  k_NoWay_Impossible : PySem.W.kitOne K (.ref C_NoWay) (.ref C_Impossible) = some false
  k_NoWay_NoObject : PySem.W.kitOne K (.ref C_NoWay) (.ref C_NoObject) = some false
  k_NoWay_NoState : PySem.W.kitOne K (.ref C_NoWay) (.ref C_NoState) = some false
  k_NoWay_TooMany : PySem.W.kitOne K (.ref C_NoWay) (.ref C_TooMany) = some false
  k_NoWay_ValueError : PySem.W.kitOne K (.ref C_NoWay) (.type "ValueError") = some false
  k_NoWay_LookupError : PySem.W.kitOne K (.ref C_NoWay) (.type "LookupError") = some false
  k_NoWay_RuntimeError : PySem.W.kitOne K (.ref C_NoWay) (.type "RuntimeError") = some true
  k_NoWay_OverflowError : PySem.W.kitOne K (.ref C_NoWay) (.type "OverflowError") = some false
  k_NoWay_Needed : PySem.W.kitOne K (.ref C_NoWay) (.ref C_Needed) = some false
  k_NoWay_NoWay : PySem.W.kitOne K (.ref C_NoWay) (.ref C_NoWay) = some true
  k_NoWay_Full : PySem.W.kitOne K (.ref C_NoWay) (.ref C_Full) = some false
  x0_NoWay : PySem.W.exmAny K (.ref C_NoWay) [.ref C_Full, .ref C_Impossible, .ref C_Needed, .ref C_NoObject, .ref C_NoState, .ref C_NoWay, .ref C_TooMany] = some true
  k_Full_Impossible : PySem.W.kitOne K (.ref C_Full) (.ref C_Impossible) = some false
  k_Full_NoObject : PySem.W.kitOne K (.ref C_Full) (.ref C_NoObject) = some false
  k_Full_NoState : PySem.W.kitOne K (.ref C_Full) (.ref C_NoState) = some false
  k_Full_TooMany : PySem.W.kitOne K (.ref C_Full) (.ref C_TooMany) = some false
  k_Full_ValueError : PySem.W.kitOne K (.ref C_Full) (.type "ValueError") = some false
  k_Full_LookupError : PySem.W.kitOne K (.ref C_Full) (.type "LookupError") = some false
  k_Full_RuntimeError : PySem.W.kitOne K (.ref C_Full) (.type "RuntimeError") = some false
  k_Full_OverflowError : PySem.W.kitOne K (.ref C_Full) (.type "OverflowError") = some true
  k_Full_Needed : PySem.W.kitOne K (.ref C_Full) (.ref C_Needed) = some false
  k_Full_NoWay : PySem.W.kitOne K (.ref C_Full) (.ref C_NoWay) = some false
  k_Full_Full : PySem.W.kitOne K (.ref C_Full) (.ref C_Full) = some true
  x0_Full : PySem.W.exmAny K (.ref C_Full) [.ref C_Full, .ref C_Impossible, .ref C_Needed, .ref C_NoObject, .ref C_NoState, .ref C_NoWay, .ref C_TooMany] = some true
  k_TooMany_Impossible : PySem.W.kitOne K (.ref C_TooMany) (.ref C_Impossible) = some false
  k_TooMany_NoObject : PySem.W.kitOne K (.ref C_TooMany) (.ref C_NoObject) = some false
  k_TooMany_NoState : PySem.W.kitOne K (.ref C_TooMany) (.ref C_NoState) = some false
  k_TooMany_TooMany : PySem.W.kitOne K (.ref C_TooMany) (.ref C_TooMany) = some true
  k_TooMany_ValueError : PySem.W.kitOne K (.ref C_TooMany) (.type "ValueError") = some false
  k_TooMany_LookupError : PySem.W.kitOne K (.ref C_TooMany) (.type "LookupError") = some false
  k_TooMany_RuntimeError : PySem.W.kitOne K (.ref C_TooMany) (.type "RuntimeError") = some false
  k_TooMany_OverflowError : PySem.W.kitOne K (.ref C_TooMany) (.type "OverflowError") = some true
  k_TooMany_Needed : PySem.W.kitOne K (.ref C_TooMany) (.ref C_Needed) = some false
  k_TooMany_NoWay : PySem.W.kitOne K (.ref C_TooMany) (.ref C_NoWay) = some false
  k_TooMany_Full : PySem.W.kitOne K (.ref C_TooMany) (.ref C_Full) = some false
  x0_TooMany : PySem.W.exmAny K (.ref C_TooMany) [.ref C_Full, .ref C_Impossible, .ref C_Needed, .ref C_NoObject, .ref C_NoState, .ref C_NoWay, .ref C_TooMany] = some true
def ErrK {K : PySem.W.Frag} {mg : Str → Option Value} (R : Er K mg) (D : Addr) (nm : Str) (fs : List (Str × V)) (v : V) : Prop := (D = R.C_Impossible ∧ nm = "Impossible" ∧ fs = [] ∧ v = .non) ∨ (D = R.C_NoObject ∧ nm = "NoObject" ∧ fs = [(("cell" : Str), v)]) ∨ (D = R.C_NoState ∧ nm = "NoState" ∧ fs = [(("many" : Str), v)]) ∨ (D = R.C_Needed ∧ nm = "Needed" ∧ fs = [(("cell" : Str), v)]) ∨ (D = R.C_NoWay ∧ nm = "NoWay" ∧ fs = [(("place" : Str), v)]) ∨ (D = R.C_Full ∧ nm = "Full" ∧ fs = [(("many" : Str), v)]) ∨ (D = R.C_TooMany ∧ nm = "TooMany" ∧ fs = [(("many" : Str), v)])
theorem ok_init_Impossible {P : Program} {w : World} {K : PySem.W.Frag} {mg : Str → Option Value} {base : Heap} (T : Bt mg) {C fI : Addr} {fd : FuncData} (I : ErrI K C "Impossible.__init__" s_Impossible_init ["self"] fI fd) : FnOk P w K mg base CX0 1 fI fd ["self"] (spInit0 K "ValueError.__new__" (tlV "ValueError")) := by
  refine I.F.ok sc_Impossible_init (fun vs H Q E h => ?_) (fun cdv A outer s H vs Q E hr h => ?_)
  · obtain ⟨a, C, rfl, _⟩ := h
    rfl
  obtain ⟨a, C, rfl, ha, hT, q⟩ := h
  refine ⟨_, pss_one (ps_expr (pe_binit bas_V (by rfl) T.ValueError (by decide +kernel) (by kernel_rfl) (pa_cons (pv 0) (pa_cons pe_str pa_nil)) (by decide) (by decide))), ?_⟩
  exact ⟨_, rfl, a, C, [_], rfl, (by show 1 ≤ 1000; decide), hT, ha, q⟩
theorem ok_init_NoObject {P : Program} {w : World} {K : PySem.W.Frag} {mg : Str → Option Value} {base : Heap} (T : Bt mg) {C fI : Addr} {fd : FuncData} (I : ErrI K C "NoObject.__init__" s_NoObject_init ["self", "cell"] fI fd) : FnOk P w K mg base CX0 1 fI fd ["self", "cell"] (spInit K "LookupError.__new__" (tlV "LookupError") "cell") := by
  refine I.F.ok sc_NoObject_init (fun vs H Q E h => ?_) (fun cdv A outer s H vs Q E hr h => ?_)
  · obtain ⟨a, C, v, rfl, _⟩ := h
    rfl
  obtain ⟨a, C, v, rfl, ha, hT, hno, q⟩ := h
  refine ⟨_, pss_cons (ps_expr (pe_binit bas_L (by rfl) T.LookupError (by decide +kernel) (by kernel_rfl) (pa_cons (pv 0) (pa_cons pe_str pa_nil)) (by decide) (by decide))) (pss_one (ps_ost1 bas_L (pv 0) (pv 1))), ?_⟩
  exact ⟨_, rfl, a, C, [_], rfl, (by show 1 ≤ 1000; decide), hT, ha, _, rfl, _, rfl, a, C, rfl, hT, hno, ha, fun dx n1 n2 => q dx n1 n2⟩
theorem ok_init_NoState {P : Program} {w : World} {K : PySem.W.Frag} {mg : Str → Option Value} {base : Heap} (T : Bt mg) {C fI : Addr} {fd : FuncData} (I : ErrI K C "NoState.__init__" s_NoState_init ["self", "many"] fI fd) : FnOk P w K mg base CX0 1 fI fd ["self", "many"] (spInit K "LookupError.__new__" (tlV "LookupError") "many") := by
  refine I.F.ok sc_NoState_init (fun vs H Q E h => ?_) (fun cdv A outer s H vs Q E hr h => ?_)
  · obtain ⟨a, C, v, rfl, _⟩ := h
    rfl
  obtain ⟨a, C, v, rfl, ha, hT, hno, q⟩ := h
  refine ⟨_, pss_cons (ps_expr (pe_binit bas_L (by rfl) T.LookupError (by decide +kernel) (by kernel_rfl) (pa_cons (pv 0) (pa_cons pe_str pa_nil)) (by decide) (by decide))) (pss_one (ps_ost1 bas_L (pv 0) (pv 1))), ?_⟩
  exact ⟨_, rfl, a, C, [_], rfl, (by show 1 ≤ 1000; decide), hT, ha, _, rfl, _, rfl, a, C, rfl, hT, hno, ha, fun dx n1 n2 => q dx n1 n2⟩
theorem ok_init_NoWay {P : Program} {w : World} {K : PySem.W.Frag} {mg : Str → Option Value} {base : Heap} (T : Bt mg) {C fI : Addr} {fd : FuncData} (I : ErrI K C "NoWay.__init__" s_NoWay_init ["self", "place"] fI fd) : FnOk P w K mg base CX0 1 fI fd ["self", "place"] (spInit K "RuntimeError.__new__" (tlV "RuntimeError") "place") := by
  refine I.F.ok sc_NoWay_init (fun vs H Q E h => ?_) (fun cdv A outer s H vs Q E hr h => ?_)
  · obtain ⟨a, C, v, rfl, _⟩ := h
    rfl
  obtain ⟨a, C, v, rfl, ha, hT, hno, q⟩ := h
  refine ⟨_, pss_cons (ps_expr (pe_binit bas_R (by rfl) T.RuntimeError (by decide +kernel) (by kernel_rfl) (pa_cons (pv 0) (pa_cons pe_str pa_nil)) (by decide) (by decide))) (pss_one (ps_ost1 bas_R (pv 0) (pv 1))), ?_⟩
  exact ⟨_, rfl, a, C, [_], rfl, (by show 1 ≤ 1000; decide), hT, ha, _, rfl, _, rfl, a, C, rfl, hT, hno, ha, fun dx n1 n2 => q dx n1 n2⟩
theorem ok_init_Needed {P : Program} {w : World} {K : PySem.W.Frag} {mg : Str → Option Value} {base : Heap} (T : Bt mg) {C fI : Addr} {fd : FuncData} (I : ErrI K C "Needed.__init__" s_Needed_init ["self", "cell"] fI fd) : FnOk P w K mg base CX0 1 fI fd ["self", "cell"] (spInit K "RuntimeError.__new__" (tlV "RuntimeError") "cell") := by
  refine I.F.ok sc_Needed_init (fun vs H Q E h => ?_) (fun cdv A outer s H vs Q E hr h => ?_)
  · obtain ⟨a, C, v, rfl, _⟩ := h
    rfl
  obtain ⟨a, C, v, rfl, ha, hT, hno, q⟩ := h
  refine ⟨_, pss_cons (ps_expr (pe_binit bas_R (by rfl) T.RuntimeError (by decide +kernel) (by kernel_rfl) (pa_cons (pv 0) (pa_cons pe_str pa_nil)) (by decide) (by decide))) (pss_one (ps_ost1 bas_R (pv 0) (pv 1))), ?_⟩
  exact ⟨_, rfl, a, C, [_], rfl, (by show 1 ≤ 1000; decide), hT, ha, _, rfl, _, rfl, a, C, rfl, hT, hno, ha, fun dx n1 n2 => q dx n1 n2⟩
theorem ok_init_TooMany {P : Program} {w : World} {K : PySem.W.Frag} {mg : Str → Option Value} {base : Heap} (T : Bt mg) {C fI : Addr} {fd : FuncData} (I : ErrI K C "TooMany.__init__" s_TooMany_init ["self", "many"] fI fd) : FnOk P w K mg base CX0 1 fI fd ["self", "many"] (spInit K "OverflowError.__new__" (tlA "OverflowError") "many") := by
  refine I.F.ok sc_TooMany_init (fun vs H Q E h => ?_) (fun cdv A outer s H vs Q E hr h => ?_)
  · obtain ⟨a, C, v, rfl, _⟩ := h
    rfl
  obtain ⟨a, C, v, rfl, ha, hT, hno, q⟩ := h
  refine ⟨_, pss_cons (ps_expr (pe_binit bas_O (by rfl) T.OverflowError (by decide +kernel) (by kernel_rfl) (pa_cons (pv 0) (pa_cons pe_str pa_nil)) (by decide) (by decide))) (pss_one (ps_ost1 bas_O (pv 0) (pv 1))), ?_⟩
  exact ⟨_, rfl, a, C, [_], rfl, (by show 1 ≤ 1000; decide), hT, ha, _, rfl, _, rfl, a, C, rfl, hT, hno, ha, fun dx n1 n2 => q dx n1 n2⟩
theorem ok_init_Full {P : Program} {w : World} {K : PySem.W.Frag} {mg : Str → Option Value} {base : Heap} (T : Bt mg) {C fI : Addr} {fd : FuncData} (I : ErrI K C "Full.__init__" s_Full_init ["self", "many"] fI fd) : FnOk P w K mg base CX0 1 fI fd ["self", "many"] (spInit K "OverflowError.__new__" (tlA "OverflowError") "many") := by
  refine I.F.ok sc_Full_init (fun vs H Q E h => ?_) (fun cdv A outer s H vs Q E hr h => ?_)
  · obtain ⟨a, C, v, rfl, _⟩ := h
    rfl
  obtain ⟨a, C, v, rfl, ha, hT, hno, q⟩ := h
  refine ⟨_, pss_cons (ps_expr (pe_binit bas_O (by rfl) T.OverflowError (by decide +kernel) (by kernel_rfl) (pa_cons (pv 0) (pa_cons pe_str pa_nil)) (by decide) (by decide))) (pss_one (ps_ost1 bas_O (pv 0) (pv 1))), ?_⟩
  exact ⟨_, rfl, a, C, [_], rfl, (by show 1 ≤ 1000; decide), hT, ha, _, rfl, _, rfl, a, C, rfl, hT, hno, ha, fun dx n1 n2 => q dx n1 n2⟩
structure St (K : PySem.W.Frag) (mg : Str → Option Value) where
  C_Store : Addr
  cl_Store : Cls K C_Store
  g_Store : mg "Store" = some (.ref C_Store)
  n_Store_states : NoAttr K C_Store "states"
  n_Store_events : NoAttr K C_Store "events"
  f_Store___init__ : Addr
  fd_Store___init__ : FuncData
  D_Store___init__ : Dm K C_Store "__init__" "Store.__init__" s_Store___init__ ["self", "size"] f_Store___init__ fd_Store___init__
  f_Store_put_in : Addr
  fd_Store_put_in : FuncData
  D_Store_put_in : Dm K C_Store "put_in" "Store.put_in" s_Store_put_in ["self", "wishes"] f_Store_put_in fd_Store_put_in
  f_Store_put : Addr
  fd_Store_put : FuncData
  D_Store_put : Dm K C_Store "put" "Store.put" s_Store_put ["self", "wish"] f_Store_put fd_Store_put
  f_Store_put_all : Addr
  fd_Store_put_all : FuncData
  D_Store_put_all : Dm K C_Store "put_all" "Store.put_all" s_Store_put_all ["self", "wishes"] f_Store_put_all fd_Store_put_all
  f_Store_take_out : Addr
  fd_Store_take_out : FuncData
  D_Store_take_out : Dm K C_Store "take_out" "Store.take_out" s_Store_take_out ["self", "cell"] f_Store_take_out fd_Store_take_out
  f_Store_forget : Addr
  fd_Store_forget : FuncData
  D_Store_forget : Dm K C_Store "forget" "Store.forget" s_Store_forget ["self", "cell"] f_Store_forget fd_Store_forget
  f_Store_undo : Addr
  fd_Store_undo : FuncData
  D_Store_undo : Dm K C_Store "undo" "Store.undo" s_Store_undo ["self"] f_Store_undo fd_Store_undo
  f_Store_table : Addr
  fd_Store_table : FuncData
  D_Store_table : Dm K C_Store "table" "Store.table" s_Store_table ["self"] f_Store_table fd_Store_table
  f_Store_order : Addr
  fd_Store_order : FuncData
  D_Store_order : Dm K C_Store "order" "Store.order" s_Store_order ["self"] f_Store_order fd_Store_order
  f_Store_count : Addr
  fd_Store_count : FuncData
  D_Store_count : Dm K C_Store "count" "Store.count" s_Store_count ["self"] f_Store_count fd_Store_count
  f_Store_histories : Addr
  fd_Store_histories : FuncData
  D_Store_histories : Dm K C_Store "histories" "Store.histories" s_Store_histories ["self"] f_Store_histories fd_Store_histories
  f_Store_operations : Addr
  fd_Store_operations : FuncData
  D_Store_operations : Dm K C_Store "operations" "Store.operations" s_Store_operations ["self"] f_Store_operations fd_Store_operations
  f_Store_journal : Addr
  fd_Store_journal : FuncData
  D_Store_journal : Dm K C_Store "journal" "Store.journal" s_Store_journal ["self"] f_Store_journal fd_Store_journal
  f_Store_as_of : Addr
  fd_Store_as_of : FuncData
  D_Store_as_of : Dm K C_Store "as_of" "Store.as_of" s_Store_as_of ["self", "many"] f_Store_as_of fd_Store_as_of
  f_Store___eq__ : Addr
  fd_Store___eq__ : FuncData
  D_Store___eq__ : Dm K C_Store "__eq__" "Store.__eq__" s_Store___eq__ ["self", "other"] f_Store___eq__ fd_Store___eq__
  f_Store___len__ : Addr
  fd_Store___len__ : FuncData
  D_Store___len__ : Dm K C_Store "__len__" "Store.__len__" s_Store___len__ ["self"] f_Store___len__ fd_Store___len__
  f_Store___repr__ : Addr
  fd_Store___repr__ : FuncData
  D_Store___repr__ : Dm K C_Store "__repr__" "Store.__repr__" s_Store___repr__ ["self"] f_Store___repr__ fd_Store___repr__
  M_Store : Mk K C_Store f_Store___init__

section
variable {P : Program} {w : World} {K : PySem.W.Frag} {mg : Str → Option Value} {base : Heap}
/-! ### nearness -/
def spNearness : Sp := fun vs H Q _ => ∃ c w : Int, vs = [.int c, .int w] ∧ ∀ p, H p = none → Q (.ref p) (upd H p (.tup [.int (dist c w), .int c]))
theorem ok_nearness (T : Bt mg) {f : Addr} {fd : FuncData} {k : Nat} (D : Df K mg "nearness" s_nearness ["cell", "wish"] f fd) : Kn P w K mg base (k + 1) "nearness" s_nearness ["cell", "wish"] spNearness f fd := by
  refine ⟨D, D.F.ok sc_nearness (fun vs H Q E h => ?_) (fun cdv A outer s H vs Q E hr h => ?_)⟩
  · obtain ⟨a, ns, rfl, _⟩ := h
    rfl
  obtain ⟨c, w', rfl, q⟩ := h
  refine ⟨_, (pss_one (ps_ret (pe_tup (pa_cons (pe_callB call_abs (by rfl) T.abs (by decide +kernel) (pa_cons (pe_op op_sub (pv 0) (pv 1)) pa_nil)) (pa_cons (pv 0) pa_nil))))), ?_⟩
  exact ⟨_, rfl, _, rfl, _, _, rfl, rfl, _, rfl, _, rfl, (by show 2 ≤ sizeLine; decide), fun p hp => q p hp⟩

/-! ### needs -/
def spNeeds : Sp := fun vs H Q _ => ∃ (n : Nat) (c w : Int), vs = [.int n, .int c, .int w] ∧ n ≤ 100 ∧ ∀ p H', Same H H' → H p = none → H' p = some (.tup ((needsL n c w).map V.int)) → Q (.ref p) H'
theorem ok_needs (T : Bt mg) {f f1 : Addr} {fd fd1 : FuncData} {k : Nat} (D : Df K mg "needs" s_needs ["size", "cell", "wish"] f fd) (k_nearness : Kn P w K mg base (k + 1) "nearness" s_nearness ["cell", "wish"] spNearness f1 fd1) : Kn P w K mg base (k + 2) "needs" s_needs ["size", "cell", "wish"] spNeeds f fd := by
  refine ⟨D, D.F.ok sc_needs (fun vs H Q E h => ?_) (fun cdv A outer s H vs Q E hr h => ?_)⟩
  · obtain ⟨n, c, w', rfl, _⟩ := h
    rfl
  obtain ⟨n, c, w', rfl, hn, q⟩ := h
  refine ⟨_, (pss_cons (ps_set (i := 3) sc_needs.nd rfl (.inr rfl) (pe_call k_nearness.G (hr.mono (by omega)) (by rfl) k_nearness.D.g k_nearness.D.F.kp k_nearness.D.b .nil pass0 (pa_cons (pv 1) (pa_cons (pv 2) pa_nil))))
      (pss_one (ps_ret (pe_callTy (call_tupleK (K := K) rfl) (by rfl) T.tuple (by decide +kernel) (pa_cons (pe_lc (own := [("other", 4)]) (by rfl) sc_needs.nd (pi_range1 (by rfl) T.range (pa_cons (pv 0) pa_nil)) (blkOk_by (own := [("other", 4)]) (N := ["size", "cell", "wish", "own", "other"]) (sc := defScope s_needs) (by decide +kernel)) (fun _ _ _ _ _ => (pg_name (i := 4) sc_needs.nd rfl (.inl rfl))) (fun _ _ _ _ _ => (pts_one (pt_cmpR (op_ltTK (K := K) rfl hr.units0) (pe_call k_nearness.G (hr.mono (by omega)) (by rfl) k_nearness.D.g k_nearness.D.F.kp k_nearness.D.b .nil pass0 (pa_cons (pv 4) (pa_cons (pv 2) pa_nil))) (pv 3) (nomark _)))) (fun _ _ _ _ _ => (pv 4))) pa_nil))))), ?_⟩
  -- own = nearness(cell, wish)
  refine ⟨_, rfl, _, rfl, c, w', rfl, fun o ho => ?_⟩
  -- the comprehension
  refine ⟨_, rfl, (n : Int), rfl, by omega, by omega, fun D' hD => ?_⟩
  have so : Same H (upd H o (.tup [.int (dist c w'), .int c])) := same_upd ho
  have en : ((n : Int)).toNat = n := Int.toNat_natCast n
  rw [en]
  refine lc_range (lo := 0) (n := n) (fun i H2 => Same (upd H o (.tup [.int (dist c w'), .int c])) H2 ∧ H2 D' = some (.lst ((needsL i c w').map V.int))) ⟨same_upd hD, upd_same⟩ (fun i H2 hi hP => ?_) (fun H2 hP => ?_)
  · obtain ⟨s2, e2⟩ := hP
    refine ⟨rfl, _, rfl, _, rfl, _, _, rfl, fun p hp => ?_⟩
    have h1 : Same H2 (upd H2 p (.tup [.int (dist (0 + (i : Int)) w'), .int (0 + (i : Int))])) := same_upd hp
    refine ⟨_, rfl, p, o, [dist (0 + (i : Int)) w', 0 + (i : Int)], [dist c w', c], rfl, rfl, sqT upd_same, sqT (h1 _ _ (s2 _ _ upd_same)), _, rfl, ?_⟩
    have ez : (0 : Int) + (i : Int) = (i : Int) := Int.zero_add _
    have hsz : ((needsL i c w').map V.int).length < sizeLine := by
      rw [List.length_map]
      exact small1000 (Nat.le_trans (needsL_len i c w') (by omega))
    rw [ez]
    rw [ez] at h1
    refine ite2 (fun hb => ?_) (fun hb => ?_)
    · refine ⟨_, rfl, _, h1 _ _ e2, hsz, ?_, ?_⟩
      · exact Same.mut (s2.trans h1) hD
      · rw [upd_same, needsL_succ, if_pos (show near w' c (i : Int) = true from hb), List.map_append]
        rfl
    · refine ⟨s2.trans h1, ?_⟩
      rw [needsL_succ, if_neg (show ¬ near w' c (i : Int) = true from hb), List.append_nil]
      exact h1 _ _ e2
  · obtain ⟨s2, e2⟩ := hP
    refine ⟨D', _, rfl, .inl ⟨sqL e2, fun l hl => ?_⟩⟩
    exact q l _ ((so.trans s2).trans (same_upd hl)) (so.free (s2.free hl)) upd_same

/-! ### nearest, put_into, cells_of, filled, which may raise -/
/-- the free cell that is nearest to the wish -/
structure NSpot (ys : List V) (w : Int) (c : Nat) : Prop where
  at_ : ys[c]? = some .non
  best : ∀ x : Nat, ys[x]? = some .non → near w (c : Int) (x : Int) = false
def freeV (ys : List V) (i : Nat) : List Int := ((List.range i).filter fun x => isN (ys.getD x (.int 0))).map fun (x : Nat) => (x : Int)
theorem freeV_succ (ys : List V) (i : Nat) : freeV ys (i + 1) = freeV ys i ++ (if isN (ys.getD i (.int 0)) = true then [(i : Int)] else []) := by
  unfold freeV
  rw [List.range_succ, List.filter_append, List.map_append, List.filter_cons, List.filter_nil]
  split <;> rfl
theorem freeV_len (ys : List V) (i : Nat) : (freeV ys i).length ≤ i := by
  unfold freeV
  rw [List.length_map]
  refine Nat.le_trans (List.length_filter_le _ _) ?_
  rw [List.length_range]
  exact Nat.le_refl _
theorem isN_at {ys : List V} {x : Nat} : isN (ys.getD x (.int 0)) = true ↔ ys[x]? = some .non := by
  rw [List.getD_eq_getElem?_getD]
  cases h : ys[x]? with
  | none => exact ⟨(fun z => nomatch z), (fun z => nomatch z)⟩
  | some v =>
    show isN v = true ↔ _
    cases v <;> simp [isN]
theorem mem_freeV {ys : List V} {x : Nat} : (x : Int) ∈ freeV ys ys.length ↔ ys[x]? = some .non := by
  unfold freeV
  rw [List.mem_map]
  constructor
  · rintro ⟨y, hy, e⟩
    obtain rfl : y = x := by omega
    exact isN_at.mp (List.mem_filter.mp hy).2
  · intro h
    exact ⟨x, List.mem_filter.mpr ⟨List.mem_range.mpr (List.getElem?_eq_some_iff.mp h).1, isN_at.mpr h⟩, rfl⟩
/-- what is wanted of the error with the field f, the tables kept -/
def ErrT (E : XK) (Ps : List Addr) (C : Addr) (f : Str) (v : V) (H : Hp) : Prop := ∀ (d : Addr) (H' : Hp), LamX.ExtN H H' → TabsOk Ps nmL H' → H' d = none → E (.ref C) (some d) (upd H' d (.xd [(f, v)]))
theorem ErrT.ext {E : XK} {Ps : List Addr} {C : Addr} {f : Str} {v : V} {H H' : Hp} (e : ErrT E Ps C f v H) (s : LamX.ExtN H H') : ErrT E Ps C f v H' := fun d H2 s2 t hd => e d H2 (s.trans s2) t hd
def spNearest (K : PySem.W.Frag) (Ps : List Addr) (C : Addr) : Sp := fun vs H Q E => ∃ (a : Addr) (ys : List V) (w : Int), vs = [.ref a, .int w] ∧ Sq K H a ys ∧ ys.length ≤ 100 ∧ ((∀ x : Nat, ys[x]? ≠ some .non) → ErrT E Ps C "many" (.int (ys.length : Int)) H) ∧ TabsOk Ps nmL H ∧
  ∀ (c : Nat) (H' : Hp), LamX.ExtN H H' → TabsOk Ps nmL H' → NSpot ys w c → Q (.int (c : Int)) H'
theorem ok_nearest (T : Bt mg) (R : Er K mg) {f f1 c Pn : Addr} {fd fd1 : FuncData} {Ps : List Addr} (D : Df K mg "nearest" s_nearest ["table", "wish"] f fd) (L : DfC K "nearest" s_nearest f fd c) (TB : LamX.TabB base mg c Pn) (hP : Pn ∈ Ps)
    (k_nearness : Kn P w K mg base 1 "nearness" s_nearness ["cell", "wish"] spNearness f1 fd1) : KnX P w K mg base 4 "nearest" s_nearest ["table", "wish"] (spNearest K Ps R.C_Full) f fd := by
  refine ⟨D, okCX L sc_nearest (fun vs H Q E h => ?_) (fun A outer s H vs Q E hr h => ?_)⟩
  · obtain ⟨a, ys, w', rfl, _⟩ := h
    rfl
  obtain ⟨a, ys, w', rfl, hS, hl, hE, hT, q⟩ := h
  refine ⟨_, (pss_cons (ps_setLc (i := 2) (own := [("cell", 3), ("entry", 4)]) (by rfl) sc_nearest.nd rfl rfl (sw_true rfl rfl rfl (by decide +kernel)) (pi_enS (by rfl) T.enumerate (pa_cons (pv 0) pa_nil)) (blkOk_by (own := [("cell", 3), ("entry", 4)]) (N := ["table", "wish", "free", "cell", "entry"]) (sc := defScope s_nearest) (by decide +kernel)) (fun _ _ _ _ _ => (pg_tupK (K := K) (n := 2) rfl rfl (pgs_cons (pg_name (i := 3) sc_nearest.nd rfl (.inl rfl)) (pgs_cons (pg_name (i := 4) sc_nearest.nd rfl (.inl rfl)) pgs_nil)))) (fun _ _ _ _ _ => (pts_one (pt_cmpR op_isN (pv 4) pe_non (nomark _)))) (fun _ _ _ _ _ => (pv 3)))
      (pss_cons (ps_if (pt_not (pt_truth (pv 2) (by intro _; rfl))) (pss_one (ps_raise rfl takesE (pmk_b bas_O R.E_Full.o R.I_Full.iC R.I_Full.tI (ok_init_Full T R.I_Full) (hr.mono (by omega)) R.I_Full.b pass0 (by rfl) R.E_Full.g (pa_cons (pe_callB (call_lenK (K := K) rfl) (by rfl) T.len (by decide +kernel) (pa_cons (pv 0) pa_nil)) pa_nil)))) pss_nil)
      (pss_one (ps_ret (pe_minL (K := K) (Ps := Ps) (nm := nmL) (N := ["cell", "wish"]) (fr := ["wish"]) (js := [1]) (k := 1) (a := "cell") rfl rfl hr (by rfl) T.min (by decide +kernel) (pa_cons (pv 2) pa_nil) TB rfl hP rfl rfl (NdefX.nscope_by (by decide +kernel)) (by show NdefX.ndefB (defScope s_nearest) _ _ = true; decide +kernel) rfl (fun _ _ _ _ _ us hl => match us, hl with | [_], _ => rfl) (fun A outer s H f c' hr => pe_call k_nearness.G hr (by rfl) k_nearness.D.g k_nearness.D.F.kp k_nearness.D.b .nil pass0 (pa_cons (pv 0) (pa_cons (pv 1) pa_nil)))))))), ?_⟩
  refine ⟨_, rfl, a, ys, rfl, hS, fun J G wk hG D' hD => ?_⟩
  refine lc_it wk (fun i H2 => Same H H2 ∧ H2 D' = some (.lst ((freeV ys i).map V.int))) ⟨same_upd hD, upd_same⟩ (fun i H2 _ hP => hG _ (ats_same hP.1)) (fun i v H2 H3 hi hP hY => ?_) (fun H2 hP => ?_)
  · obtain ⟨s2, e2⟩ := hP
    obtain ⟨T', x0, x, rfl, hT, rfl, e0, gx⟩ := hY
    cases e0
    change ys[i]? = some x at gx
    have h1 : Same H2 (upd H2 T' (.tup [.int (i : Nat), x])) := same_upd hT
    have gd : ys.getD i (.int 0) = x := by rw [List.getD_eq_getElem?_getD, gx]; rfl
    refine ⟨T', [.int (i : Nat), x], rfl, sqT upd_same, rfl, .int (i : Nat), [x], rfl, x, [], rfl, rfl, rfl, ?_⟩
    refine ⟨_, rfl, rfl, _, rfl, ?_⟩
    have e4 := h1 _ _ e2
    have hsz : ((freeV ys i).map V.int).length < sizeLine := by
      rw [List.length_map]
      exact small1000 (Nat.le_trans (freeV_len ys i) (by omega))
    have en : isN x = decide (x = .non) := by cases x <;> simp [isN]
    refine ite2 (fun c => ?_) (fun c => ?_)
    · refine ⟨_, rfl, _, e4, hsz, Same.mut (s2.trans h1) hD, ?_⟩
      rw [upd_same, freeV_succ, gd, en, if_pos (by simpa using c), List.map_append]
      rfl
    · refine ⟨s2.trans h1, ?_⟩
      rw [freeV_succ, gd, en, if_neg (by simpa using c), List.append_nil]
      exact e4
  · obtain ⟨s2, e2⟩ := hP
    by_cases hne : freeV ys ys.length = []
    · rw [hne] at e2
      dsimp only [gName, tSeq]
      refine ⟨_, rfl, false, .inl ⟨_, sqL e2, rfl⟩, iteT ?_⟩
      refine ⟨_, rfl, a, ys, rfl, Same.sq s2 hS, made_of R.E_Full.o R.E_Full.nof fun d hd => hE (fun x hx => ?_) d H2 (ext_same s2) (hT.ext s2) hd⟩
      have := mem_freeV.mpr hx
      rw [hne] at this
      exact nomatch this
    obtain ⟨z0, m0⟩ := List.exists_mem_of_ne_nil _ hne
    have h0 : 0 < (freeV ys ys.length).length := List.length_pos_of_mem m0
    have he : ((freeV ys ys.length).map V.int).isEmpty = false := by
      cases hf : freeV ys ys.length with
      | nil => rw [hf] at m0; cases m0
      | cons => rfl
    dsimp only [gName, tSeq]
    refine ⟨_, rfl, true, .inl ⟨_, sqL e2, by rw [he]; rfl⟩, iteF ?_⟩
    dsimp only [tNext]
    refine ⟨_, rfl, D', _, rfl, sqL e2, by rw [List.length_map]; exact h0, hT.ext s2, fun H3 g3 T3 => ?_⟩
    refine ⟨fun i => [dist ((freeV ys ys.length).getD i 0) w', (freeV ys ys.length).getD i 0], fun i x H4 gx s4 => ?_, fun i x H4 gx hb s4 => ?_⟩
    · obtain ⟨z, gz, rfl⟩ := List.getElem?_map .. ▸ gx |> Option.map_eq_some_iff.mp
      have gd : (freeV ys ys.length).getD i 0 = z := by rw [List.getD_eq_getElem?_getD, gz]; rfl
      refine ⟨_, rfl, _, rfl, z, w', rfl, fun p hp => ⟨same_upd hp, p, rfl, ?_⟩⟩
      show SqT K _ p ([dist ((freeV ys ys.length).getD i 0) w', (freeV ys ys.length).getD i 0].map V.int)
      rw [gd]
      exact sqT upd_same
    · rw [List.getElem?_map] at gx
      obtain ⟨z, gz, rfl⟩ := Option.map_eq_some_iff.mp gx
      have gd : (freeV ys ys.length).getD i 0 = z := by rw [List.getD_eq_getElem?_getD, gz]; rfl
      have hz := List.mem_of_getElem? gz
      obtain ⟨c0, rfl⟩ : ∃ c0 : Nat, z = (c0 : Int) := by
        unfold freeV at hz
        obtain ⟨y, _, e⟩ := List.mem_map.mp hz
        exact ⟨y, e.symm⟩
      refine q c0 H4 (LamX.ExtN.trans (ext_same s2) (LamX.ExtN.trans g3 (ext_same s4))) (T3.ext s4) ⟨mem_freeV.mp hz, fun x hx => ?_⟩
      obtain ⟨j, hj⟩ := List.getElem?_of_mem (mem_freeV.mpr hx)
      have : HT.lexLt [dist ((freeV ys ys.length).getD j 0) w', (freeV ys ys.length).getD j 0] [dist ((freeV ys ys.length).getD i 0) w', (freeV ys ys.length).getD i 0] = false := hb j (by rw [List.length_map]; exact (List.getElem?_eq_some_iff.mp hj).1)
      have gj : (freeV ys ys.length).getD j 0 = (x : Int) := by rw [List.getD_eq_getElem?_getD, hj]; rfl
      rw [gd, gj] at this
      exact this
/-! ### put_into -/
inductive PutV : List V → List Int → List V → List Int → Prop
  | nil (ys : List V) : PutV ys [] ys []
  | snoc {ys : List V} {hs : List Int} {zs : List V} {qs : List Int} {h : Int} {c : Nat} : PutV ys hs zs qs → NSpot zs h c → PutV ys (hs ++ [h]) (zs.set c (.int h)) (qs ++ [(c : Int)])
/-- how many cells are free -/
def freN (ys : List V) : Nat := (ys.filter isN).length
theorem freN_cons (v : V) (ys : List V) : freN (v :: ys) = (if isN v = true then 1 else 0) + freN ys := by
  unfold freN
  rw [List.filter_cons]
  split
  · rw [List.length_cons]; omega
  · omega
theorem freN_set : ∀ {ys : List V} {c : Nat} {h : Int}, ys[c]? = some .non → freN (ys.set c (.int h)) + 1 = freN ys
  | [], _, _, q => by simp at q
  | v :: ys, 0, h, q => by
    have e : v = .non := Option.some.inj q
    subst e
    rw [List.set_cons_zero, freN_cons, freN_cons]
    show (0 + freN ys) + 1 = 1 + freN ys
    omega
  | v :: ys, c + 1, h, q => by
    have ih := freN_set (ys := ys) (c := c) (h := h) (by simpa using q)
    rw [List.set_cons_succ, freN_cons, freN_cons]
    omega
theorem freN_pos : ∀ {ys : List V}, 0 < freN ys → ∃ c : Nat, ys[c]? = some .non
  | [], h => absurd h (by decide)
  | v :: ys, h => by
    cases hv : isN v with
    | true =>
      refine ⟨0, ?_⟩
      cases v <;> first | rfl | cases hv
    | false =>
      rw [freN_cons, hv] at h
      obtain ⟨c, hc⟩ := freN_pos (ys := ys) (by simpa using h)
      exact ⟨c + 1, by simpa using hc⟩
theorem PutV.free {ys zs : List V} {hs qs : List Int} (p : PutV ys hs zs qs) : freN zs + hs.length = freN ys ∧ zs.length = ys.length ∧ qs.length = hs.length := by
  induction p with
  | nil => exact ⟨rfl, rfl, rfl⟩
  | @snoc hs zs qs h c _ sp ih =>
    have e := freN_set (h := h) sp.at_
    rw [List.length_append, List.length_append, List.length_singleton, List.length_singleton, List.length_set]
    omega
def spPut (K : PySem.W.Frag) (Ps : List Addr) (C : Addr) : Sp := fun vs H Q E => ∃ (a b : Addr) (ys : List V) (hs : List Int), vs = [.ref a, .ref b] ∧ Sq K H a ys ∧ Sq K H b (hs.map V.int) ∧ TrkN H b ∧ ys.length ≤ 100 ∧ (freN ys < hs.length → ErrT E Ps C "many" (.int (ys.length : Int)) H) ∧ TabsOk Ps nmL H ∧
  ∀ (t p q : Addr) (zs : List V) (qs : List Int) (H' : Hp), LamX.ExtN H H' → TabsOk Ps nmL H' → H q = none → H' t = some (.tup [.ref p, .ref q]) → H' p = some (.tup zs) → H' q = some (.lst (qs.map V.int)) → PutV ys hs zs qs → Q (.ref t) H'
theorem ok_put (T : Bt mg) (R : Er K mg) {f f1 : Addr} {fd fd1 : FuncData} {Ps : List Addr} (D : Df K mg "put_into" s_put_into ["table", "wishes"] f fd) (k_nearest : KnX P w K mg base 4 "nearest" s_nearest ["table", "wish"] (spNearest K Ps R.C_Full) f1 fd1) : KnX P w K mg base 5 "put_into" s_put_into ["table", "wishes"] (spPut K Ps R.C_Full) f fd := by
  refine ⟨D, D.F.okX sc_put_into (fun vs H Q E h => ?_) (fun cdv A outer s H vs Q E hr h => ?_)⟩
  · obtain ⟨a, b, ys, hs, rfl, _⟩ := h
    rfl
  obtain ⟨a, b, ys, hs, rfl, hA, hB, nB, hl, hE, hT, q⟩ := h
  refine ⟨_, (pss_cons (ps_set (i := 2) sc_put_into.nd rfl (.inl rfl) (pe_callTy (call_listK (K := K) rfl) (by rfl) T.list (by decide +kernel) (pa_cons (pv 0) pa_nil)))
      (pss_cons (ps_set (i := 3) sc_put_into.nd rfl (.inl rfl) (pe_lst pa_nil))
      (pss_cons (ps_for ownE rfl (pi_seq (pv 1)) (pg_name (i := 4) sc_put_into.nd rfl (.inl rfl)) (pss_cons (ps_set (i := 5) sc_put_into.nd rfl (.inl rfl) (pe_call k_nearest.G (hr.mono (by omega)) (by rfl) k_nearest.D.g k_nearest.D.F.kp k_nearest.D.b .nil (passes_call takesE (fun _ _ _ _ h => h)) (pa_cons (pv 2) (pa_cons (pv 4) pa_nil))))
      (pss_cons (ps_asg (pv 4) (pg_sub (pv 2) (pv 5) set_list))
      (pss_one (ps_expr (pe_bm PySem.F.plainAttrs_list PySem.F.slot_list_append PySem.F.type_list_append mt_append (pv 3) (pa_cons (pv 5) pa_nil)))))))
      (pss_one (ps_ret (pe_tup (pa_cons (pe_callTy (call_tupleK (K := K) rfl) (by rfl) T.tuple (by decide +kernel) (pa_cons (pv 2) pa_nil)) (pa_cons (pv 3) pa_nil)))))))), ?_⟩
  refine ⟨_, rfl, a, ys, rfl, hA, fun row hrow => ?_⟩
  have s1 := same_upd (o := .lst ys) hrow
  have g1 : (upd H row (.lst ys)) row = some (.lst ys) := upd_same
  have T1 := hT.ext s1
  generalize upd H row (.lst ys) = H1 at s1 g1 T1
  dsimp only [tSeq]
  refine ⟨(by show 0 ≤ sizeLine; decide), fun cl hcl => ?_⟩
  have s2 := same_upd (o := .lst []) hcl
  have nC : H cl = none := s1.free hcl
  have nrc : row ≠ cl := ne_of_none g1 hcl
  have g2 : (upd H1 cl (.lst [])) cl = some (.lst (([] : List Int).map V.int)) := upd_same
  have g1' := s2 _ _ g1
  have T2 := T1.ext s2
  have s12 := s1.trans s2
  generalize upd H1 cl (.lst []) = H2 at s2 g2 g1' T2 s12
  dsimp only [tSeq]
  refine ⟨_, rfl, b, hs.map V.int, rfl, Same.sq s12 hB, fun J G wk hG => ?_⟩
  rw [List.length_map] at wk
  refine for_it wk (fun i σ H' => ∃ (zs : List V) (qs : List Int) (y4 y5 : Option V), σ = [some (.ref a), some (.ref b), some (.ref row), some (.ref cl), y4, y5] ∧ LamX.ExtN H H' ∧ TabsOk Ps nmL H' ∧ H' row = some (.lst zs) ∧ H' cl = some (.lst (qs.map V.int)) ∧ PutV ys (hs.take i) zs qs)
    ⟨ys, [], _, _, rfl, ext_same s12, T2, g1', g2, .nil ys⟩ (fun i σ H' _ hP => ?_) (fun i x σ H4 H5 hi hP hY => ?_) (fun σ H4 hP => ?_)
  · obtain ⟨_, _, _, _, _, x4, _⟩ := hP
    exact hG _ (trk_ats nB (ext_same s12) x4)
  · obtain ⟨zs, qs, y4, y5, rfl, x4, T4, gr, gc, pv⟩ := hP
    obtain ⟨rfl, gx⟩ := hY
    rw [List.getElem?_map, List.getElem?_eq_getElem hi] at gx
    obtain rfl : V.int hs[i] = x := Option.some.inj gx
    generalize eh : hs[i] = h
    have pf := pv.free
    rw [List.length_take, Nat.min_eq_left (by omega)] at pf
    have fle : freN ys ≤ ys.length := List.length_filter_le _ _
    refine ⟨_, rfl, _, rfl, row, zs, h, rfl, sq_lst gr, by omega, fun hno => ?_, T4, fun c H6 x6 T6 sp => ?_⟩
    · have f0 : freN zs = 0 := by
        refine Nat.eq_zero_of_not_pos fun h => ?_
        obtain ⟨c, hc⟩ := freN_pos h
        exact hno c hc
      rw [pf.2.1]
      exact (hE (by omega)).ext x4
    have gr6 := ext_lst x6 gr
    have gc6 := ext_lst x6 gc
    have hcz : c < zs.length := (List.getElem?_eq_some_iff.mp sp.at_).1
    refine ⟨_, rfl, _, rfl, _, rfl, row, _, _, c, rfl, rfl, gr6, ixn' hcz, ?_⟩
    have T7 := tabs_upd (o := .lst (zs.set c (.int h))) T6 gr6
    have x7 := ext_mut (o := .lst (zs.set c (.int h))) (LamX.ExtN.trans x4 x6) hrow
    have gc7 : (upd H6 row (.lst (zs.set c (.int h)))) cl = some (.lst (qs.map V.int)) := by rw [upd_ne nrc.symm]; exact gc6
    have gr7 : (upd H6 row (.lst (zs.set c (.int h)))) row = some (.lst (zs.set c (.int h))) := upd_same
    generalize upd H6 row (.lst (zs.set c (.int h))) = H7 at T7 x7 gc7 gr7
    refine ⟨_, rfl, .inl ⟨rfl, _, sqL gc7⟩, _, rfl, cl, _, _, rfl, rfl, gc7, by rw [List.length_map]; exact small1000 (by omega), ?_⟩
    refine ⟨zs.set c (.int h), qs ++ [(c : Int)], _, _, rfl, ext_mut x7 nC, tabs_upd T7 gc7, ?_, ?_, ?_⟩
    · rw [upd_ne nrc]
      exact gr7
    · rw [upd_same, List.map_append]
      rfl
    · rw [take_snoc hi, eh]
      exact .snoc pv sp
  · obtain ⟨zs, qs, y4, y5, rfl, x4, T4, gr, gc, pv⟩ := hP
    rw [List.take_length] at pv
    refine ⟨_, rfl, row, _, rfl, .inl ⟨sqL gr, fun p hp => ?_⟩⟩
    have t5 := same_upd (o := .tup zs) hp
    refine ⟨_, rfl, (by show 2 ≤ sizeLine; decide), fun t ht => ?_⟩
    have t6 := same_upd (o := .tup [.ref p, .ref cl]) ht
    have t56 := t5.trans t6
    exact q t p cl zs qs _ (LamX.ExtN.trans x4 (ext_same t56)) (T4.ext t56) nC upd_same (t6 _ _ upd_same) (t56 _ _ gc) pv
theorem rep_none (n : Nat) : (List.replicate ((n : Int)).toNat [V.non]).flatten = List.replicate n V.non := by
  rw [Int.toNat_natCast]
  induction n with
  | zero => rfl
  | succ n ih =>
    rw [List.replicate_succ, List.replicate_succ, List.flatten_cons, ih]
    rfl
theorem freN_rep (n : Nat) : freN (List.replicate n V.non) = n := by
  induction n with
  | zero => rfl
  | succ n ih =>
    rw [List.replicate_succ, freN_cons, ih]
    show 1 + n = n + 1
    omega

/-! ### taken_cells -/
def spTaken (K : PySem.W.Frag) : Sp := fun vs H Q _ => ∃ (a : Addr) (ys : List V), vs = [.ref a] ∧ Sq K H a ys ∧ ys.length ≤ 100 ∧ ∀ p H', Same H H' → H p = none → H' p = some (.lst ((fullL ys).map V.int)) → Q (.ref p) H'
theorem ok_taken (T : Bt mg) {f : Addr} {fd : FuncData} {k : Nat} (D : Df K mg "taken_cells" s_taken_cells ["table"] f fd) : Kn P w K mg base (k + 1) "taken_cells" s_taken_cells ["table"] (spTaken K) f fd := by
  refine ⟨D, D.F.ok sc_taken_cells (fun vs H Q E h => ?_) (fun cdv A outer s H vs Q E hr h => ?_)⟩
  · obtain ⟨a, ys, rfl, _⟩ := h
    rfl
  obtain ⟨a, ys, rfl, hS, hl, q⟩ := h
  refine ⟨_, (pss_one (ps_ret (pe_lc (own := [("cell", 1), ("entry", 2)]) (by rfl) sc_taken_cells.nd (pi_enS (by rfl) T.enumerate (pa_cons (pv 0) pa_nil)) (blkOk_by (own := [("cell", 1), ("entry", 2)]) (N := ["table", "cell", "entry"]) (sc := defScope s_taken_cells) (by decide +kernel)) (fun _ _ _ _ _ => (pg_tupK (K := K) (n := 2) rfl rfl (pgs_cons (pg_name (i := 1) sc_taken_cells.nd rfl (.inl rfl)) (pgs_cons (pg_name (i := 2) sc_taken_cells.nd rfl (.inl rfl)) pgs_nil)))) (fun _ _ _ _ _ => (pts_one (pt_cmpR op_notN (pv 2) pe_non (nomark _)))) (fun _ _ _ _ _ => (pv 1))))), ?_⟩
  refine ⟨_, rfl, a, ys, rfl, hS, fun J G wk hG D' hD => ?_⟩
  refine lc_it wk (fun i H2 => Same H H2 ∧ H2 D' = some (.lst ((fullN ys i).map V.int))) ⟨same_upd hD, upd_same⟩ (fun i H2 _ hP => hG _ (ats_same hP.1)) (fun i v H2 H3 hi hP hY => ?_) (fun H2 hP => q D' H2 hP.1 hD hP.2)
  obtain ⟨s2, e2⟩ := hP
  obtain ⟨T', x0, x, rfl, hT, rfl, e0, gx⟩ := hY
  cases e0
  change ys[i]? = some x at gx
  have h1 : Same H2 (upd H2 T' (.tup [.int (i : Nat), x])) := same_upd hT
  have gd : ys.getD i .non = x := by rw [List.getD_eq_getElem?_getD, gx]; rfl
  refine ⟨T', [.int (i : Nat), x], rfl, sqT upd_same, rfl, .int (i : Nat), [x], rfl, x, [], rfl, rfl, rfl, ?_⟩
  refine ⟨_, rfl, rfl, _, rfl, ?_⟩
  have e4 := h1 _ _ e2
  have hsz : ((fullN ys i).map V.int).length < sizeLine := by
    rw [List.length_map]
    exact small1000 (Nat.le_trans (fullN_len ys i) (by omega))
  have en : isN x = decide (x = .non) := by cases x <;> simp [isN]
  refine ite2 (fun c => ?_) (fun c => ?_)
  · refine ⟨_, rfl, _, e4, hsz, Same.mut (s2.trans h1) hD, ?_⟩
    rw [upd_same, fullN_succ, gd, en, if_neg (by simpa using c), List.map_append]
    rfl
  · refine ⟨s2.trans h1, ?_⟩
    rw [fullN_succ, gd, en, if_pos (by simpa using c), List.append_nil]
    exact e4

/-! ### require_object, which may raise -/
/-- what is wanted of the error with the field f -/
def Errd (E : XK) (C : Addr) (f : Str) (v : V) (H : Hp) : Prop := ∀ (d : Addr) (H' : Hp), Same H H' → H' d = none → E (.ref C) (some d) (upd H' d (.xd [(f, v)]))

def spReqOX (K : PySem.W.Frag) (C : Addr) : Sp := fun vs H Q E => ∃ (a : Addr) (ys : List V) (c : Int), vs = [.ref a, .int c] ∧ Sq K H a ys ∧ ys.length ≤ 100 ∧ (c ∈ fullL ys → ∀ H', Same H H' → Q .non H') ∧ (c ∉ fullL ys → Errd E C "cell" (.int c) H)
theorem ok_reqoX (T : Bt mg) (R : Er K mg) {f f2 : Addr} {fd fd2 : FuncData} (D : Df K mg "require_object" s_require_object ["table", "cell"] f fd)
    (k_taken_cells : Kn P w K mg base 1 "taken_cells" s_taken_cells ["table"] (spTaken K) f2 fd2) : KnX P w K mg base 3 "require_object" s_require_object ["table", "cell"] (spReqOX K R.C_NoObject) f fd := by
  refine ⟨D, D.F.okX sc_require_object (fun vs H Q E h => ?_) (fun cdv A outer s H vs Q E hr h => ?_)⟩
  · obtain ⟨a, ys, c, rfl, _⟩ := h
    rfl
  obtain ⟨a, ys, c, rfl, hA, hl, q1, q2⟩ := h
  refine ⟨_, (pss_one (ps_if (pt_cmpR (op_notInK (K := K) rfl) (pv 1) (pe_call k_taken_cells.G (hr.mono (by omega)) (by rfl) k_taken_cells.D.g k_taken_cells.D.F.kp k_taken_cells.D.b .nil pass0 (pa_cons (pv 0) pa_nil)) (by rfl)) (pss_one (ps_raise rfl takesE (pmk_b bas_L R.E_NoObject.o R.I_NoObject.iC R.I_NoObject.tI (ok_init_NoObject T R.I_NoObject) (hr.mono (by omega)) R.I_NoObject.b pass0 (by rfl) R.E_NoObject.g (pa_cons (pv 1) pa_nil)))) pss_nil)), ?_⟩
  refine ⟨_, rfl, _, rfl, a, ys, rfl, hA, hl, fun p3 H3 s3 np3 g3 => ?_⟩
  refine ⟨p3, _, rfl, .inl (sqL g3), rfl, flat_ints _, _, rfl, ?_⟩
  rw [if_pos rfl, inV_ints]
  by_cases hc : c ∈ fullL ys
  · rw [decide_eq_true hc]
    exact iteF (q1 hc _ s3)
  · rw [decide_eq_false hc]
    refine iteT ?_
    refine ⟨_, rfl, made_of R.E_NoObject.o R.E_NoObject.nof fun d hd => q2 hc d _ s3 hd⟩

/-! ### needed_cells -/
theorem shaped_i (z : Int) : SeqAt.shaped (.int z) = true := by
  unfold SeqAt.shaped
  rw [PyData.canLay0, PyData.depth]
  rfl
theorem shaped_qm : SeqAt.shaped (.str "?") = true := by decide +kernel
theorem eqv_i_q (z : Int) : PyData.eqv (.int z) (.str "?") = false := by rw [PyData.eqv] <;> simp
theorem eqv_q_q : PyData.eqv (.str "?") (.str "?") = true := by decide +kernel
def spNeeded (K : PySem.W.Frag) : Sp := fun vs H Q _ => ∃ (a : Addr) (ys : List V) (i : Nat), vs = [.ref a, .int i] ∧ Sq K H a ys ∧ ys.length ≤ 100 ∧ i < ys.length ∧ (∀ y ∈ ys, TabV ys.length y) ∧ ∀ p H', Same H H' → H p = none → H' p = some (.tup ((wantL ys i).map V.int)) → Q (.ref p) H'
theorem ok_needed (T : Bt mg) {f f1 : Addr} {fd fd1 : FuncData} {k : Nat} (D : Df K mg "needed_cells" s_needed_cells ["table", "cell"] f fd) (k_needs : Kn P w K mg base (k + 2) "needs" s_needs ["size", "cell", "wish"] spNeeds f1 fd1) : Kn P w K mg base (k + 3) "needed_cells" s_needed_cells ["table", "cell"] (spNeeded K) f fd := by
  refine ⟨D, D.F.ok sc_needed_cells (fun vs H Q E h => ?_) (fun cdv A outer s H vs Q E hr h => ?_)⟩
  · obtain ⟨a, ys, i, rfl, _⟩ := h
    rfl
  obtain ⟨a, ys, i, rfl, hS, hl, hi, tab, q⟩ := h
  obtain ⟨tc_UNKNOWN, gc_UNKNOWN⟩ := T.c_UNKNOWN
  refine ⟨_, (pss_cons (ps_set (i := 2) sc_needed_cells.nd rfl (.inl rfl) (pe_ix (ix_seqK (K := K) rfl) (pv 0) (pv 1) (fun _ _ => rfl)))
      (pss_cons (ps_if (PW.pt (pw_or (pt_cmpR op_isN (pv 2) pe_non (nomark _)) (pw_or1 (pt_cmpR (op_eqDK (K := K) rfl hr.units) (pv 2) (pe_glob (v := .str "?") (by rfl) gc_UNKNOWN ⟨_, rfl⟩) (nomark _))))) (pss_one (ps_ret (pe_tup pa_nil))) pss_nil)
      (pss_one (ps_ret (pe_call k_needs.G (hr.mono (by omega)) (by rfl) k_needs.D.g k_needs.D.F.kp k_needs.D.b .nil pass0 (pa_cons (pe_callB (call_lenK (K := K) rfl) (by rfl) T.len (by decide +kernel) (pa_cons (pv 0) pa_nil)) (pa_cons (pv 1) (pa_cons (pv 2) pa_nil)))))))), ?_⟩
  have gi : ys[i]? = some ys[i] := List.getElem?_eq_getElem hi
  have gd : ys.getD i .non = ys[i] := by rw [List.getD_eq_getElem?_getD, gi]; rfl
  have hw : wantL ys i = wantV ys.length i ys[i] := by
    unfold wantL
    rw [Int.toNat_natCast, gd]
  rw [hw] at q
  have ht := tab ys[i] (List.getElem_mem hi)
  refine ⟨_, rfl, _, rfl, a, ys, (i : Int), _, rfl, rfl, hS, atI_nat gi, ?_⟩
  generalize ys[i] = y at q ht
  rcases ht with rfl | rfl | ⟨z, rfl, hz⟩
  · refine ⟨_, rfl, rfl, _, rfl, iteT (iteT ⟨(by show 0 ≤ sizeLine; decide), fun p hp => q p _ (same_upd hp) hp ?_⟩)⟩
    exact upd_same
  · refine ⟨_, rfl, rfl, _, rfl, iteF ⟨_, rfl, .str "?", .str "?", .str _, .str _, shaped_qm, shaped_qm, _, rfl, ?_⟩⟩
    rw [eqv_q_q]
    refine iteT ⟨(by show 0 ≤ sizeLine; decide), fun p hp => q p _ (same_upd hp) hp ?_⟩
    exact upd_same
  · refine ⟨_, rfl, rfl, _, rfl, iteF ⟨_, rfl, .int (z : Int), .str "?", .int _, .str _, shaped_i _, shaped_qm, _, rfl, ?_⟩⟩
    rw [eqv_i_q]
    refine iteF ⟨_, rfl, a, ys, rfl, hS, _, rfl, _, rfl, ys.length, (i : Int), (z : Int), rfl, hl, fun p H1 s1 np g1 => q p H1 s1 np g1⟩

/-! ### need_one_another -/
def spMutual (K : PySem.W.Frag) : Sp := fun vs H Q _ => ∃ (a : Addr) (ys : List V) (i j : Nat), vs = [.ref a, .int i, .int j] ∧ Sq K H a ys ∧ ys.length ≤ 100 ∧ i < ys.length ∧ j < ys.length ∧ (∀ y ∈ ys, TabV ys.length y) ∧ ∀ H', Same H H' → Q (.bl (decide ((i : Int) ∈ wantL ys j) && decide ((j : Int) ∈ wantL ys i))) H'
theorem ok_mutual (T : Bt mg) {f f1 : Addr} {fd fd1 : FuncData} {k : Nat} (D : Df K mg "need_one_another" s_need_one_another ["table", "one", "other"] f fd) (k_needed_cells : Kn P w K mg base (k + 3) "needed_cells" s_needed_cells ["table", "cell"] (spNeeded K) f1 fd1) : Kn P w K mg base (k + 4) "need_one_another" s_need_one_another ["table", "one", "other"] (spMutual K) f fd := by
  refine ⟨D, D.F.ok sc_need_one_another (fun vs H Q E h => ?_) (fun cdv A outer s H vs Q E hr h => ?_)⟩
  · obtain ⟨a, ys, i, j, rfl, _⟩ := h
    rfl
  obtain ⟨a, ys, i, j, rfl, hS, hl, hi, hj, tab, q⟩ := h
  refine ⟨_, (pss_one (ps_ret (pe_and (pe_cmpR (op_inK (K := K) rfl) (pv 1) (pe_call k_needed_cells.G (hr.mono (by omega)) (by rfl) k_needed_cells.D.g k_needed_cells.D.F.kp k_needed_cells.D.b .nil pass0 (pa_cons (pv 0) (pa_cons (pv 2) pa_nil))) (by rfl)) (pe_one (pe_cmpR (op_inK (K := K) rfl) (pv 2) (pe_call k_needed_cells.G (hr.mono (by omega)) (by rfl) k_needed_cells.D.g k_needed_cells.D.F.kp k_needed_cells.D.b .nil pass0 (pa_cons (pv 0) (pa_cons (pv 1) pa_nil))) (by rfl)))))), ?_⟩
  refine ⟨_, rfl, _, rfl, _, rfl, a, ys, j, rfl, hS, hl, hj, tab, fun p H1 s1 np gp => ?_⟩
  refine ⟨p, _, rfl, .inr (sqT gp), rfl, flat_ints _, _, rfl, ?_⟩
  rw [if_neg Bool.false_ne_true, inV_ints]
  refine ite2 (fun c => ?_) (fun c => ?_)
  · rw [c, Bool.true_and] at q
    refine ⟨_, rfl, _, rfl, _, rfl, a, ys, i, rfl, Same.sq s1 hS, hl, hi, tab, fun p2 H2 s2 np2 gp2 => ?_⟩
    refine ⟨p2, _, rfl, .inr (sqT gp2), rfl, flat_ints _, ?_⟩
    rw [if_neg Bool.false_ne_true, inV_ints]
    exact q _ (s1.trans s2)
  · rw [Bool.eq_false_iff.mpr c, Bool.false_and] at q
    exact q _ s1

/-! ### comes_after_needed -/
def spAfter (K : PySem.W.Frag) : Sp := fun vs H Q _ => ∃ (a b : Addr) (ys : List V) (i : Nat) (cs : List Int), vs = [.ref a, .int i, .ref b] ∧ Sq K H a ys ∧ Sq K H b (cs.map V.int) ∧ ys.length ≤ 100 ∧ i < ys.length ∧ (∀ y ∈ ys, TabV ys.length y) ∧ ∀ H', Same H H' → Q (.bl ((wantL ys i).all fun e => decide (e ∈ cs))) H'
theorem ok_after (T : Bt mg) {f f1 : Addr} {fd fd1 : FuncData} {k : Nat} (D : Df K mg "comes_after_needed" s_comes_after_needed ["table", "cell", "came"] f fd) (k_needed_cells : Kn P w K mg base (k + 3) "needed_cells" s_needed_cells ["table", "cell"] (spNeeded K) f1 fd1) : Kn P w K mg base (k + 4) "comes_after_needed" s_comes_after_needed ["table", "cell", "came"] (spAfter K) f fd := by
  refine ⟨D, D.F.ok sc_comes_after_needed (fun vs H Q E h => ?_) (fun cdv A outer s H vs Q E hr h => ?_)⟩
  · obtain ⟨a, b, ys, i, cs, rfl, _⟩ := h
    rfl
  obtain ⟨a, b, ys, i, cs, rfl, hA, hB, hl, hi, tab, q⟩ := h
  refine ⟨_, (pss_one (ps_ret (pe_callB (cr_allK (K := K) rfl rfl) (by rfl) T.all (by decide +kernel) (pa_cons (pe_lc (own := [("needed", 3)]) (by rfl) sc_comes_after_needed.nd (pi_tup (pe_call k_needed_cells.G (hr.mono (by omega)) (by rfl) k_needed_cells.D.g k_needed_cells.D.F.kp k_needed_cells.D.b .nil pass0 (pa_cons (pv 0) (pa_cons (pv 1) pa_nil)))) (blkOk_by (own := [("needed", 3)]) (N := ["table", "cell", "came", "needed"]) (sc := defScope s_comes_after_needed) (by decide +kernel)) (fun _ _ _ _ _ => (pg_name (i := 3) sc_comes_after_needed.nd rfl (.inl rfl))) (fun _ _ _ _ _ => pts_nil) (fun _ _ _ _ _ => (pe_cmpR (op_inK (K := K) rfl) (pv 3) (pv 2) (by rfl)))) pa_nil)))), ?_⟩
  refine ⟨_, rfl, _, rfl, a, ys, i, rfl, hA, hl, hi, tab, fun wp H1 s1 nwp gwp => ?_⟩
  refine ⟨wp, rfl, ⟨_, sqT gwp⟩, fun L hL => ?_⟩
  refine lc_tup (xs := (wantL ys i).map V.int) (fun j H2 => Same H1 H2 ∧ H2 L = some (.lst ((((wantL ys i).take j).map fun e => decide (e ∈ cs)).map V.bl))) ⟨same_upd hL, upd_same⟩ (fun j H2 _ hP => sqT (hP.1 _ _ gwp)) (fun j y H2 gy hP => ?_) (fun H2 hP => ?_)
  · obtain ⟨s2, e2⟩ := hP
    rw [List.getElem?_map, Option.map_eq_some_iff] at gy
    obtain ⟨e, ge, rfl⟩ := gy
    have hw2 : (wantL ys i).length ≤ ys.length := wantV_len ys.length (i : Int) (ys.getD ((i : Int)).toNat .non)
    have hj : j < (wantL ys i).length := (List.getElem?_eq_some_iff.mp ge).1
    refine ⟨rfl, _, rfl, _, rfl, b, _, rfl, Same.sq (s1.trans s2) hB, rfl, flat_ints _, ?_⟩
    rw [inV_ints]
    refine ⟨_, e2, ?_, Same.mut s2 hL, ?_⟩
    · rw [List.length_map, List.length_map, List.length_take]
      exact small1000 (Nat.le_trans (Nat.min_le_right _ _) (by omega))
    · rw [upd_same, List.take_succ, ge, List.map_append, List.map_append]
      rfl
  · obtain ⟨s2, e2⟩ := hP
    refine ⟨L, _, rfl, sqL e2, ?_⟩
    rw [List.length_map, List.take_length, List.all_map]
    exact q _ (s1.trans s2)

/-! ### first_misfit -/
def misV : Option Nat → V
  | none => .non
  | some k => .int (k : Int)
def misfit (ys : List V) (qs : List Int) : Option Nat := (List.range qs.length).find? fun j => !agB ys qs j
theorem misfit_none {ys : List V} {qs : List Int} : misfit ys qs = none ↔ agreesL ys qs = true := by
  unfold misfit agreesL agreesN
  rw [List.find?_eq_none, List.all_map, List.all_eq_true]
  constructor
  · intro h j hj
    have := h j hj
    simpa using this
  · intro h j hj
    have := h j hj
    simpa using this
def spMisfit (K : PySem.W.Frag) : Sp := fun vs H Q _ => ∃ (a b : Addr) (ys : List V) (qs : List Int), vs = [.ref a, .ref b] ∧ Sq K H a ys ∧ Sq K H b (qs.map V.int) ∧ ys.length ≤ 100 ∧ qs.length ≤ 100 ∧ (∀ y ∈ ys, TabV ys.length y) ∧ (∀ z ∈ qs, ∃ i : Nat, z = (i : Int) ∧ i < ys.length) ∧ ∀ H', Same H H' → Q (misV (misfit ys qs)) H'
theorem ok_misfit (T : Bt mg) {f f1 : Addr} {fd fd1 : FuncData} {k : Nat} (D : Df K mg "first_misfit" s_first_misfit ["table", "cells"] f fd) (k_comes_after_needed : Kn P w K mg base (k + 4) "comes_after_needed" s_comes_after_needed ["table", "cell", "came"] (spAfter K) f1 fd1) : Kn P w K mg base (k + 5) "first_misfit" s_first_misfit ["table", "cells"] (spMisfit K) f fd := by
  refine ⟨D, D.F.ok sc_first_misfit (fun vs H Q E h => ?_) (fun cdv A outer s H vs Q E hr h => ?_)⟩
  · obtain ⟨a, b, ys, qs, rfl, _⟩ := h
    rfl
  obtain ⟨a, b, ys, qs, rfl, hA, hB, hl, hql, tab, hin, q⟩ := h
  refine ⟨_, (pss_cons (ps_for PassesOwn.never rfl (pi_enS (by rfl) T.enumerate (pa_cons (pv 1) pa_nil)) (pg_tup (by rfl) (pgs_cons (pg_name (i := 2) sc_first_misfit.nd rfl (.inl rfl)) (pgs_cons (pg_name (i := 3) sc_first_misfit.nd rfl (.inl rfl)) pgs_nil))) (pss_one (ps_if (pt_not (pt_val (pe_call k_comes_after_needed.G (hr.mono (by omega)) (by rfl) k_comes_after_needed.D.g k_comes_after_needed.D.F.kp k_comes_after_needed.D.b .nil pass0 (pa_cons (pv 0) (pa_cons (pv 3) (pa_cons (pe_slice sl_seq (pv 1) po_none (po_some (pv 2))) pa_nil)))))) (pss_one (ps_ret (pv 2))) pss_nil)))
      (pss_one (ps_ret pe_non))), ?_⟩
  refine ⟨_, rfl, b, _, rfl, hB, fun J G wk hG => ?_⟩
  refine for_it wk (fun i σ H2 => Same H H2 ∧ (∀ j, j < i → agB ys qs j = true) ∧ ∃ y2 y3, σ = [some (.ref a), some (.ref b), y2, y3]) ⟨Same.refl _, fun j hj => absurd hj (Nat.not_lt_zero _), _, _, rfl⟩ (fun i σ H2 _ hP => hG _ (ats_same hP.1)) (fun i v σ H2 H3 hi hP hY => ?_) (fun σ H2 hP => ?_)
  · obtain ⟨s2, hag, y2, y3, rfl⟩ := hP
    obtain ⟨T', x0, x, rfl, hT, rfl, e0, gx⟩ := hY
    cases e0
    change (qs.map V.int)[i]? = some x at gx
    rw [List.getElem?_map, Option.map_eq_some_iff] at gx
    obtain ⟨z, gz, rfl⟩ := gx
    rw [List.length_map] at hi
    have h1 : Same H2 (upd H2 T' (.tup [.int (i : Nat), .int z])) := same_upd hT
    obtain ⟨iz, rfl, hiz⟩ := hin z (List.mem_of_getElem? gz)
    have sA := s2.trans h1
    have eg : qs.getD i 0 = (iz : Int) := by rw [List.getD_eq_getElem?_getD, gz]; rfl
    refine ⟨T', [.int (i : Nat), .int (iz : Int)], rfl, sqT upd_same, rfl, .int (i : Nat), [.int (iz : Int)], rfl, .int (iz : Int), [], rfl, rfl, ?_⟩
    refine ⟨_, rfl, _, rfl, _, rfl, _, rfl, _, rfl, b, _, rfl, Same.sq sA hB, fun p H4 s4 hp => ?_⟩
    rw [cut_to (by rw [List.length_map]; omega), ← List.map_take] at hp
    refine ⟨a, p, ys, iz, qs.take i, rfl, Same.sq (sA.trans s4) hA, hp, hl, hiz, tab, fun H5 s5 => ⟨_, rfl, ?_⟩⟩
    have ea : ((wantL ys iz).all fun e => decide (e ∈ qs.take i)) = agB ys qs i := by
      unfold agB
      rw [eg]
    rw [ea]
    have s25 := (sA.trans s4).trans s5
    cases hb : agB ys qs i with
    | true =>
      have hag' : ∀ j, j < i + 1 → agB ys qs j = true := fun j hj => by
        rcases Nat.lt_succ_iff_lt_or_eq.mp hj with h | rfl
        · exact hag j h
        · exact hb
      exact iteF ⟨s25, hag', _, _, rfl⟩
    | false =>
      refine iteT ⟨_, rfl, ?_⟩
      have em : misfit ys qs = some i := by
        unfold misfit
        rw [List.find?_range_eq_some]
        refine ⟨by rw [hb]; rfl, List.mem_range.mpr hi, fun j hj => ?_⟩
        rw [hag j hj]
        rfl
      rw [em] at q
      exact q _ s25
  · obtain ⟨s2, hag, y2, y3, rfl⟩ := hP
    have em : misfit ys qs = none := by
      unfold misfit
      rw [List.find?_eq_none]
      intro j hj
      rw [List.length_map] at hag
      rw [hag j (List.mem_range.mp hj)]
      decide
    rw [em] at q
    exact q _ s2

/-! ### first_gap, first_both -/
theorem find_at {α : Type} {l : List α} {p : α → Bool} {j : Nat} {e : α} (g : l[j]? = some e) (hp : p e = true) (h : ∀ x ∈ l.take j, p x = false) : l.find? p = some e := by
  rw [List.find?_eq_some_iff_append]
  refine ⟨hp, l.take j, l.drop (j + 1), ?_, fun x hx => by rw [h x hx]; rfl⟩
  obtain ⟨hj, rfl⟩ := List.getElem?_eq_some_iff.mp g
  rw [List.getElem_cons_drop, List.take_append_drop]
theorem fsome_at {α β : Type} {l : List α} {f : α → Option β} {j : Nat} {e : α} {b : β} (g : l[j]? = some e) (hp : f e = some b) (h : ∀ x ∈ l.take j, f x = none) : l.findSome? f = some b := by
  rw [List.findSome?_eq_some_iff]
  refine ⟨l.take j, e, l.drop (j + 1), ?_, hp, h⟩
  obtain ⟨hj, rfl⟩ := List.getElem?_eq_some_iff.mp g
  rw [List.getElem_cons_drop, List.take_append_drop]
theorem take_more {α : Type} {l : List α} {P : α → Prop} {j : Nat} {e : α} (g : l[j]? = some e) (h : ∀ x ∈ l.take j, P x) (he : P e) : ∀ x ∈ l.take (j + 1), P x := by
  rw [List.take_succ, g]
  intro x hx
  rcases List.mem_append.mp hx with hx | hx
  · exact h x hx
  · rw [Option.toList_some, List.mem_singleton] at hx
    rw [hx]
    exact he
def spReason (K : PySem.W.Frag) (g : List V → Option (Int × Int)) : Sp := fun vs H Q _ => ∃ (a : Addr) (ys : List V), vs = [.ref a] ∧ Sq K H a ys ∧ ys.length ≤ 100 ∧ (∀ y ∈ ys, TabV ys.length y) ∧
  (g ys = none → ∀ H', Same H H' → Q .non H') ∧ ∀ c e, g ys = some (c, e) → ∀ p H', Same H H' → H' p = some (.tup [.int c, .int e]) → Q (.ref p) H'
theorem ok_first_gap (T : Bt mg) {f f1 f2 : Addr} {fd fd1 fd2 : FuncData} {k : Nat} (D : Df K mg "first_gap" s_first_gap ["table"] f fd) (k_taken_cells : Kn P w K mg base 1 "taken_cells" s_taken_cells ["table"] (spTaken K) f1 fd1)
    (k_needed_cells : Kn P w K mg base 3 "needed_cells" s_needed_cells ["table", "cell"] (spNeeded K) f2 fd2) : Kn P w K mg base 4 "first_gap" s_first_gap ["table"] (spReason K gapO) f fd := by
  refine ⟨D, D.F.ok sc_first_gap (fun vs H Q E h => ?_) (fun cdv A outer s H vs Q E hr h => ?_)⟩
  · obtain ⟨a, ys, rfl, _⟩ := h
    rfl
  obtain ⟨a, ys, rfl, hA, hl, tab, q0, q1⟩ := h
  refine ⟨_, (pss_cons (ps_for PassesOwn.never rfl (pi_list (pe_call k_taken_cells.G (hr.mono (by omega)) (by rfl) k_taken_cells.D.g k_taken_cells.D.F.kp k_taken_cells.D.b .nil pass0 (pa_cons (pv 0) pa_nil))) (pg_name (i := 1) sc_first_gap.nd rfl (.inl rfl)) (pss_one (ps_for PassesOwn.never rfl (pi_tup (pe_call k_needed_cells.G (hr.mono (by omega)) (by rfl) k_needed_cells.D.g k_needed_cells.D.F.kp k_needed_cells.D.b .nil pass0 (pa_cons (pv 0) (pa_cons (pv 1) pa_nil)))) (pg_name (i := 2) sc_first_gap.nd rfl (.inl rfl)) (pss_one (ps_if (pt_cmpR op_isN (pe_ix (ix_seqK (K := K) rfl) (pv 0) (pv 2) (fun _ _ => rfl)) pe_non (nomark _)) (pss_one (ps_ret (pe_tup (pa_cons (pv 1) (pa_cons (pv 2) pa_nil))))) pss_nil)))))
      (pss_one (ps_ret pe_non))), ?_⟩
  refine ⟨_, rfl, a, ys, rfl, hA, hl, fun p1 H1 s1 np1 g1 => ?_⟩
  refine ⟨p1, rfl, ⟨_, sqL g1⟩, ?_⟩
  refine for_list (xs := (fullL ys).map V.int) (fun i σ H2 => Same H1 H2 ∧ (∀ c ∈ (fullL ys).take i, (((wantL ys c).find? fun e => isN (ys.getD e.toNat .non)).map fun e => (c, e)) = none) ∧ ∃ y1 y2, σ = [some (.ref a), y1, y2]) ⟨Same.refl _, (fun c hc => nomatch hc), _, _, rfl⟩ (fun i σ H2 _ hP => sqL (hP.1 _ _ g1)) (fun i x σ H2 gx hP => ?_) (fun σ H2 hP => ?_)
  · obtain ⟨s2, hno, y1, y2, rfl⟩ := hP
    rw [List.getElem?_map, Option.map_eq_some_iff] at gx
    obtain ⟨c, gc, rfl⟩ := gx
    obtain ⟨ic, rfl, hic, _⟩ := fullL_mem.mp (List.mem_of_getElem? gc)
    refine ⟨_, rfl, _, rfl, a, ys, ic, rfl, Same.sq (s1.trans s2) hA, hl, hic, tab, fun p3 H3 s3 np3 g3 => ?_⟩
    refine ⟨p3, rfl, ⟨_, sqT g3⟩, ?_⟩
    refine for_tup (xs := (wantL ys ic).map V.int) (fun j σ H4 => Same H3 H4 ∧ (∀ e ∈ (wantL ys ic).take j, isN (ys.getD e.toNat .non) = false) ∧ ∃ y2, σ = [some (.ref a), some (.int (ic : Int)), y2]) ⟨Same.refl _, (fun c hc => nomatch hc), _, rfl⟩ (fun i σ H2 _ hP => sqT (hP.1 _ _ g3)) (fun j x σ H4 gx hP => ?_) (fun σ H4 hP => ?_)
    · obtain ⟨s4, hno4, y2, rfl⟩ := hP
      rw [List.getElem?_map, Option.map_eq_some_iff] at gx
      obtain ⟨e, ge, rfl⟩ := gx
      obtain ⟨ie, rfl, hie⟩ := wantL_lt (List.mem_of_getElem? ge)
      have gi : ys[ie]? = some ys[ie] := List.getElem?_eq_getElem hie
      have gd : ys.getD ie .non = ys[ie] := by rw [List.getD_eq_getElem?_getD, gi]; rfl
      have s14 := ((s1.trans s2).trans s3).trans s4
      refine ⟨_, rfl, _, rfl, a, ys, (ie : Int), _, rfl, rfl, Same.sq s14 hA, atI_nat gi, rfl, _, rfl, ?_⟩
      rw [← gd, ← isN_dec]
      refine ite2 (fun hc => ?_) (fun hc => ?_)
      · refine ⟨_, rfl, _, rfl, (by show 2 ≤ sizeLine; decide), fun p hp => q1 _ _ ?_ p _ (s14.trans (same_upd hp)) upd_same⟩
        refine fsome_at gc ?_ hno
        rw [find_at (p := fun e => isN (ys.getD e.toNat .non)) ge (by rw [Int.toNat_natCast]; exact hc) hno4]
        rfl
      · exact ⟨s4, take_more ge hno4 (by rw [Int.toNat_natCast]; exact Bool.eq_false_iff.mpr hc), _, rfl⟩
    · obtain ⟨s4, hno4, y2, rfl⟩ := hP
      refine ⟨(s2.trans s3).trans s4, take_more gc hno ?_, _, _, rfl⟩
      rw [List.length_map, List.take_length] at hno4
      rw [List.find?_eq_none.mpr fun e he => by rw [hno4 e he]; decide]
      rfl
  · obtain ⟨s2, hno, y1, y2, rfl⟩ := hP
    rw [List.length_map, List.take_length] at hno
    exact q0 (List.findSome?_eq_none_iff.mpr hno) _ (s1.trans s2)
theorem ok_first_both (T : Bt mg) {f f1 f2 f3 : Addr} {fd fd1 fd2 fd3 : FuncData} {k : Nat} (D : Df K mg "first_both" s_first_both ["table"] f fd) (k_taken_cells : Kn P w K mg base 1 "taken_cells" s_taken_cells ["table"] (spTaken K) f1 fd1)
    (k_needed_cells : Kn P w K mg base 3 "needed_cells" s_needed_cells ["table", "cell"] (spNeeded K) f2 fd2) (k_need_one_another : Kn P w K mg base 4 "need_one_another" s_need_one_another ["table", "one", "other"] (spMutual K) f3 fd3) : Kn P w K mg base 5 "first_both" s_first_both ["table"] (spReason K bothO) f fd := by
  refine ⟨D, D.F.ok sc_first_both (fun vs H Q E h => ?_) (fun cdv A outer s H vs Q E hr h => ?_)⟩
  · obtain ⟨a, ys, rfl, _⟩ := h
    rfl
  obtain ⟨a, ys, rfl, hA, hl, tab, q0, q1⟩ := h
  refine ⟨_, (pss_cons (ps_for PassesOwn.never rfl (pi_list (pe_call k_taken_cells.G (hr.mono (by omega)) (by rfl) k_taken_cells.D.g k_taken_cells.D.F.kp k_taken_cells.D.b .nil pass0 (pa_cons (pv 0) pa_nil))) (pg_name (i := 1) sc_first_both.nd rfl (.inl rfl)) (pss_one (ps_for PassesOwn.never rfl (pi_tup (pe_call k_needed_cells.G (hr.mono (by omega)) (by rfl) k_needed_cells.D.g k_needed_cells.D.F.kp k_needed_cells.D.b .nil pass0 (pa_cons (pv 0) (pa_cons (pv 1) pa_nil)))) (pg_name (i := 2) sc_first_both.nd rfl (.inl rfl)) (pss_one (ps_if (PW.pt (pw_and (pt_cmpR op_lt (pv 1) (pv 2) (nomark _)) (pw_and1 (pt_val (pe_call k_need_one_another.G (hr.mono (by omega)) (by rfl) k_need_one_another.D.g k_need_one_another.D.F.kp k_need_one_another.D.b .nil pass0 (pa_cons (pv 0) (pa_cons (pv 1) (pa_cons (pv 2) pa_nil)))))))) (pss_one (ps_ret (pe_tup (pa_cons (pv 1) (pa_cons (pv 2) pa_nil))))) pss_nil)))))
      (pss_one (ps_ret pe_non))), ?_⟩
  refine ⟨_, rfl, a, ys, rfl, hA, hl, fun p1 H1 s1 np1 g1 => ?_⟩
  refine ⟨p1, rfl, ⟨_, sqL g1⟩, ?_⟩
  refine for_list (xs := (fullL ys).map V.int) (fun i σ H2 => Same H1 H2 ∧ (∀ c ∈ (fullL ys).take i, (((wantL ys c).find? fun e => mutB ys c e).map fun e => (c, e)) = none) ∧ ∃ y1 y2, σ = [some (.ref a), y1, y2]) ⟨Same.refl _, (fun c hc => nomatch hc), _, _, rfl⟩ (fun i σ H2 _ hP => sqL (hP.1 _ _ g1)) (fun i x σ H2 gx hP => ?_) (fun σ H2 hP => ?_)
  · obtain ⟨s2, hno, y1, y2, rfl⟩ := hP
    rw [List.getElem?_map, Option.map_eq_some_iff] at gx
    obtain ⟨c, gc, rfl⟩ := gx
    obtain ⟨ic, rfl, hic, _⟩ := fullL_mem.mp (List.mem_of_getElem? gc)
    refine ⟨_, rfl, _, rfl, a, ys, ic, rfl, Same.sq (s1.trans s2) hA, hl, hic, tab, fun p3 H3 s3 np3 g3 => ?_⟩
    refine ⟨p3, rfl, ⟨_, sqT g3⟩, ?_⟩
    refine for_tup (xs := (wantL ys ic).map V.int) (fun j σ H4 => Same H3 H4 ∧ (∀ e ∈ (wantL ys ic).take j, mutB ys ic e = false) ∧ ∃ y2, σ = [some (.ref a), some (.int (ic : Int)), y2]) ⟨Same.refl _, (fun c hc => nomatch hc), _, rfl⟩ (fun i σ H2 _ hP => sqT (hP.1 _ _ g3)) (fun j x σ H4 gx hP => ?_) (fun σ H4 hP => ?_)
    · obtain ⟨s4, hno4, y2, rfl⟩ := hP
      rw [List.getElem?_map, Option.map_eq_some_iff] at gx
      obtain ⟨e, ge, rfl⟩ := gx
      obtain ⟨ie, rfl, hie⟩ := wantL_lt (List.mem_of_getElem? ge)
      have s14 := ((s1.trans s2).trans s3).trans s4
      have em : mutB ys ic ie = (decide ((ic : Int) < (ie : Int)) && (decide ((ic : Int) ∈ wantL ys ie) && decide ((ie : Int) ∈ wantL ys ic))) := rfl
      refine ⟨_, rfl, _, rfl, _, _, rfl, rfl, _, rfl, ?_⟩
      refine ite2 (fun hc => ?_) (fun hc => ?_)
      · rw [hc, Bool.true_and] at em
        refine ⟨_, rfl, _, rfl, _, rfl, a, ys, ic, ie, rfl, Same.sq s14 hA, hl, hic, hie, tab, fun H5 s5 => ⟨_, rfl, ?_⟩⟩
        rw [← em]
        refine ite2 (fun hd => ?_) (fun hd => ?_)
        · refine ⟨_, rfl, _, rfl, (by show 2 ≤ sizeLine; decide), fun p hp => q1 _ _ ?_ p _ ((s14.trans s5).trans (same_upd hp)) upd_same⟩
          refine fsome_at gc ?_ hno
          rw [find_at (p := fun e => mutB ys ic e) ge hd hno4]
          rfl
        · exact ⟨s4.trans s5, take_more ge hno4 (Bool.eq_false_iff.mpr hd), _, rfl⟩
      · rw [Bool.eq_false_iff.mpr hc, Bool.false_and] at em
        exact iteF ⟨s4, take_more ge hno4 em, _, rfl⟩
    · obtain ⟨s4, hno4, y2, rfl⟩ := hP
      refine ⟨(s2.trans s3).trans s4, take_more gc hno ?_, _, _, rfl⟩
      rw [List.length_map, List.take_length] at hno4
      rw [List.find?_eq_none.mpr fun e he => by rw [hno4 e he]; decide]
      rfl
  · obtain ⟨s2, hno, y1, y2, rfl⟩ := hP
    rw [List.length_map, List.take_length] at hno
    exact q0 (List.findSome?_eq_none_iff.mpr hno) _ (s1.trans s2)

/-! ### possible -/
def possB (ys : List V) : Bool := (gapO ys).isNone && (bothO ys).isNone
theorem possB_iff {ys : List V} : possB ys = true ↔ Poss ys := by
  unfold possB
  rw [Bool.and_eq_true, Option.isNone_iff_eq_none, Option.isNone_iff_eq_none, poss_iff]
def spPossible (K : PySem.W.Frag) : Sp := fun vs H Q _ => ∃ (a : Addr) (ys : List V), vs = [.ref a] ∧ Sq K H a ys ∧ ys.length ≤ 100 ∧ (∀ y ∈ ys, TabV ys.length y) ∧ ∀ H', Same H H' → Q (.bl (possB ys)) H'
theorem ok_possible (T : Bt mg) {f f1 f2 : Addr} {fd fd1 fd2 : FuncData} (D : Df K mg "possible" s_possible ["table"] f fd) (k_first_gap : Kn P w K mg base 4 "first_gap" s_first_gap ["table"] (spReason K gapO) f1 fd1)
    (k_first_both : Kn P w K mg base 5 "first_both" s_first_both ["table"] (spReason K bothO) f2 fd2) : Kn P w K mg base 6 "possible" s_possible ["table"] (spPossible K) f fd := by
  refine ⟨D, D.F.ok sc_possible (fun vs H Q E h => ?_) (fun cdv A outer s H vs Q E hr h => ?_)⟩
  · obtain ⟨a, ys, rfl, _⟩ := h
    rfl
  obtain ⟨a, ys, rfl, hA, hl, tab, q⟩ := h
  refine ⟨_, (pss_one (ps_ret (pe_and (pe_cmpR op_isN (pe_call k_first_gap.G (hr.mono (by omega)) (by rfl) k_first_gap.D.g k_first_gap.D.F.kp k_first_gap.D.b .nil pass0 (pa_cons (pv 0) pa_nil)) pe_non (nomark _)) (pe_one (pe_cmpR op_isN (pe_call k_first_both.G (hr.mono (by omega)) (by rfl) k_first_both.D.g k_first_both.D.F.kp k_first_both.D.b .nil pass0 (pa_cons (pv 0) pa_nil)) pe_non (nomark _)))))), ?_⟩
  refine ⟨_, rfl, a, ys, rfl, hA, hl, tab, fun hg H1 s1 => ?_, fun c e hg p1 H1 s1 g1 => ?_⟩
  · refine ⟨rfl, _, rfl, iteT ?_⟩
    refine ⟨_, rfl, a, ys, rfl, Same.sq s1 hA, hl, tab, fun hb H2 s2 => ⟨rfl, ?_⟩, fun c e hb p2 H2 s2 g2 => ⟨rfl, ?_⟩⟩
    · have := q _ (s1.trans s2)
      unfold possB at this
      rw [hg, hb] at this
      exact this
    · have := q _ (s1.trans s2)
      unfold possB at this
      rw [hg, hb] at this
      exact this
  · refine ⟨rfl, _, rfl, iteF ?_⟩
    have := q _ s1
    unfold possB at this
    rw [hg] at this
    exact this

/-! ### with_wish -/
def spWithWishX (K : PySem.W.Frag) (CN : Addr) : Sp := fun vs H Q E => ∃ (a : Addr) (ys : List V) (z : Int) (x : V), vs = [.ref a, .int z, x] ∧ Sq K H a ys ∧ ys.length ≤ 100 ∧ (z ∉ fullL ys → Errd E CN "cell" (.int z) H) ∧ ∀ c : Nat, z = (c : Int) → (c : Int) ∈ fullL ys → ∀ p H', Same H H' → H p = none → H' p = some (.tup (ys.set c x)) → Q (.ref p) H'
theorem set_take {ys : List V} {c i : Nat} {x y : V} (gx : ys[i]? = some y) : (ys.set c x).take (i + 1) = (ys.set c x).take i ++ [if i = c then x else y] := by
  have hi : i < ys.length := (List.getElem?_eq_some_iff.mp gx).1
  rw [List.take_succ]
  congr 1
  rw [List.getElem?_set]
  by_cases e : c = i
  · rw [if_pos e, if_pos (by omega), if_pos e.symm]
    rfl
  · rw [if_neg e, gx, if_neg (fun h => e h.symm)]
    rfl
theorem ok_withwish (T : Bt mg) (R : Er K mg) {f f1 : Addr} {fd fd1 : FuncData} (D : Df K mg "with_wish" s_with_wish ["table", "cell", "wish"] f fd) (k_require_object : KnX P w K mg base 3 "require_object" s_require_object ["table", "cell"] (spReqOX K R.C_NoObject) f1 fd1) : KnX P w K mg base 4 "with_wish" s_with_wish ["table", "cell", "wish"] (spWithWishX K R.C_NoObject) f fd := by
  refine ⟨D, D.F.okX sc_with_wish (fun vs H Q E h => ?_) (fun cdv A outer s H vs Q E hr h => ?_)⟩
  · obtain ⟨a, ys, c, x, rfl, _⟩ := h
    rfl
  obtain ⟨a, ys, z, x, rfl, hA, hl, hE, q⟩ := h
  refine ⟨_, (pss_cons (ps_expr (pe_call k_require_object.G (hr.mono (by omega)) (by rfl) k_require_object.D.g k_require_object.D.F.kp k_require_object.D.b .nil (passes_call takesE (fun _ _ _ _ h => h)) (pa_cons (pv 0) (pa_cons (pv 1) pa_nil))))
      (pss_one (ps_ret (pe_callTy (call_tupleK (K := K) rfl) (by rfl) T.tuple (by decide +kernel) (pa_cons (pe_lc (own := [("place", 3), ("entry", 4)]) (by rfl) sc_with_wish.nd (pi_enS (by rfl) T.enumerate (pa_cons (pv 0) pa_nil)) (blkOk_by (own := [("place", 3), ("entry", 4)]) (N := ["table", "cell", "wish", "place", "entry"]) (sc := defScope s_with_wish) (by decide +kernel)) (fun _ _ _ _ _ => (pg_tupK (K := K) (n := 2) rfl rfl (pgs_cons (pg_name (i := 3) sc_with_wish.nd rfl (.inl rfl)) (pgs_cons (pg_name (i := 4) sc_with_wish.nd rfl (.inl rfl)) pgs_nil)))) (fun _ _ _ _ _ => pts_nil) (fun _ _ _ _ _ => (pe_ifExp (pt_cmpR op_eq (pv 3) (pv 1) (nomark _)) (pv 2) (pv 4)))) pa_nil))))), ?_⟩
  refine ⟨_, rfl, _, rfl, a, ys, z, rfl, hA, hl, fun hcz H1 s1 => ?_, hE⟩
  obtain ⟨c, rfl, hcl, _⟩ := fullL_mem.mp hcz
  have hc : (c : Int) ∈ fullL ys := hcz
  replace q := q c rfl hc
  dsimp only [tSeq]
  refine ⟨_, rfl, a, ys, rfl, Same.sq s1 hA, fun J G wk hG D' hD => ?_⟩
  refine lc_it wk (fun i H2 => Same H1 H2 ∧ H2 D' = some (.lst ((ys.set c x).take i))) ⟨same_upd hD, upd_same⟩ (fun i H2 _ hP => hG _ (ats_same hP.1)) (fun i v H2 H3 hi hP hY => ?_) (fun H2 hP => ?_)
  · obtain ⟨s2, e2⟩ := hP
    obtain ⟨T', x0, y, rfl, hT, rfl, e0, gx⟩ := hY
    cases e0
    change ys[i]? = some y at gx
    have h1 : Same H2 (upd H2 T' (.tup [.int (i : Nat), y])) := same_upd hT
    have e4 := h1 _ _ e2
    have hsz : ((ys.set c x).take i).length < sizeLine := by
      rw [List.length_take, List.length_set]
      exact small1000 (by omega)
    refine ⟨T', [.int (i : Nat), y], rfl, sqT upd_same, rfl, .int (i : Nat), [y], rfl, y, [], rfl, rfl, rfl, ?_⟩
    refine ⟨_, rfl, _, rfl, rfl, _, rfl, ?_⟩
    have ei : decide (V.int (i : Int) = V.int (c : Int)) = decide (i = c) := by
      rw [Bool.eq_iff_iff, decide_eq_true_eq, decide_eq_true_eq]
      constructor
      · intro h
        have := V.int.inj h
        omega
      · intro h
        rw [h]
    rw [ei]
    refine ite2 (fun hc => ?_) (fun hc => ?_)
    · refine ⟨_, rfl, _, e4, hsz, Same.mut (s2.trans h1) hD, ?_⟩
      rw [upd_same, set_take gx, if_pos (of_decide_eq_true hc)]
    · refine ⟨_, rfl, _, e4, hsz, Same.mut (s2.trans h1) hD, ?_⟩
      rw [upd_same, set_take gx, if_neg (of_decide_eq_false (Bool.eq_false_iff.mpr hc))]
  · obtain ⟨s2, e2⟩ := hP
    rw [List.take_of_length_le (by rw [List.length_set]; exact Nat.le_refl _)] at e2
    exact ⟨D', _, rfl, .inl ⟨sqL e2, fun l hl => q l _ ((s1.trans s2).trans (same_upd hl)) ((s1.trans s2).free hl) upd_same⟩⟩

/-! ### choose, span, spans_of, lasts, count_with_last, part_counts -/
def spChoose : Sp := fun vs H Q _ => ∃ (n k : Nat), vs = [.int n, .int k] ∧ n ≤ 1000 ∧ k ≤ 1000 ∧ ∀ H', Same H H' → Q (.int (bin n k : Nat)) H'
theorem bin_div {n k : Nat} : ((bin n k : Nat) : Int) * ((n : Int) - (k : Int)) / ((k : Int) + 1) = ((bin n (k + 1) : Nat) : Int) := by
  rcases Nat.lt_or_ge n k with h | h
  · rw [bin_big h, bin_big (show n < k + 1 by omega)]
    simp
  · have h1 := bin_step n k
    have e : ((n : Int) - (k : Int)) = ((n - k : Nat) : Int) := by omega
    rw [e, ← Int.natCast_mul, h1, Int.natCast_mul]
    show _ * ((k + 1 : Nat) : Int) / ((k : Int) + 1) = _
    rw [show ((k : Int) + 1) = ((k + 1 : Nat) : Int) by omega]
    exact Int.mul_ediv_cancel _ (by omega)
theorem ok_choose (T : Bt mg) {f : Addr} {fd : FuncData} {k : Nat} (D : Df K mg "choose" s_choose ["many", "some"] f fd) : Kn P w K mg base (k + 1) "choose" s_choose ["many", "some"] spChoose f fd := by
  refine ⟨D, D.F.ok sc_choose (fun vs H Q E h => ?_) (fun cdv A outer s H vs Q E hr h => ?_)⟩
  · obtain ⟨n, k, rfl, _⟩ := h
    rfl
  obtain ⟨n, k, rfl, hn, hk, q⟩ := h
  refine ⟨_, (pss_cons (ps_set (i := 2) sc_choose.nd rfl (.inl rfl) pe_int)
      (pss_cons (ps_for PassesOwn.never rfl (pi_range1 (by rfl) T.range (pa_cons (pv 1) pa_nil)) (pg_name (i := 3) sc_choose.nd rfl (.inl rfl)) (pss_one (ps_set (i := 2) sc_choose.nd rfl (.inl rfl) (pe_op op_fdiv (pe_op op_mul (pv 2) (pe_op op_sub (pv 0) (pv 3))) (pe_op op_add (pv 3) pe_int)))))
      (pss_one (ps_ret (pv 2))))), ?_⟩
  refine ⟨_, rfl, (k : Int), rfl, by omega, by omega, ?_⟩
  have ek : ((k : Int)).toNat = k := Int.toNat_natCast k
  rw [ek]
  refine for_range (lo := 0) (n := k) (fun i σ H' => Same H H' ∧ ∃ y3, σ = [some (.int (n : Int)), some (.int (k : Int)), some (.int ((bin n i : Nat) : Int)), y3]) ⟨Same.refl _, none, by rw [bin_zero]; rfl⟩ (fun i σ H' hi hP => ?_) (fun σ H' hP => ?_)
  · obtain ⟨s1, y3, rfl⟩ := hP
    have ez : (0 : Int) + (i : Int) = (i : Int) := Int.zero_add _
    rw [ez]
    refine ⟨_, rfl, _, rfl, _, rfl, _, _, rfl, rfl, _, _, rfl, rfl, .inr ⟨by omega, by omega⟩, _, rfl, _, _, rfl, rfl, _, _, rfl, rfl, ⟨?_, ?_⟩, s1, some (.int (i : Int)), ?_⟩
    · show (0 : Int) < (i : Int) + 1
      omega
    · show (i : Int) + 1 < 1073741824
      omega
    · show [some (V.int (n : Int)), some (V.int (k : Int)), some (V.int (((bin n i : Nat) : Int) * ((n : Int) - (i : Int)) / ((i : Int) + 1))), some (V.int (i : Int))] = _
      rw [bin_div]
  · obtain ⟨s1, y3, rfl⟩ := hP
    exact ⟨_, rfl, q _ s1⟩
/-! what spans_of returns -/
def spanO (W : Int → List Int) (R : List Int) (n : Nat) : List (List Int) := (List.range n).map fun a => [(((spanP W R a).1 : Nat) : Int), (((spanP W R a).2 : Nat) : Int)]
theorem spanO_succ (W : Int → List Int) (R : List Int) (n : Nat) : spanO W R (n + 1) = spanO W R n ++ [[(((spanP W R n).1 : Nat) : Int), (((spanP W R n).2 : Nat) : Int)]] := by
  unfold spanO
  rw [List.range_succ, List.map_append]
  rfl
theorem spanO_get {W : Int → List Int} {R : List Int} {n a : Nat} (h : a < n) : (spanO W R n)[a]? = some [(((spanP W R a).1 : Nat) : Int), (((spanP W R a).2 : Nat) : Int)] := by
  unfold spanO
  rw [List.getElem?_map, List.getElem?_range h]
  rfl
theorem spanO_len (W : Int → List Int) (R : List Int) (n : Nat) : (spanO W R n).length = n := by
  unfold spanO
  rw [List.length_map, List.length_range]
def spSpan (K : PySem.W.Frag) : Sp := fun vs H Q _ => ∃ (a b : Addr) (ys : List V) (R : List Int) (i : Nat), vs = [.ref a, .ref b, .int i] ∧ Sq K H a ys ∧ SqL K H b (R.map V.int) ∧ ys.length ≤ 100 ∧ (∀ y ∈ ys, TabV ys.length y) ∧ (∀ c ∈ R, c ∈ fullL ys) ∧ R.length ≤ 100 ∧ i < R.length ∧
  ∀ p H', Same H H' → H' p = some (.tup [.int ((spanP (wantL ys) R i).1 : Nat), .int ((spanP (wantL ys) R i).2 : Nat)]) → Q (.ref p) H'
def nearN (W : Int → List Int) (R : List Int) (a n : Nat) : List Nat := (List.range n).filter fun p => decide (p = a) || decide (R.getD p 0 ∈ W (R.getD a 0))
theorem nearN_succ (W : Int → List Int) (R : List Int) (a n : Nat) : (nearN W R a (n + 1)) = nearN W R a n ++ (if (decide (n = a) || decide (R.getD n 0 ∈ W (R.getD a 0))) = true then [n] else []) := by
  unfold nearN
  rw [List.range_succ, List.filter_append]
  congr 1
  simp only [List.filter_cons, List.filter_nil]
theorem nearN_len (W : Int → List Int) (R : List Int) (a n : Nat) : (nearN W R a n).length ≤ n := by
  unfold nearN
  exact Nat.le_trans (List.length_filter_le _ _) (by rw [List.length_range]; exact Nat.le_refl _)
def natV (ns : List Nat) : List V := ns.map fun (n : Nat) => V.int (n : Int)
theorem natV_len (ns : List Nat) : (natV ns).length = ns.length := List.length_map ..
theorem ok_span (T : Bt mg) {f f1 : Addr} {fd fd1 : FuncData} {k : Nat} (D : Df K mg "span" s_span ["table", "rest", "at"] f fd) (k_needed_cells : Kn P w K mg base 3 "needed_cells" s_needed_cells ["table", "cell"] (spNeeded K) f1 fd1) : Kn P w K mg base 4 "span" s_span ["table", "rest", "at"] (spSpan K) f fd := by
  refine ⟨D, D.F.ok sc_span (fun vs H Q E h => ?_) (fun cdv A outer s H vs Q E hr h => ?_)⟩
  · obtain ⟨a, b, ys, R, i, rfl, _⟩ := h
    rfl
  obtain ⟨a, b, ys, R, i, rfl, hA, hB, hl, tab, hR, hRl, hi, q⟩ := h
  refine ⟨_, (pss_cons (ps_set (i := 3) sc_span.nd rfl (.inr rfl) (pe_call k_needed_cells.G (hr.mono (by omega)) (by rfl) k_needed_cells.D.g k_needed_cells.D.F.kp k_needed_cells.D.b .nil pass0 (pa_cons (pv 0) (pa_cons (pe_ix (ix_listK (K := K) rfl) (pv 1) (pv 2) (fun _ _ => rfl)) pa_nil))))
      (pss_cons (ps_setLc (i := 4) (own := [("place", 5), ("cell", 6)]) (by rfl) sc_span.nd rfl rfl (sw_true rfl rfl rfl (by decide +kernel)) (pi_enum (by rfl) T.enumerate (pa_cons (pv 1) pa_nil)) (blkOk_by (own := [("place", 5), ("cell", 6)]) (N := ["table", "rest", "at", "needed", "within", "place", "cell"]) (sc := defScope s_span) (by decide +kernel)) (fun _ _ _ _ _ => (pg_tupK (K := K) (n := 2) rfl rfl (pgs_cons (pg_name (i := 5) sc_span.nd rfl (.inl rfl)) (pgs_cons (pg_name (i := 6) sc_span.nd rfl (.inl rfl)) pgs_nil)))) (fun _ _ _ _ _ => (pts_one (PW.pt (pw_or (pt_cmpR op_eq (pv 5) (pv 2) (nomark _)) (pw_or1 (pt_cmpR (op_inK (K := K) rfl) (pv 6) (pv 3) (by rfl))))))) (fun _ _ _ _ _ => (pv 5)))
      (pss_one (ps_ret (pe_tup (pa_cons (pe_ix (ix_listK (K := K) rfl) (pv 4) pe_int (fun _ _ => rfl)) (pa_cons (pe_op op_add (pe_ix (ix_listK (K := K) rfl) (pv 4) (pe_un un_neg pe_int) (fun _ _ => rfl)) pe_int) pa_nil))))))), ?_⟩
  have gi : R[i]? = some R[i] := List.getElem?_eq_getElem hi
  have gd : R.getD i 0 = R[i] := by rw [List.getD_eq_getElem?_getD, gi]; rfl
  obtain ⟨ic, eic, hic, _⟩ := fullL_mem.mp (hR _ (List.getElem_mem hi))
  have gv : (R.map V.int)[i]? = some (.int R[i]) := by rw [List.getElem?_map, gi]; rfl
  refine ⟨_, rfl, _, rfl, _, rfl, b, _, (i : Int), _, rfl, rfl, hB, atI_nat gv, a, ys, ic, congrArg (fun z => [V.ref a, V.int z]) eic, hA, hl, hic, tab, fun np H1 s1 nnp gnp => ?_⟩
  rw [← eic] at gnp
  dsimp only [tSeq]
  refine ⟨_, rfl, b, _, rfl, s1.seq hB, fun D1 hD1 => ?_⟩
  refine lc_it (walk_enum (xs := R.map V.int)) (fun j H2 => Same H1 H2 ∧ H2 D1 = some (.lst (natV (nearN (wantL ys) R i j)))) ⟨same_upd hD1, upd_same⟩ (fun j H2 _ hP => hP.1.seq (s1.seq hB)) (fun j v H2 H3 hj hP hY => ?_) (fun H2 hP => ?_)
  · obtain ⟨s2, e2⟩ := hP
    obtain ⟨T', x0, x, rfl, hT, rfl, e0, gx⟩ := hY
    cases e0
    change (R.map V.int)[j]? = some x at gx
    rw [List.getElem?_map, Option.map_eq_some_iff] at gx
    obtain ⟨c, gc, rfl⟩ := gx
    rw [List.length_map] at hj
    have gcd : R.getD j 0 = c := by rw [List.getD_eq_getElem?_getD, gc]; rfl
    have h1 : Same H2 (upd H2 T' (.tup [.int (j : Nat), .int c])) := same_upd hT
    have s3 := s2.trans h1
    have e3 := h1 _ _ e2
    refine ⟨T', [.int (j : Nat), .int c], rfl, sqT upd_same, rfl, .int (j : Nat), [.int c], rfl, .int c, [], rfl, rfl, rfl, ?_⟩
    have hsz : (natV (nearN (wantL ys) R i j)).length < sizeLine := by
      rw [natV_len]
      exact small1000 (Nat.le_trans (nearN_len _ _ _ _) (by omega))
    have done : ∀ (bb : Bool) (H5 : Hp), Same (upd H2 T' (.tup [.int (j : Nat), .int c])) H5 → bb = (decide (j = i) || decide (c ∈ wantL ys R[i])) → if bb = true then ∃ acc, H5 D1 = some (.lst acc) ∧ acc.length < sizeLine ∧ Same H1 (upd H5 D1 (.lst (acc ++ [.int (j : Int)]))) ∧ (upd H5 D1 (.lst (acc ++ [.int (j : Int)]))) D1 = some (.lst (natV (nearN (wantL ys) R i (j + 1)))) else Same H1 H5 ∧ H5 D1 = some (.lst (natV (nearN (wantL ys) R i (j + 1)))) := fun bb H5 s5 eb => by
      rw [nearN_succ, gcd, gd, ← eb]
      cases bb with
      | true =>
        refine iteT ⟨_, s5 _ _ e3, hsz, Same.mut (s3.trans s5) hD1, ?_⟩
        rw [upd_same, if_pos rfl]
        unfold natV
        rw [List.map_append]
        rfl
      | false =>
        refine iteF ⟨s3.trans s5, ?_⟩
        rw [if_neg Bool.false_ne_true, List.append_nil]
        exact s5 _ _ e3
    refine ⟨_, rfl, _, rfl, rfl, _, rfl, ?_⟩
    have ei : decide (V.int (j : Int) = V.int (i : Int)) = decide (j = i) := by
      rw [Bool.eq_iff_iff, decide_eq_true_eq, decide_eq_true_eq]
      constructor
      · intro h
        have := V.int.inj h
        omega
      · intro h
        rw [h]
    rw [ei]
    refine ite2 (fun hc => ?_) (fun hc => ?_)
    · have := done true _ (Same.refl _) (by rw [hc]; rfl)
      rw [if_pos rfl] at this
      exact iteT ⟨_, rfl, this⟩
    · refine ⟨_, rfl, _, rfl, np, _, rfl, .inr (sqT (s3 _ _ gnp)), rfl, flat_ints _, _, rfl, ?_⟩
      rw [if_neg Bool.false_ne_true, inV_ints]
      have := done (decide (c ∈ wantL ys R[i])) _ (Same.refl _) (by rw [Bool.eq_false_iff.mpr hc, Bool.false_or])
      refine ite2 (fun hd => ?_) (fun hd => ?_)
      · rw [if_pos hd] at this
        exact ⟨_, rfl, this⟩
      · rw [if_neg hd] at this
        exact this
  · obtain ⟨s2, e2⟩ := hP
    rw [List.length_map] at e2
    have en : nearN (wantL ys) R i R.length = nearP (wantL ys) R i := rfl
    rw [en] at e2
    have hin : i ∈ nearP (wantL ys) R i := near_mem.mpr ⟨hi, .inl rfl⟩
    have hsp : spanP (wantL ys) R i = ((nearP (wantL ys) R i).headD 0, (nearP (wantL ys) R i).getLastD 0 + 1) := rfl
    generalize nearP (wantL ys) R i = ns at e2 hin hsp
    cases ns with
    | nil => cases hin
    | cons x r =>
      have hlast : atI (natV (x :: r)) (-1) = some (.int (((x :: r).getLastD 0 : Nat) : Int)) := by
        have h1 : natV (x :: r) = natV (x :: r).dropLast ++ [.int ((((x :: r).getLast (List.cons_ne_nil _ _)) : Nat) : Int)] := by
          unfold natV
          rw [← List.map_singleton (f := fun (n : Nat) => V.int (n : Int)), ← List.map_append, List.dropLast_concat_getLast]
        have h2 : (x :: r).getLastD 0 = (x :: r).getLast (List.cons_ne_nil _ _) := List.getLastD_eq_getLast?.trans (by rw [List.getLast?_eq_some_getLast (List.cons_ne_nil x r)]; rfl)
        rw [h1, h2]
        exact atI_last _ _
      refine ⟨_, rfl, D1, _, 0, _, rfl, rfl, sqL e2, atI_nat (j := 0) rfl, _, rfl, _, rfl, D1, _, -1, _, rfl, rfl, sqL e2, hlast, _, _, rfl, rfl, (by show 2 ≤ sizeLine; decide), fun p hp => q p _ ((s1.trans s2).trans (same_upd hp)) ?_⟩
      rw [upd_same, hsp]
      rfl
def spSpans (K : PySem.W.Frag) : Sp := fun vs H Q _ => ∃ (a b : Addr) (ys : List V) (R : List Int), vs = [.ref a, .ref b] ∧ Sq K H a ys ∧ SqL K H b (R.map V.int) ∧ ys.length ≤ 100 ∧ (∀ y ∈ ys, TabV ys.length y) ∧ (∀ c ∈ R, c ∈ fullL ys) ∧ R.length ≤ 100 ∧
  ∀ p zs H', Same H H' → H p = none → H' p = some (.lst zs) → DpAll K H' zs ((spanO (wantL ys) R R.length).map dT) → Q (.ref p) H'
theorem ok_spans (T : Bt mg) {f f1 : Addr} {fd fd1 : FuncData} {k : Nat} (D : Df K mg "spans_of" s_spans_of ["table", "rest"] f fd) (k_span : Kn P w K mg base 4 "span" s_span ["table", "rest", "at"] (spSpan K) f1 fd1) : Kn P w K mg base 5 "spans_of" s_spans_of ["table", "rest"] (spSpans K) f fd := by
  refine ⟨D, D.F.ok sc_spans_of (fun vs H Q E h => ?_) (fun cdv A outer s H vs Q E hr h => ?_)⟩
  · obtain ⟨a, b, ys, R, rfl, _⟩ := h
    rfl
  obtain ⟨a, b, ys, R, rfl, hA, hB, hl, tab, hR, hRl, q⟩ := h
  refine ⟨_, (pss_one (ps_ret (pe_lc (own := [("at", 2)]) (by rfl) sc_spans_of.nd (pi_range1 (by rfl) T.range (pa_cons (pe_callB (call_lenK (K := K) rfl) (by rfl) T.len (by decide +kernel) (pa_cons (pv 1) pa_nil)) pa_nil)) (blkOk_by (own := [("at", 2)]) (N := ["table", "rest", "at"]) (sc := defScope s_spans_of) (by decide +kernel)) (fun _ _ _ _ _ => (pg_name (i := 2) sc_spans_of.nd rfl (.inl rfl))) (fun _ _ _ _ _ => pts_nil) (fun _ _ _ _ _ => (pe_call k_span.G (hr.mono (by omega)) (by rfl) k_span.D.g k_span.D.F.kp k_span.D.b .nil pass0 (pa_cons (pv 0) (pa_cons (pv 1) (pa_cons (pv 2) pa_nil)))))))), ?_⟩
  refine ⟨_, rfl, b, _, rfl, .inl hB, _, rfl, by omega, by rw [List.length_map]; omega, fun D1 hD1 => ?_⟩
  rw [List.length_map, Int.toNat_natCast]
  refine lc_range (lo := 0) (n := R.length) (fun i H2 => ∃ zs, Same H H2 ∧ H2 D1 = some (.lst zs) ∧ DpAll K H2 zs ((spanO (wantL ys) R i).map dT)) ⟨[], same_upd hD1, upd_same, .nil⟩ (fun i H2 hi hP => ?_) (fun H2 hP => ?_)
  · obtain ⟨zs, s2, e2, d2⟩ := hP
    have ez : (0 : Int) + (i : Int) = (i : Int) := Int.zero_add _
    rw [ez]
    have hzl : zs.length = i := by
      have := dpAll_len d2
      rw [List.length_map, spanO_len] at this
      exact this
    refine ⟨rfl, _, rfl, _, rfl, _, rfl, a, b, ys, R, i, rfl, Same.sq s2 hA, s2.seq hB, hl, tab, hR, hRl, hi, fun p H3 s3 gp => ?_⟩
    have e3 := s3 _ _ e2
    refine ⟨zs, e3, line_ok (by omega), zs ++ [.ref p], Same.mut (s2.trans s3) hD1, upd_same, ?_⟩
    rw [spanO_succ, List.map_append]
    refine dpAll_app (ords_upd e3 (dp_sameA s3 d2)) ?_
    exact ords_upd (os := [[(((spanP (wantL ys) R i).1 : Nat) : Int), (((spanP (wantL ys) R i).2 : Nat) : Int)]]) e3 (.cons (dp_T (sqT gp)) .nil)
  · obtain ⟨zs, s2, e2, d2⟩ := hP
    exact q D1 zs H2 s2 hD1 e2 d2
/-- the spans of a row stand at b -/
structure SpansAt (K : PySem.W.Frag) (H : Hp) (b : Addr) (W : Int → List Int) (R : List Int) (zs : List V) : Prop where
  at_ : SqL K H b zs
  all : DpAll K H zs ((spanO W R R.length).map dT)
theorem SpansAt.same {H H' : Hp} {b : Addr} {W : Int → List Int} {R : List Int} {zs : List V} (h : SpansAt K H b W R zs) (e : Same H H') : SpansAt K H' b W R zs := ⟨e.seq h.at_, dp_sameA e h.all⟩
theorem SpansAt.get {H : Hp} {b : Addr} {W : Int → List Int} {R : List Int} {zs : List V} (h : SpansAt K H b W R zs) {a : Nat} (ha : a < R.length) : ∃ t, zs[a]? = some (.ref t) ∧ SqT K H t [.int (((spanP W R a).1 : Nat) : Int), .int (((spanP W R a).2 : Nat) : Int)] := by
  have hl := dpAll_len h.all
  rw [List.length_map, spanO_len] at hl
  have hz : zs[a]? = some (zs[a]'(by omega)) := List.getElem?_eq_getElem (by omega)
  obtain ⟨d, gd, hd⟩ := dpAll_get h.all hz
  rw [List.getElem?_map, spanO_get ha] at gd
  cases gd
  obtain ⟨t, et, ht⟩ := ord_at hd
  exact ⟨t, by rw [hz, et], ht⟩
theorem SpansAt.len {H : Hp} {b : Addr} {W : Int → List Int} {R : List Int} {zs : List V} (h : SpansAt K H b W R zs) : zs.length = R.length := by
  have hl := dpAll_len h.all
  rw [List.length_map, spanO_len] at hl
  exact hl
def spLasts (K : PySem.W.Frag) : Sp := fun vs H Q _ => ∃ (b : Addr) (W : Int → List Int) (R : List Int) (zs : List V) (f e : Nat), vs = [.ref b, .int f, .int e] ∧ SpansAt K H b W R zs ∧ R.length ≤ 100 ∧ f ≤ e ∧ e ≤ R.length ∧
  ∀ p H', Same H H' → H p = none → H' p = some (.lst (natV (lastsP W R f e))) → Q (.ref p) H'
def lastB (W : Int → List Int) (R : List Int) (f e a : Nat) : Bool := decide (f ≤ (spanP W R a).1) && decide ((spanP W R a).2 ≤ e)
def lastsN (W : Int → List Int) (R : List Int) (f e n : Nat) : List Nat := ((List.range n).map (f + ·)).filter (lastB W R f e)
theorem lastsN_succ (W : Int → List Int) (R : List Int) (f e n : Nat) : lastsN W R f e (n + 1) = lastsN W R f e n ++ (if lastB W R f e (f + n) = true then [f + n] else []) := by
  unfold lastsN
  rw [List.range_succ, List.map_append, List.filter_append]
  congr 1
  simp only [List.map_cons, List.map_nil, List.filter_cons, List.filter_nil]
theorem lastsN_len (W : Int → List Int) (R : List Int) (f e n : Nat) : (lastsN W R f e n).length ≤ n := by
  unfold lastsN
  refine Nat.le_trans (List.length_filter_le _ _) ?_
  rw [List.length_map, List.length_range]
  exact Nat.le_refl _
def spWithin (K : PySem.W.Frag) : Sp := fun vs H Q _ => ∃ (t : Addr) (a b f e : Nat), vs = [.ref t, .int f, .int e] ∧ SqT K H t [.int a, .int b] ∧ Q (.bl (decide (f ≤ a) && decide (b ≤ e))) H
theorem ok_within (T : Bt mg) {f : Addr} {fd : FuncData} {k : Nat} (D : Df K mg "within_part" s_within_part ["own", "first", "end"] f fd) : Kn P w K mg base (k + 1) "within_part" s_within_part ["own", "first", "end"] (spWithin K) f fd := by
  refine ⟨D, D.F.ok sc_within_part (fun vs H Q E h => ?_) (fun cdv A outer s H vs Q E hr h => ?_)⟩
  · obtain ⟨t, a, b, f, e, rfl, _⟩ := h
    rfl
  obtain ⟨t, a, b, f, e, rfl, ht, q⟩ := h
  refine ⟨_, (pss_one (ps_ret (pe_and (pe_cmpR op_le (pv 1) (pe_ix (ix_tupK (K := K) rfl) (pv 0) pe_int (fun _ _ => rfl)) (nomark _)) (pe_one (pe_cmpR op_le (pe_ix (ix_tupK (K := K) rfl) (pv 0) pe_int (fun _ _ => rfl)) (pv 2) (nomark _)))))), ?_⟩
  have c1 : decide ((f : Int) ≤ (a : Int)) = decide (f ≤ a) := by
    rw [Bool.eq_iff_iff, decide_eq_true_eq, decide_eq_true_eq]
    omega
  have c2 : decide ((b : Int) ≤ (e : Int)) = decide (b ≤ e) := by
    rw [Bool.eq_iff_iff, decide_eq_true_eq, decide_eq_true_eq]
    omega
  refine ⟨_, rfl, _, rfl, t, _, 0, _, rfl, rfl, ht, atI_nat (j := 0) rfl, _, _, rfl, rfl, _, rfl, ?_⟩
  rw [c1]
  refine ite2 (fun hc => ?_) (fun hc => ?_)
  · rw [hc, Bool.true_and] at q
    refine ⟨_, rfl, t, _, 1, _, rfl, rfl, ht, atI_nat (j := 1) rfl, _, rfl, _, _, rfl, rfl, ?_⟩
    show Q (.bl (decide ((b : Int) ≤ (e : Int)))) H
    rw [c2]
    exact q
  · rw [Bool.eq_false_iff.mpr hc, Bool.false_and] at q
    exact q
theorem ok_lasts (T : Bt mg) {f f1 : Addr} {fd fd1 : FuncData} {k : Nat} (D : Df K mg "lasts" s_lasts ["spans", "first", "end"] f fd) (k_within_part : Kn P w K mg base (k + 1) "within_part" s_within_part ["own", "first", "end"] (spWithin K) f1 fd1) : Kn P w K mg base (k + 2) "lasts" s_lasts ["spans", "first", "end"] (spLasts K) f fd := by
  refine ⟨D, D.F.ok sc_lasts (fun vs H Q E h => ?_) (fun cdv A outer s H vs Q E hr h => ?_)⟩
  · obtain ⟨b, W, R, zs, f, e, rfl, _⟩ := h
    rfl
  obtain ⟨b, W, R, zs, f, e, rfl, hZ, hRl, hfe, hel, q⟩ := h
  refine ⟨_, (pss_one (ps_ret (pe_lc (own := [("at", 3)]) (by rfl) sc_lasts.nd (pi_range2 (by rfl) T.range (pa_cons (pv 1) (pa_cons (pv 2) pa_nil))) (blkOk_by (own := [("at", 3)]) (N := ["spans", "first", "end", "at"]) (sc := defScope s_lasts) (by decide +kernel)) (fun _ _ _ _ _ => (pg_name (i := 3) sc_lasts.nd rfl (.inl rfl))) (fun _ _ _ _ _ => (pts_one (pt_val (pe_call k_within_part.G (hr.mono (by omega)) (by rfl) k_within_part.D.g k_within_part.D.F.kp k_within_part.D.b .nil pass0 (pa_cons (pe_ix (ix_listK (K := K) rfl) (pv 0) (pv 3) (fun _ _ => rfl)) (pa_cons (pv 1) (pa_cons (pv 2) pa_nil))))))) (fun _ _ _ _ _ => (pv 3))))), ?_⟩
  refine ⟨_, rfl, _, rfl, (f : Int), (e : Int), rfl, ⟨by omega, by omega, by omega, by omega⟩, fun D1 hD1 => ?_⟩
  have en : ((e : Int) - (f : Int)).toNat = e - f := by omega
  rw [en]
  refine lc_range (lo := (f : Int)) (n := e - f) (fun i H2 => Same H H2 ∧ H2 D1 = some (.lst (natV (lastsN W R f e i)))) ⟨same_upd hD1, upd_same⟩ (fun i H2 hi hP => ?_) (fun H2 hP => q D1 H2 hP.1 hD1 hP.2)
  obtain ⟨s2, e2⟩ := hP
  have ez : (f : Int) + (i : Int) = ((f + i : Nat) : Int) := by omega
  rw [ez]
  have hZ2 := hZ.same s2
  obtain ⟨t, gz, ht⟩ := hZ2.get (a := f + i) (by omega)
  have hsz : (natV (lastsN W R f e i)).length < sizeLine := by
    rw [natV_len]
    exact small1000 (Nat.le_trans (lastsN_len _ _ _ _ _) (by omega))
  have eb : lastB W R f e (f + i) = (decide (f ≤ (spanP W R (f + i)).1) && decide ((spanP W R (f + i)).2 ≤ e)) := rfl
  rw [lastsN_succ]
  refine ⟨rfl, _, rfl, _, rfl, b, zs, ((f + i : Nat) : Int), _, rfl, rfl, hZ2.at_, atI_nat gz, _, rfl, _, rfl, t, _, _, f, e, rfl, ht, _, rfl, ?_⟩
  rw [← eb]
  refine ite2 (fun hd => ?_) (fun hd => ?_)
  · refine ⟨_, rfl, _, e2, hsz, Same.mut s2 hD1, ?_⟩
    rw [upd_same, if_pos hd]
    unfold natV
    rw [List.map_append]
    rfl
  · refine ⟨s2, ?_⟩
    rw [if_neg hd, List.append_nil]
    exact e2
/-- a dict of counts stands at d -/
def CntAt (H : Hp) (d : Addr) (kvs : List (List Key × V)) : Prop := H d = some (.dT kvs)
def key2 (f e : Nat) : List Key := [Sum.inl (f : Int), Sum.inl (e : Int)]
def spWithLast (K : PySem.W.Frag) : Sp := fun vs H Q _ => ∃ (d : Addr) (kvs : List (List Key × V)) (f a e x y : Nat), vs = [.ref d, .int f, .int a, .int e] ∧ H d = some (.dT kvs) ∧ f ≤ a ∧ a < e ∧ e ≤ 100 ∧ valV kvs (key2 f a) = some (.int (x : Nat)) ∧ valV kvs (key2 (a + 1) e) = some (.int (y : Nat)) ∧ x < 2 ^ 60 ∧ y < 2 ^ 60 ∧
  ∀ H', Same H H' → Q (.int ((bin (e - f - 1) (a - f) * x * y : Nat) : Int)) H'
theorem ok_withlast (T : Bt mg) {f f1 : Addr} {fd fd1 : FuncData} {k : Nat} (D : Df K mg "count_with_last" s_count_with_last ["counts", "first", "last", "end"] f fd) (k_choose : Kn P w K mg base 1 "choose" s_choose ["many", "some"] spChoose f1 fd1) : Kn P w K mg base 2 "count_with_last" s_count_with_last ["counts", "first", "last", "end"] (spWithLast K) f fd := by
  refine ⟨D, D.F.ok sc_count_with_last (fun vs H Q E h => ?_) (fun cdv A outer s H vs Q E hr h => ?_)⟩
  · obtain ⟨d, kvs, f, a, e, x, y, rfl, _⟩ := h
    rfl
  obtain ⟨d, kvs, f, a, e, x, y, rfl, hd, hfa, hae, he, hx, hy, lx, ly, q⟩ := h
  refine ⟨_, (pss_one (ps_ret (pe_op op_mul (pe_op op_mul (pe_call k_choose.G (hr.mono (by omega)) (by rfl) k_choose.D.g k_choose.D.F.kp k_choose.D.b .nil pass0 (pa_cons (pe_op op_sub (pe_op op_sub (pv 3) (pv 1)) pe_int) (pa_cons (pe_op op_sub (pv 2) (pv 1)) pa_nil))) (pe_dget (hu1 hr) (pv 0) (pe_tup (pa_cons (pv 1) (pa_cons (pv 2) pa_nil))) (fun _ _ => rfl))) (pe_dget (hu1 hr) (pv 0) (pe_tup (pa_cons (pe_op op_add (pv 2) pe_int) (pa_cons (pv 3) pa_nil))) (fun _ _ => rfl))))), ?_⟩
  have e1 : (e : Int) - (f : Int) - 1 = ((e - f - 1 : Nat) : Int) := by omega
  have e2 : (a : Int) - (f : Int) = ((a - f : Nat) : Int) := by omega
  refine ⟨_, rfl, _, rfl, _, _, rfl, rfl, _, _, rfl, rfl, _, rfl, _, rfl, _, _, rfl, rfl, e - f - 1, a - f, ?_, by omega, by omega, fun H1 s1 => ?_⟩
  · show [V.int ((e : Int) - (f : Int) - 1), V.int ((a : Int) - (f : Int))] = _
    rw [e1, e2]
  refine ⟨_, rfl, _, rfl, _, rfl, (by show 2 ≤ sizeLine; decide), fun t1 ht1 => ?_⟩
  have s2 := s1.trans (same_upd (o := .tup [.int (f : Int), .int (a : Int)]) ht1)
  refine ⟨d, .int (x : Nat), rfl, ?_, _, _, rfl, rfl, .inr ⟨by omega, by omega⟩, ?_⟩
  · have := DGet.t (k := key2 f a) (s2 _ _ hd) (show (upd H1 t1 (.tup [.int (f : Int), .int (a : Int)])) t1 = some (.tup ((key2 f a).map kV)) from upd_same)
    rw [hx] at this
    exact this
  refine ⟨_, rfl, _, rfl, _, _, rfl, rfl, _, rfl, (by show 2 ≤ sizeLine; decide), fun t2 ht2 => ?_⟩
  have s3 := s2.trans (same_upd (o := .tup [.int ((a : Int) + 1), .int (e : Int)]) ht2)
  refine ⟨d, .int (y : Nat), rfl, ?_, _, _, rfl, rfl, .inr ⟨by omega, by omega⟩, ?_⟩
  · have := DGet.t (k := key2 (a + 1) e) (s3 _ _ hd) (show (upd (upd H1 t1 (.tup [.int (f : Int), .int (a : Int)])) t2 (.tup [.int ((a : Int) + 1), .int (e : Int)])) t2 = some (.tup ((key2 (a + 1) e).map kV)) from upd_same)
    rw [hy] at this
    exact this
  · have := q _ s3
    rw [Int.natCast_mul, Int.natCast_mul] at this
    exact this

/-! ### part_counts -/
def fct : Nat → Nat
  | 0 => 1
  | n + 1 => (n + 1) * fct n
theorem fct_pos : ∀ n, 0 < fct n
  | 0 => Nat.one_pos
  | n + 1 => Nat.mul_pos (Nat.succ_pos n) (fct_pos n)
theorem fct_le {n m : Nat} (h : n ≤ m) : fct n ≤ fct m := by
  induction h with
  | refl => exact Nat.le_refl _
  | step h ih => exact Nat.le_trans ih (Nat.le_mul_of_pos_left _ (Nat.succ_pos _))
theorem ordsF_le {W : Int → List Int} {R : List Int} : ∀ {n : Nat} {B : List Int}, B.length = n → (ordsF W R n B).length ≤ fct n
  | 0, B, _ => Nat.le_refl _
  | n + 1, B, h => by
    rw [ordsF, List.length_flatMap]
    have key : ∀ l : List Int, (∀ c ∈ l, c ∈ B) → ((l.map fun c => (if okB W R B c = true then (ordsF W R n (B.erase c)).map (· ++ [c]) else []).length)).sum ≤ l.length * fct n := fun l => by
      induction l with
      | nil => intro _; exact Nat.zero_le _
      | cons x r ih =>
        intro hl
        rw [List.map_cons, List.sum_cons, List.length_cons, Nat.succ_mul, Nat.add_comm]
        have h1 := ih fun c hc => hl c (List.mem_cons_of_mem _ hc)
        have h2 : (if okB W R B x = true then (ordsF W R n (B.erase x)).map (· ++ [x]) else []).length ≤ fct n := by
          split
          · rw [List.length_map]
            exact ordsF_le (by rw [List.length_erase_of_mem (hl x (List.mem_cons_self ..)), h]; rfl)
          · exact Nat.zero_le _
        omega
    have := key B fun c hc => hc
    rw [h] at this
    exact this
theorem partN_le {W : Int → List Int} {R : List Int} {f e : Nat} (h : f ≤ e) (he : e ≤ R.length) (h12 : R.length ≤ 12) : partN W R f e < 2 ^ 60 := by
  refine Nat.lt_of_le_of_lt (Nat.le_trans (ordsF_le rfl) (fct_le (m := 12) ?_)) (by decide)
  rw [blk_len h he]
  omega
def spPartCounts (K : PySem.W.Frag) : Sp := fun vs H Q _ => ∃ (b : Addr) (W : Int → List Int) (R : List Int) (zs : List V), vs = [.ref b] ∧ SpansAt K H b W R zs ∧ R.length ≤ 12 ∧ R.Pairwise (· < ·) ∧ Ivl W R ∧
  ∀ d kvs H', Same H H' → H d = none → H' d = some (.dT kvs) → (∀ f e, f ≤ e → e ≤ R.length → valV kvs (key2 f e) = some (.int ((partN W R f e : Nat) : Int))) → Q (.ref d) H'
theorem key2_inj {f e f' e' : Nat} : key2 f e = key2 f' e' ↔ f = f' ∧ e = e' := by
  constructor
  · intro h
    injection h with h1 h2
    injection h2 with h2 _
    have h1 := Sum.inl.inj h1
    have h2 := Sum.inl.inj h2
    omega
  · rintro ⟨rfl, rfl⟩
    rfl
theorem map_natV (ns : List Nat) (g : Nat → Nat) : (ns.map g).map (fun (n : Nat) => (n : Int)) = ns.map fun n => ((g n : Nat) : Int) := by rw [List.map_map]; rfl
theorem sum_cast : ∀ ns : List Nat, ((ns.map fun (n : Nat) => (n : Int))).sum = ((ns.sum : Nat) : Int)
  | [] => rfl
  | n :: r => by
    rw [List.map_cons, List.sum_cons, List.sum_cons, sum_cast r]
    omega
/-! the parts, the smaller ones first -/
def partsP (n : Nat) : List (Nat × Nat) := (List.range n).flatMap fun i => (List.range (n - i)).map fun j => (j, j + (i + 1))
theorem mem_parts {n f e : Nat} : (f, e) ∈ partsP n ↔ f < e ∧ e ≤ n := by
  unfold partsP
  rw [List.mem_flatMap]
  constructor
  · rintro ⟨i, hi, h⟩
    obtain ⟨j, hj, h⟩ := List.mem_map.mp h
    rw [List.mem_range] at hi hj
    injection h with h1 h2
    omega
  · rintro ⟨h1, h2⟩
    refine ⟨e - f - 1, List.mem_range.mpr (by omega), List.mem_map.mpr ⟨f, List.mem_range.mpr (by omega), ?_⟩⟩
    rw [show f + (e - f - 1 + 1) = e by omega]
theorem parts_up (n : Nat) : (partsP n).Pairwise fun p q => p.2 - p.1 ≤ q.2 - q.1 := by
  unfold partsP
  rw [List.pairwise_flatMap]
  refine ⟨fun i _ => ?_, ?_⟩
  · rw [List.pairwise_map]
    exact List.Pairwise.imp (fun _ => by simp) List.pairwise_lt_range
  · refine List.Pairwise.imp (fun h x hx y hy => ?_) List.pairwise_lt_range
    obtain ⟨j, _, rfl⟩ := List.mem_map.mp hx
    obtain ⟨j', _, rfl⟩ := List.mem_map.mp hy
    simp
    omega
theorem parts_before {n m f e f' e' : Nat} (hm : (partsP n)[m]? = some (f, e)) (h1 : f' < e') (h2 : e' ≤ n) (h3 : e' - f' < e - f) : (f', e') ∈ (partsP n).take m := by
  have hin : (f', e') ∈ partsP n := mem_parts.mpr ⟨h1, h2⟩
  obtain ⟨m', hm'⟩ := List.mem_iff_getElem?.mp hin
  rcases Nat.lt_or_ge m' m with h | h
  · refine List.mem_iff_getElem?.mpr ⟨m', ?_⟩
    rw [List.getElem?_take_of_lt h]
    exact hm'
  · exfalso
    obtain ⟨l1, e1⟩ := List.getElem?_eq_some_iff.mp hm
    obtain ⟨l2, e2⟩ := List.getElem?_eq_some_iff.mp hm'
    rcases Nat.lt_or_eq_of_le h with h | h
    · have := List.pairwise_iff_getElem.mp (parts_up n) m m' l1 l2 h
      rw [e1, e2] at this
      simp at this
      omega
    · subst h
      rw [e1] at e2
      injection e2 with a b
      omega
theorem parts_len {n : Nat} (h : n ≤ 12) : (partsP n).length ≤ 78 := by
  have : ∀ n : Fin 13, (partsP n.val).length ≤ 78 := by decide +kernel
  exact this ⟨n, by omega⟩
def partO (p : Nat × Nat) : List Int := [(p.1 : Int), (p.2 : Int)]
def spParts (K : PySem.W.Frag) : Sp := fun vs H Q _ => ∃ (n : Nat), vs = [.int n] ∧ n ≤ 12 ∧ ∀ p zs H', Same H H' → H p = none → H' p = some (.lst zs) → DpAll K H' zs (((partsP n).map partO).map dT) → Q (.ref p) H'
theorem ok_parts (T : Bt mg) {f : Addr} {fd : FuncData} {k : Nat} (D : Df K mg "parts_of" s_parts_of ["many"] f fd) : Kn P w K mg base (k + 1) "parts_of" s_parts_of ["many"] (spParts K) f fd := by
  refine ⟨D, D.F.ok sc_parts_of (fun vs H Q E h => ?_) (fun cdv A outer s H vs Q E hr h => ?_)⟩
  · obtain ⟨n, rfl, _⟩ := h
    rfl
  obtain ⟨n, rfl, hn, q⟩ := h
  refine ⟨_, (pss_one (ps_ret (pe_lc2 (own := [("size", 1), ("first", 2)]) (vs1 := [2]) (by rfl) sc_parts_of.nd (pi_range2 (by rfl) T.range (pa_cons pe_int (pa_cons (pe_op op_add (pv 0) pe_int) pa_nil))) (blkOk_by (own := [("size", 1), ("first", 2)]) (N := ["many", "size", "first"]) (sc := defScope s_parts_of) (by decide +kernel)) (by decide) (fun _ _ _ _ _ => (pg_name (i := 1) sc_parts_of.nd rfl (.inl rfl))) (fun _ _ _ _ _ => pts_nil) (fun _ _ _ _ _ => (pi_range1 (by rfl) T.range (pa_cons (pe_op op_add (pe_op op_sub (pv 0) (pv 1)) pe_int) pa_nil))) (fun _ _ _ _ _ => (pg_name (i := 2) sc_parts_of.nd rfl (.inl rfl))) (fun _ _ _ _ _ => pts_nil) (fun _ _ _ _ _ => (pe_tup (pa_cons (pv 2) (pa_cons (pe_op op_add (pv 2) (pv 1)) pa_nil))))))), ?_⟩
  refine ⟨_, rfl, _, _, rfl, rfl, (1 : Int), _, rfl, ⟨by omega, by omega, by omega, by omega⟩, fun G hG => ?_⟩
  have en : ((n : Int) + 1 - 1).toNat = n := by omega
  rw [en]
  refine lc2_out (walk_range (lo := 1) (n := n)) (fun i H1 => ∃ zs, Same H H1 ∧ H1 G = some (.lst zs) ∧ DpAll K H1 zs (((((List.range i).flatMap fun i => (List.range (n - i)).map fun j => (j, j + (i + 1)))).map partO).map dT)) ⟨[], same_upd hG, upd_same, .nil⟩ (fun _ _ _ _ => trivial) (fun i x H1 H1' hi hP hY => ?_) (fun H1 hP => ?_)
  · obtain ⟨zs, s1, e1, d1⟩ := hP
    obtain ⟨rfl, rfl⟩ := hY
    have ez : (1 : Int) + (i : Int) = ((i + 1 : Nat) : Int) := by omega
    show gName 1 (V.int (1 + (i : Int))) _ _ _
    rw [ez]
    refine ⟨rfl, _, rfl, _, rfl, _, _, rfl, rfl, _, _, rfl, rfl, _, rfl, by omega, by omega, ?_⟩
    have en2 : ((n : Int) - ((i + 1 : Nat) : Int) + 1).toNat = n - i := by omega
    rw [en2]
    have hlen : ∀ j, j ≤ n - i → ((((List.range i).flatMap fun i => (List.range (n - i)).map fun j => (j, j + (i + 1)))) ++ (List.range j).map fun j => (j, j + (i + 1))).length ≤ 1000 := fun j hj => by
      have h1 : ((List.range i).flatMap fun i => (List.range (n - i)).map fun j => (j, j + (i + 1))).length ≤ (partsP n).length := by
        unfold partsP
        have : List.range n = List.range i ++ (List.range (n - i)).map (i + ·) := by
          rw [← List.range_add]
          congr 1
          omega
        rw [this, List.flatMap_append, List.length_append]
        omega
      have := parts_len hn
      rw [List.length_append, List.length_map, List.length_range]
      omega
    refine lc2_in (walk_range (lo := 0) (n := n - i)) (fun j H2 => ∃ zs, Same H H2 ∧ H2 G = some (.lst zs) ∧ DpAll K H2 zs (((((List.range i).flatMap fun i => (List.range (n - i)).map fun j => (j, j + (i + 1))) ++ (List.range j).map fun j => (j, j + (i + 1))).map partO).map dT)) ⟨zs, s1, e1, ?_⟩ (fun _ _ _ _ => trivial) (fun j x H2 H2' hj hP hY => ?_) (fun H2 hP => ?_)
    · rw [List.range_zero, List.map_nil, List.append_nil]
      exact d1
    · obtain ⟨zs2, s2, e2, d2⟩ := hP
      obtain ⟨rfl, rfl⟩ := hY
      have ez : (0 : Int) + (j : Int) = (j : Int) := Int.zero_add _
      show gName 2 (V.int (0 + (j : Int))) _ _ _
      rw [ez]
      have hzl : zs2.length ≤ 1000 := by
        have := dpAll_len d2
        rw [List.length_map, List.length_map] at this
        rw [this]
        exact hlen j (by omega)
      refine ⟨rfl, _, rfl, _, rfl, _, rfl, _, _, rfl, rfl, (by show 2 ≤ sizeLine; decide), fun t ht => ?_⟩
      have ee : (j : Int) + ((i + 1 : Nat) : Int) = ((j + (i + 1) : Nat) : Int) := by omega
      dsimp only
      rw [ee]
      have s3 := same_upd (o := .tup [.int (j : Int), .int ((j + (i + 1) : Nat) : Int)]) ht
      have e3 := s3 _ _ e2
      refine ⟨zs2, e3, line_ok (by omega), zs2 ++ [.ref t], Same.mut (s2.trans s3) hG, upd_same, ?_⟩
      have et : (List.range (j + 1)).map (fun j => (j, j + (i + 1))) = (List.range j).map (fun j => (j, j + (i + 1))) ++ [(j, j + (i + 1))] := by
        rw [List.range_succ, List.map_append]
        rfl
      rw [et, ← List.append_assoc]
      generalize ((List.range i).flatMap fun i => (List.range (n - i)).map fun j => (j, j + (i + 1))) ++ (List.range j).map (fun j => (j, j + (i + 1))) = ls at d2
      rw [List.map_append, List.map_append]
      refine dpAll_app (ords_upd e3 (dp_sameA s3 d2)) ?_
      exact ords_upd (os := [[(j : Int), ((j + (i + 1) : Nat) : Int)]]) e3 (.cons (dp_T (sqT upd_same)) .nil)
    · obtain ⟨zs2, s2, e2, d2⟩ := hP
      refine ⟨zs2, s2, e2, ?_⟩
      rw [List.range_succ, List.flatMap_append]
      have ee : ([i].flatMap fun i => (List.range (n - i)).map fun j => (j, j + (i + 1))) = (List.range (n - i)).map fun j => (j, j + (i + 1)) := by
        rw [List.flatMap_cons, List.flatMap_nil, List.append_nil]
      rw [ee]
      exact d2
  · obtain ⟨zs, s1, e1, d1⟩ := hP
    exact q G zs H1 s1 hG e1 d1
theorem ok_partcounts (T : Bt mg) {f f1 f2 f3 : Addr} {fd fd1 fd2 fd3 : FuncData} {k : Nat} (D : Df K mg "part_counts" s_part_counts ["spans"] f fd) (k_lasts : Kn P w K mg base 2 "lasts" s_lasts ["spans", "first", "end"] (spLasts K) f1 fd1) (k_count_with_last : Kn P w K mg base 2 "count_with_last" s_count_with_last ["counts", "first", "last", "end"] (spWithLast K) f2 fd2)
    (k_parts_of : Kn P w K mg base 1 "parts_of" s_parts_of ["many"] (spParts K) f3 fd3) :
    Kn P w K mg base 3 "part_counts" s_part_counts ["spans"] (spPartCounts K) f fd := by
  refine ⟨D, D.F.ok sc_part_counts (fun vs H Q E h => ?_) (fun cdv A outer s H vs Q E hr h => ?_)⟩
  · obtain ⟨b, W, R, zs, rfl, _⟩ := h
    rfl
  obtain ⟨b, W, R, zs, rfl, hZ, h12, hasc, hiv, q⟩ := h
  refine ⟨_, (pss_cons (ps_set (i := 1) sc_part_counts.nd rfl (.inr rfl) (pe_dcT (own := [("first", 2)]) hr.units0 rfl sc_part_counts.nd (pi_range1 (by rfl) T.range (pa_cons (pe_op op_add (pe_callB (call_lenK (K := K) rfl) (by rfl) T.len (by decide +kernel) (pa_cons (pv 0) pa_nil)) pe_int) pa_nil)) (blkOk_by (own := [("first", 2)]) (N := ["spans", "counts", "first", "end", "at"]) (sc := defScope s_part_counts) (by decide +kernel)) (fun _ _ _ _ _ => (pg_name (i := 2) sc_part_counts.nd rfl (Or.inl rfl))) (fun _ _ _ _ _ => pts_nil) (fun _ _ _ _ _ => (pe_tup (pa_cons (pv 2) (pa_cons (pv 2) pa_nil)))) (fun _ _ _ _ _ => pe_int)))
      (pss_cons (ps_for PassesOwn.never rfl (pi_list (pe_call k_parts_of.G (hr.mono (by omega)) (by rfl) k_parts_of.D.g k_parts_of.D.F.kp k_parts_of.D.b .nil pass0 (pa_cons (pe_callB (call_lenK (K := K) rfl) (by rfl) T.len (by decide +kernel) (pa_cons (pv 0) pa_nil)) pa_nil))) (pg_tup (by rfl) (pgs_cons (pg_name (i := 2) sc_part_counts.nd rfl (.inr rfl)) (pgs_cons (pg_name (i := 3) sc_part_counts.nd rfl (.inr rfl)) pgs_nil))) (pss_one (ps_dput (hu1 hr) (pv 1) (pe_tup (pa_cons (pv 2) (pa_cons (pv 3) pa_nil))) (pe_callB (cr_sum rfl) (by rfl) T.sum (by decide +kernel) (pa_cons (pe_lc (own := [("at", 4)]) (by rfl) sc_part_counts.nd (pi_list (pe_call k_lasts.G (hr.mono (by omega)) (by rfl) k_lasts.D.g k_lasts.D.F.kp k_lasts.D.b .nil pass0 (pa_cons (pv 0) (pa_cons (pv 2) (pa_cons (pv 3) pa_nil))))) (blkOk_by (own := [("at", 4)]) (N := ["spans", "counts", "first", "end", "at"]) (sc := defScope s_part_counts) (by decide +kernel)) (fun _ _ _ _ _ => (pg_name (i := 4) sc_part_counts.nd rfl (.inl rfl))) (fun _ _ _ _ _ => pts_nil) (fun _ _ _ _ _ => (pe_call k_count_with_last.G (hr.mono (by omega)) (by rfl) k_count_with_last.D.g k_count_with_last.D.F.kp k_count_with_last.D.b .nil pass0 (pa_cons (pv 1) (pa_cons (pv 2) (pa_cons (pv 4) (pa_cons (pv 3) pa_nil))))))) pa_nil)) rfl)))
      (pss_one (ps_ret (pv 1))))), ?_⟩
  have hzl := hZ.len
  -- {(first, first): 1 for first in range(len(spans) + 1)}
  refine ⟨_, rfl, b, zs, rfl, .inl hZ.at_, _, _, rfl, rfl, _, rfl, by omega, by omega, fun d hd => ?_⟩
  have en : (((zs.length : Nat) : Int) + 1).toNat = R.length + 1 := by omega
  rw [en]
  refine dcT_it (walk_range (lo := 0) (n := R.length + 1)) (fun i H1 => ∃ kvs, Same H H1 ∧ H1 d = some (.dT kvs) ∧ (∀ f, f < i → valV kvs (key2 f f) = some (.int ((1 : Nat) : Int))) ∧ kvs.length ≤ i) ⟨[], same_upd hd, upd_same, fun f hf => absurd hf (Nat.not_lt_zero _), Nat.le_refl _⟩ (fun _ _ _ _ => trivial) (fun i x H1 H1' hi hP hY => ?_) (fun H1 hP => ?_)
  · obtain ⟨kvs, s1, e1, hk, hkl⟩ := hP
    obtain ⟨rfl, rfl⟩ := hY
    have ez : (0 : Int) + (i : Int) = (i : Int) := Int.zero_add _
    show gName 2 (V.int (0 + (i : Int))) _ _ _
    rw [ez]
    refine ⟨rfl, _, rfl, _, rfl, (by show 2 ≤ sizeLine; decide), fun t ht => ?_⟩
    have s2 := same_upd (o := .tup [.int (i : Int), .int (i : Int)]) ht
    refine ⟨kvs, key2 i i, t, rfl, upd_same, s2 _ _ e1, line_ok (by omega), _, Same.mut (s1.trans s2) hd, upd_same, fun f hf => ?_, ?_⟩
    · rw [valV_put]
      by_cases c : key2 f f = key2 i i
      · rw [if_pos c]
        rfl
      · rw [if_neg c]
        refine hk f ?_
        rcases Nat.lt_succ_iff_lt_or_eq.mp hf with h | h
        · exact h
        · exact absurd (by rw [h]) c
    · have := length_putK kvs (key2 i i) (.int 1)
      omega
  obtain ⟨kvs1, s1, e1, hk1, hkl1⟩ := hP
  have hZ1 := hZ.same s1
  have hpl := parts_len h12
  -- part by part
  dsimp only [tSeq]
  refine ⟨_, rfl, b, zs, rfl, .inl hZ1.at_, R.length, by rw [hzl]; rfl, h12, fun pp ps H2 s2 npp gpp dps => ?_⟩
  have hpsl : ps.length = (partsP R.length).length := by
    have := dpAll_len dps
    rw [List.length_map, List.length_map] at this
    exact this
  refine ⟨pp, rfl, ⟨_, sqL gpp⟩, ?_⟩
  refine for_list (xs := ps) (fun m σ H3 => ∃ (kvs : List (List Key × V)) (y2 y3 : Option V), σ = [some (.ref b), some (.ref d), y2, y3, none] ∧ Same H H3 ∧ (∀ q o, q ≠ d → H2 q = some o → H3 q = some o) ∧ H3 d = some (.dT kvs) ∧ (∀ f, f ≤ R.length → valV kvs (key2 f f) = some (.int ((1 : Nat) : Int))) ∧ (∀ f e, (f, e) ∈ (partsP R.length).take m → valV kvs (key2 f e) = some (.int ((partN W R f e : Nat) : Int))) ∧ kvs.length ≤ 13 + m)
    ⟨kvs1, none, none, rfl, s1.trans s2, fun _ _ _ h => h, s2 _ _ e1, fun f hf => hk1 f (by omega), fun f e h => (by rw [List.take_zero] at h; cases h), by omega⟩ (fun m σ H3 _ hP => ?_) (fun m x σ H3 gx hP => ?_) (fun σ H3 hP => ?_)
  · obtain ⟨kvs3, y2, y3, rfl, s3, k3, e3, hkd, hk3, hkl3⟩ := hP
    exact sqL (k3 _ _ (fun e => by rw [e, e1] at npp; cases npp) gpp)
  · obtain ⟨kvs3, y2, y3, rfl, s3, k3, e3, hkd, hk3, hkl3⟩ := hP
    obtain ⟨dd, gdd, hdd⟩ := dpAll_get dps gx
    rw [List.getElem?_map, List.getElem?_map, Option.map_eq_some_iff] at gdd
    obtain ⟨_, gdd, rfl⟩ := gdd
    rw [Option.map_eq_some_iff] at gdd
    obtain ⟨⟨f, e⟩, gfe, rfl⟩ := gdd
    obtain ⟨t, rfl, ht⟩ := ord_at hdd
    have hmlt : m < (partsP R.length).length := (List.getElem?_eq_some_iff.mp gfe).1
    obtain ⟨hfe, heR⟩ := mem_parts.mp (List.mem_of_getElem? gfe)
    have ht3 : SqT K H3 t [.int (f : Int), .int (e : Int)] := by
      have nt : ∀ {o : HO}, H2 t = some o → (∀ kvs, o ≠ .dT kvs) → t ≠ d := fun h hk e => by
        rw [e, s2 _ _ e1] at h
        exact hk _ (Option.some.inj h).symm
      rcases ht with (h | ⟨o, h⟩) | h
      · exact .inl (.inl (k3 _ _ (nt h (fun _ z => nomatch z)) h))
      · exact .inl (.inr ⟨o, k3 _ _ (nt h (fun _ z => nomatch z)) h⟩)
      · exact .inr h
    have get : ∀ f' e', f' ≤ e' → e' ≤ R.length → e' - f' < e - f → valV kvs3 (key2 f' e') = some (.int ((partN W R f' e' : Nat) : Int)) := fun f' e' h1 h2 h3 => by
      rcases Nat.lt_or_eq_of_le h1 with h | h
      · exact hk3 _ _ (parts_before gfe h h2 h3)
      · subst h
        rw [partN_self]
        exact hkd _ h2
    have hZ3 := hZ.same s3
    refine ⟨t, [.int (f : Int), .int (e : Int)], rfl, ht3, rfl, .int (f : Int), [.int (e : Int)], rfl, .int (e : Int), [], rfl, rfl, ?_⟩
    refine ⟨_, rfl, _, rfl, _, rfl, b, W, R, zs, f, e, rfl, hZ3, by omega, by omega, by omega, fun lp H4 s4 nlp glp => ?_⟩
    refine ⟨lp, rfl, ⟨_, sqL glp⟩, fun D5 hD5 => ?_⟩
    generalize hls : lastsP W R f e = ls at glp
    have hlin : ∀ a ∈ ls, f ≤ a ∧ a < e := fun a ha => by
      rw [← hls] at ha
      unfold lastsP at ha
      obtain ⟨n, hn, rfl⟩ := List.mem_map.mp (List.mem_filter.mp ha).1
      have := List.mem_range.mp hn
      omega
    have hll : ls.length ≤ 13 := by
      rw [← hls]
      unfold lastsP
      refine Nat.le_trans (List.length_filter_le _ _) ?_
      rw [List.length_map, List.length_range]
      omega
    refine lc_list (xs := natV ls) (fun m H5 => Same H4 H5 ∧ H5 D5 = some (.lst (((ls.take m).map fun a => ((bin (e - f - 1) (a - f) * partN W R f a * partN W R (a + 1) e : Nat) : Int)).map V.int))) ⟨same_upd hD5, upd_same⟩ (fun m H5 _ hP => sqL (hP.1 _ _ glp)) (fun m x H5 gx hP => ?_) (fun H5 hP => ?_)
    · obtain ⟨s5, e5⟩ := hP
      unfold natV at gx
      rw [List.getElem?_map, Option.map_eq_some_iff] at gx
      obtain ⟨a, ga, rfl⟩ := gx
      obtain ⟨ha1, ha2⟩ := hlin a (List.mem_of_getElem? ga)
      have hd5 := s5 _ _ (s4 _ _ e3)
      refine ⟨rfl, _, rfl, _, rfl, _, rfl, _, rfl, d, kvs3, f, a, e, partN W R f a, partN W R (a + 1) e, rfl, hd5, ha1, ha2, by omega, get _ _ ha1 (by omega) (by omega), get _ _ (by omega) (by omega) (by omega), partN_le ha1 (by omega) h12, partN_le (by omega) (by omega) h12, fun H6 s6 => ?_⟩
      refine ⟨_, s6 _ _ e5, ?_, Same.mut (s5.trans s6) hD5, ?_⟩
      · rw [List.length_map, List.length_map, List.length_take]
        exact line_ok (by omega)
      · rw [upd_same, List.take_succ, ga, List.map_append, List.map_append]
        rfl
    · obtain ⟨s5, e5⟩ := hP
      rw [natV_len, List.take_length] at e5
      refine ⟨D5, _, rfl, sqL e5, ?_⟩
      have hsum : (ls.map fun a => ((bin (e - f - 1) (a - f) * partN W R f a * partN W R (a + 1) e : Nat) : Int)).sum = ((partN W R f e : Nat) : Int) := by
        rw [part_rec hiv hasc (by omega) (by omega), hls, ← sum_cast, map_natV]
      rw [hsum]
      have hd5 := s5 _ _ (s4 _ _ e3)
      refine ⟨_, rfl, _, rfl, _, rfl, (by show 2 ≤ sizeLine; decide), fun t' ht' => ?_⟩
      have s6 := same_upd (o := .tup [.int (f : Int), .int (e : Int)]) ht'
      have s46 := (s4.trans s5).trans s6
      refine ⟨d, _, rfl, DPut.t (k := key2 f e) (s6 _ _ hd5) upd_same (line_ok (by omega)), ?_⟩
      refine ⟨_, _, _, rfl, Same.mut (s3.trans s46) hd, fun q' o nq hq => ?_, upd_same, fun f' hf' => ?_, fun f' e' h => ?_, ?_⟩
      · rw [upd_ne nq]
        exact s46 _ _ (k3 _ _ nq hq)
      · rw [valV_put, if_neg (fun c => by have := key2_inj.mp c; omega)]
        exact hkd f' hf'
      · rw [valV_put]
        by_cases c : key2 f' e' = key2 f e
        · rw [if_pos c]
          obtain ⟨rfl, rfl⟩ := key2_inj.mp c
          rfl
        · rw [if_neg c]
          refine hk3 f' e' ?_
          rw [List.take_succ, gfe, List.mem_append] at h
          rcases h with h | h
          · exact h
          · rw [Option.toList_some, List.mem_singleton] at h
            injection h with h1 h2
            exact absurd (by rw [h1, h2]) c
      · have := length_putK kvs3 (key2 f e) (.int ((partN W R f e : Nat) : Int))
        omega
  · obtain ⟨kvs3, y2, y3, rfl, s3, k3, e3, hkd, hk3, hkl3⟩ := hP
    refine ⟨_, rfl, q d kvs3 H3 s3 hd e3 fun f e h1 h2 => ?_⟩
    rcases Nat.lt_or_eq_of_le h1 with h | h
    · refine hk3 f e ?_
      rw [hpsl, List.take_length]
      exact mem_parts.mpr ⟨h, h2⟩
    · subst h
      rw [partN_self]
      exact hkd f h2

/-! ### count_rest, possible, starts_order, count_after, count_orders -/
def restC (ys : List V) (cs : List Int) : Nat := cnt (wantL ys) (restL ys cs) (restL ys cs)
theorem part_all (W : Int → List Int) (R : List Int) : partN W R 0 R.length = cnt W R R := by
  unfold partN blk
  rw [List.drop_zero, Nat.sub_zero, List.take_length]
theorem rest_len (ys : List V) (cs : List Int) : (restL ys cs).length ≤ ys.length := Nat.le_trans (List.length_filter_le _ _) (fullN_len ys _)
def spBetween (K : PySem.W.Frag) : Sp := fun vs H Q _ => ∃ (a b c : Addr) (ys : List V) (cs ds : List Int), vs = [.ref a, .ref b, .ref c] ∧ Sq K H a ys ∧ Sq K H b (cs.map V.int) ∧ Sq K H c (ds.map V.int) ∧ ys.length ≤ 12 ∧ (∀ y ∈ ys, TabV ys.length y) ∧ ds.Pairwise (· < ·) ∧ (∀ z ∈ ds, z ∈ fullL ys) ∧ ∀ H', Same H H' → Q (.int ((cnt (wantL ys) (leftL ds cs) (leftL ds cs) : Nat) : Int)) H'
theorem asc_len {ys : List V} {ds : List Int} (h : ds.Pairwise (· < ·)) (hs : ∀ z ∈ ds, z ∈ fullL ys) : ds.length ≤ ys.length := Nat.le_trans (sub_len (h.imp fun h e => by omega) hs) (fullN_len ys _)
theorem ok_between (T : Bt mg) {f f2 f3 : Addr} {fd fd2 fd3 : FuncData} (D : Df K mg "count_between" s_count_between ["table", "came", "cells"] f fd)
    (k_spans_of : Kn P w K mg base 5 "spans_of" s_spans_of ["table", "rest"] (spSpans K) f2 fd2) (k_part_counts : Kn P w K mg base 3 "part_counts" s_part_counts ["spans"] (spPartCounts K) f3 fd3) : Kn P w K mg base 6 "count_between" s_count_between ["table", "came", "cells"] (spBetween K) f fd := by
  refine ⟨D, D.F.ok sc_count_between (fun vs H Q E h => ?_) (fun cdv A outer s H vs Q E hr h => ?_)⟩
  · obtain ⟨a, b, c, ys, cs, ds, rfl, _⟩ := h
    rfl
  obtain ⟨a, b, c, ys, cs, ds, rfl, hA, hB, hC, hl, tab, hasc, hsub, q⟩ := h
  refine ⟨_, (pss_cons (ps_setLc (i := 3) (own := [("cell", 4)]) (by rfl) sc_count_between.nd rfl rfl (sw_true rfl rfl rfl (by decide +kernel)) (pi_seq (pv 2)) (blkOk_by (own := [("cell", 4)]) (N := ["table", "came", "cells", "rest", "cell"]) (sc := defScope s_count_between) (by decide +kernel)) (fun _ _ _ _ _ => (pg_name (i := 4) sc_count_between.nd rfl (.inl rfl))) (fun _ _ _ _ _ => (pts_one (pt_cmpR (op_notInK (K := K) rfl) (pv 4) (pv 1) (by rfl)))) (fun _ _ _ _ _ => (pv 4)))
      (pss_one (ps_ret (pe_dget (hu1 hr) (pe_call k_part_counts.G (hr.mono (by omega)) (by rfl) k_part_counts.D.g k_part_counts.D.F.kp k_part_counts.D.b .nil pass0 (pa_cons (pe_call k_spans_of.G (hr.mono (by omega)) (by rfl) k_spans_of.D.g k_spans_of.D.F.kp k_spans_of.D.b .nil pass0 (pa_cons (pv 0) (pa_cons (pv 3) pa_nil))) pa_nil)) (pe_tup (pa_cons pe_int (pa_cons (pe_callB (call_lenK (K := K) rfl) (by rfl) T.len (by decide +kernel) (pa_cons (pv 3) pa_nil)) pa_nil))) (fun _ _ => rfl))))), ?_⟩
  have hdl := asc_len hasc hsub
  refine ⟨_, rfl, c, _, rfl, hC, fun J G wk hG D1 hD1 => ?_⟩
  refine lc_it wk (fun i H2 => Same H H2 ∧ H2 D1 = some (.lst (((ds.take i).filter fun c => decide (c ∉ cs)).map V.int))) ⟨same_upd hD1, upd_same⟩ (fun i H2 _ hP => hG _ (ats_same hP.1)) (fun i x H2 H2' hi hP hY => ?_) (fun H2 hP => ?_)
  · obtain ⟨s2, e2⟩ := hP
    obtain ⟨rfl, gx⟩ := hY
    rw [List.getElem?_map, Option.map_eq_some_iff] at gx
    obtain ⟨z, gc, rfl⟩ := gx
    refine ⟨rfl, _, rfl, _, rfl, b, _, rfl, Same.sq s2 hB, rfl, flat_ints _, _, rfl, ?_⟩
    rw [if_pos rfl, inV_ints, fil_step gc]
    have ed : (!decide (z ∈ cs)) = decide (z ∉ cs) := by simp
    rw [ed]
    refine ite2 (fun hc => ?_) (fun hc => ?_)
    · refine ⟨_, rfl, _, e2, fil_small (by omega), Same.mut s2 hD1, ?_⟩
      rw [upd_same, if_pos hc]
    · refine ⟨s2, ?_⟩
      rw [if_neg hc, List.append_nil]
      exact e2
  obtain ⟨s2, e2⟩ := hP
  rw [List.length_map, List.take_length] at e2
  have e2' : H2 D1 = some (.lst ((leftL ds cs).map V.int)) := e2
  have hrl : (leftL ds cs).length ≤ ds.length := List.length_filter_le _ _
  have hsb : ∀ c ∈ leftL ds cs, c ∈ fullL ys := fun c hc => hsub c (List.mem_filter.mp hc).1
  dsimp only [tSeq]
  refine ⟨_, rfl, _, rfl, a, D1, ys, leftL ds cs, rfl, Same.sq s2 hA, sqL e2', by omega, tab, hsb, by omega, fun p3 zs H3 s3 np3 g3 d3 => ?_⟩
  refine ⟨p3, wantL ys, leftL ds cs, zs, rfl, ⟨sqL g3, d3⟩, by omega, hasc.filter _, want_ivl hsb, fun d kvs H4 s4 nd gd hk => ?_⟩
  have g4 := s4 _ _ (s3 _ _ e2')
  refine ⟨_, rfl, D1, _, rfl, .inl (sqL g4), (by show 2 ≤ sizeLine; decide), fun t ht => ?_⟩
  have s5 := same_upd (o := .tup [.int 0, .int (((leftL ds cs).map V.int).length : Int)]) ht
  refine ⟨d, .int ((partN (wantL ys) (leftL ds cs) 0 (leftL ds cs).length : Nat) : Int), rfl, ?_, ?_⟩
  · have := DGet.t (k := key2 0 (leftL ds cs).length) (s5 _ _ gd) (show (upd H4 t (.tup [.int 0, .int (((leftL ds cs).map V.int).length : Int)])) t = some (.tup ((key2 0 (leftL ds cs).length).map kV)) by rw [upd_same, List.length_map]; rfl)
    rw [hk 0 _ (Nat.zero_le _) (Nat.le_refl _)] at this
    exact this
  · rw [part_all]
    exact q _ (((s2.trans s3).trans s4).trans s5)
def spCountRest (K : PySem.W.Frag) : Sp := fun vs H Q _ => ∃ (a b : Addr) (ys : List V) (cs : List Int), vs = [.ref a, .ref b] ∧ Sq K H a ys ∧ Sq K H b (cs.map V.int) ∧ ys.length ≤ 12 ∧ (∀ y ∈ ys, TabV ys.length y) ∧ ∀ H', Same H H' → Q (.int ((restC ys cs : Nat) : Int)) H'
theorem ok_countrest (T : Bt mg) {f f1 f2 : Addr} {fd fd1 fd2 : FuncData} (D : Df K mg "count_rest" s_count_rest ["table", "came"] f fd) (k_taken_cells : Kn P w K mg base 1 "taken_cells" s_taken_cells ["table"] (spTaken K) f1 fd1)
    (k_count_between : Kn P w K mg base 6 "count_between" s_count_between ["table", "came", "cells"] (spBetween K) f2 fd2) : Kn P w K mg base 7 "count_rest" s_count_rest ["table", "came"] (spCountRest K) f fd := by
  refine ⟨D, D.F.ok sc_count_rest (fun vs H Q E h => ?_) (fun cdv A outer s H vs Q E hr h => ?_)⟩
  · obtain ⟨a, b, ys, cs, rfl, _⟩ := h
    rfl
  obtain ⟨a, b, ys, cs, rfl, hA, hB, hl, tab, q⟩ := h
  refine ⟨_, (pss_one (ps_ret (pe_call k_count_between.G (hr.mono (by omega)) (by rfl) k_count_between.D.g k_count_between.D.F.kp k_count_between.D.b .nil pass0 (pa_cons (pv 0) (pa_cons (pv 1) (pa_cons (pe_call k_taken_cells.G (hr.mono (by omega)) (by rfl) k_taken_cells.D.g k_taken_cells.D.F.kp k_taken_cells.D.b .nil pass0 (pa_cons (pv 0) pa_nil)) pa_nil)))))), ?_⟩
  refine ⟨_, rfl, _, rfl, _, rfl, a, ys, rfl, hA, by omega, fun p1 H1 s1 np1 g1 => ?_⟩
  exact ⟨a, b, p1, ys, cs, fullL ys, rfl, Same.sq s1 hA, Same.sq s1 hB, .inl (sqL g1), hl, tab, fullA_lt ys, fun z hz => hz, fun H2 s2 => q _ (s1.trans s2)⟩
def spStarts (K : PySem.W.Frag) : Sp := fun vs H Q _ => ∃ (a b : Addr) (ys : List V) (cs : List Int), vs = [.ref a, .ref b] ∧ Sq K H a ys ∧ Sq K H b (cs.map V.int) ∧ ys.length ≤ 100 ∧ cs.length ≤ 100 ∧ (∀ y ∈ ys, TabV ys.length y) ∧ (∀ z ∈ cs, ∃ i : Nat, z = (i : Int) ∧ i < ys.length) ∧ ∀ H', Same H H' → Q (.bl (possB ys && agreesL ys cs)) H'
theorem mis_dec (ys : List V) (cs : List Int) : decide (misV (misfit ys cs) = .non) = agreesL ys cs := by
  rw [Bool.eq_iff_iff, decide_eq_true_eq, ← misfit_none]
  cases misfit ys cs with
  | none => exact ⟨fun _ => rfl, fun _ => rfl⟩
  | some j => exact ⟨(fun e => nomatch e), (fun e => nomatch e)⟩
theorem ok_starts (T : Bt mg) {f f1 f2 : Addr} {fd fd1 fd2 : FuncData} (D : Df K mg "starts_order" s_starts_order ["table", "cells"] f fd) (k_possible : Kn P w K mg base 6 "possible" s_possible ["table"] (spPossible K) f1 fd1)
    (k_first_misfit : Kn P w K mg base 5 "first_misfit" s_first_misfit ["table", "cells"] (spMisfit K) f2 fd2) : Kn P w K mg base 7 "starts_order" s_starts_order ["table", "cells"] (spStarts K) f fd := by
  refine ⟨D, D.F.ok sc_starts_order (fun vs H Q E h => ?_) (fun cdv A outer s H vs Q E hr h => ?_)⟩
  · obtain ⟨a, b, ys, cs, rfl, _⟩ := h
    rfl
  obtain ⟨a, b, ys, cs, rfl, hA, hB, hl, hcl, tab, hin, q⟩ := h
  refine ⟨_, (pss_one (ps_ret (pe_and (pe_call k_possible.G (hr.mono (by omega)) (by rfl) k_possible.D.g k_possible.D.F.kp k_possible.D.b .nil pass0 (pa_cons (pv 0) pa_nil)) (pe_one (pe_cmpR op_isN (pe_call k_first_misfit.G (hr.mono (by omega)) (by rfl) k_first_misfit.D.g k_first_misfit.D.F.kp k_first_misfit.D.b .nil pass0 (pa_cons (pv 0) (pa_cons (pv 1) pa_nil))) pe_non (nomark _)))))), ?_⟩
  refine ⟨_, rfl, a, ys, rfl, hA, hl, tab, fun H1 s1 => ⟨_, rfl, ?_⟩⟩
  refine ite2 (fun hc => ?_) (fun hc => ?_)
  · rw [hc, Bool.true_and] at q
    refine ⟨_, rfl, _, rfl, a, b, ys, cs, rfl, Same.sq s1 hA, Same.sq s1 hB, hl, hcl, tab, hin, fun H2 s2 => ⟨rfl, ?_⟩⟩
    rw [mis_dec]
    exact q _ (s1.trans s2)
  · rw [Bool.eq_false_iff.mpr hc, Bool.false_and] at q
    exact q _ s1
def spAfterC (K : PySem.W.Frag) : Sp := fun vs H Q _ => ∃ (a b : Addr) (ys : List V) (cs : List Int), vs = [.ref a, .ref b] ∧ Sq K H a ys ∧ Sq K H b (cs.map V.int) ∧ ys.length ≤ 12 ∧ (∀ y ∈ ys, TabV ys.length y) ∧ cs.Nodup ∧ (∀ z ∈ cs, z ∈ fullL ys) ∧ ∀ H', Same H H' → Q (.int ((afterN ys cs : Nat) : Int)) H'
theorem in_nat {ys : List V} {cs : List Int} (h : ∀ z ∈ cs, z ∈ fullL ys) : ∀ z ∈ cs, ∃ i : Nat, z = (i : Int) ∧ i < ys.length := fun z hz => by
  obtain ⟨i, e, hi, _⟩ := fullL_mem.mp (h z hz)
  exact ⟨i, e, hi⟩
theorem ok_countafter (T : Bt mg) {f f1 f2 : Addr} {fd fd1 fd2 : FuncData} (D : Df K mg "count_after" s_count_after ["table", "beginning"] f fd) (k_starts_order : Kn P w K mg base 7 "starts_order" s_starts_order ["table", "cells"] (spStarts K) f1 fd1)
    (k_count_rest : Kn P w K mg base 7 "count_rest" s_count_rest ["table", "came"] (spCountRest K) f2 fd2) : Kn P w K mg base 8 "count_after" s_count_after ["table", "beginning"] (spAfterC K) f fd := by
  refine ⟨D, D.F.ok sc_count_after (fun vs H Q E h => ?_) (fun cdv A outer s H vs Q E hr h => ?_)⟩
  · obtain ⟨a, b, ys, cs, rfl, _⟩ := h
    rfl
  obtain ⟨a, b, ys, cs, rfl, hA, hB, hl, tab, hn, hs, q⟩ := h
  refine ⟨_, (pss_one (ps_ret (pe_ifExp (pt_val (pe_call k_starts_order.G (hr.mono (by omega)) (by rfl) k_starts_order.D.g k_starts_order.D.F.kp k_starts_order.D.b .nil pass0 (pa_cons (pv 0) (pa_cons (pv 1) pa_nil)))) (pe_call k_count_rest.G (hr.mono (by omega)) (by rfl) k_count_rest.D.g k_count_rest.D.F.kp k_count_rest.D.b .nil pass0 (pa_cons (pv 0) (pa_cons (pv 1) pa_nil))) pe_int))), ?_⟩
  have hcl : cs.length ≤ 12 := Nat.le_trans (sub_len hn hs) (Nat.le_trans (fullN_len ys _) hl)
  refine ⟨_, rfl, _, rfl, a, b, ys, cs, rfl, hA, hB, by omega, by omega, tab, in_nat hs, fun H1 s1 => ⟨_, rfl, ?_⟩⟩
  refine ite2 (fun hc => ?_) (fun hc => ?_)
  · rw [Bool.and_eq_true, possB_iff] at hc
    refine ⟨_, rfl, _, rfl, a, b, ys, cs, rfl, Same.sq s1 hA, Same.sq s1 hB, hl, tab, fun H2 s2 => ?_⟩
    have e : restC ys cs = afterN ys cs := (begins_len hc.1 hn hs hc.2).symm
    rw [e]
    exact q _ (s1.trans s2)
  · have e : afterN ys cs = 0 := after_zero fun h => hc (by rw [Bool.and_eq_true, possB_iff]; exact h)
    rw [e] at q
    exact q _ s1
def spCountAll (K : PySem.W.Frag) : Sp := fun vs H Q _ => ∃ (a : Addr) (ys : List V), vs = [.ref a] ∧ Sq K H a ys ∧ ys.length ≤ 12 ∧ (∀ y ∈ ys, TabV ys.length y) ∧ ∀ H', Same H H' → Q (.int (((fitL ys).length : Nat) : Int)) H'
theorem ok_countorders (T : Bt mg) {f f1 : Addr} {fd fd1 : FuncData} (D : Df K mg "count_orders" s_count_orders ["table"] f fd) (k_count_after : Kn P w K mg base 8 "count_after" s_count_after ["table", "beginning"] (spAfterC K) f1 fd1) : Kn P w K mg base 9 "count_orders" s_count_orders ["table"] (spCountAll K) f fd := by
  refine ⟨D, D.F.ok sc_count_orders (fun vs H Q E h => ?_) (fun cdv A outer s H vs Q E hr h => ?_)⟩
  · obtain ⟨a, ys, rfl, _⟩ := h
    rfl
  obtain ⟨a, ys, rfl, hA, hl, tab, q⟩ := h
  refine ⟨_, (pss_one (ps_ret (pe_call k_count_after.G (hr.mono (by omega)) (by rfl) k_count_after.D.g k_count_after.D.F.kp k_count_after.D.b .nil pass0 (pa_cons (pv 0) (pa_cons (pe_tup pa_nil) pa_nil))))), ?_⟩
  refine ⟨_, rfl, (by show 0 ≤ sizeLine; decide), fun t ht => ?_⟩
  have s1 := same_upd (o := .tup []) ht
  refine ⟨a, t, ys, [], rfl, Same.sq s1 hA, .inr (sqT upd_same), hl, tab, List.nodup_nil, (fun z hz => nomatch hz), fun H2 s2 => ?_⟩
  rw [after_nil]
  exact q _ (s1.trans s2)

/-! ### wish_choices, choice_spans, histories_of_part, count_histories -/
def spWithWish (K : PySem.W.Frag) : Sp := fun vs H Q _ => ∃ (a : Addr) (ys : List V) (c : Nat) (x : V), vs = [.ref a, .int c, x] ∧ Sq K H a ys ∧ ys.length ≤ 100 ∧ (c : Int) ∈ fullL ys ∧ ∀ p H', Same H H' → H p = none → H' p = some (.tup (ys.set c x)) → Q (.ref p) H'
theorem ww_plain (R : Er K mg) {f : Addr} {fd : FuncData} (k : KnX P w K mg base 4 "with_wish" s_with_wish ["table", "cell", "wish"] (spWithWishX K R.C_NoObject) f fd) : Kn P w K mg base 4 "with_wish" s_with_wish ["table", "cell", "wish"] (spWithWish K) f fd := by
  refine ⟨k.D, ⟨fun vs H Q E h => ?_, fun A outer s H args us vs Q E hr en bd r h => ?_⟩⟩
  · obtain ⟨a, ys, c, x, rfl, _⟩ := h
    rfl
  · obtain ⟨a, ys, c, x, rfl, hA, hl, hc, q⟩ := h
    refine codeAny_mono (k.G.run A outer s H args us _ Q E0 hr en bd r ⟨a, ys, c, x, rfl, hA, hl, fun z => (z hc).elim, fun c' e _ p H' => ?_⟩) fun r s' hq => ?_
    · obtain rfl : c = c' := by omega
      exact q p H'
    · cases r with
      | ok fl => cases fl <;> exact hq
      | error e =>
        obtain ⟨_, _, _, _, _, _, _, _, _, _, _, _, z⟩ := hq
        exact z.elim
theorem isN_fullH {ys : List V} {i : Nat} {y : V} (g : ys[i]? = some y) : (!decide (y = V.non)) = decide ((i : Int) ∈ fullL ys) := by
  have hi : i < ys.length := (List.getElem?_eq_some_iff.mp g).1
  have gd : ys.getD i .non = y := by rw [List.getD_eq_getElem?_getD, g]; rfl
  rw [Bool.eq_iff_iff, decide_eq_true_eq, fullL_mem]
  constructor
  · intro h
    refine ⟨i, rfl, hi, ?_⟩
    rw [gd]
    have : y ≠ .non := by simpa using h
    cases y with
    | non => exact absurd rfl this
    | _ => rfl
  · rintro ⟨j, e, hj, h⟩
    have : j = i := by omega
    subst this
    rw [gd] at h
    cases y with
    | non => cases h
    | _ => rfl
def spChoices (K : PySem.W.Frag) : Sp := fun vs H Q _ => ∃ (a : Addr) (ys : List V) (c : Nat), vs = [.ref a, .int c] ∧ Sq K H a ys ∧ ys.length ≤ 100 ∧ (∀ y ∈ ys, TabV ys.length y) ∧ (c : Int) ∈ fullL ys ∧ ∀ p H', Same H H' → H p = none → H' p = some (.lst ((chL ys c).map V.int)) → Q (.ref p) H'
theorem ok_choices (T : Bt mg) {f : Addr} {fd : FuncData} {k : Nat} (D : Df K mg "wish_choices" s_wish_choices ["table", "cell"] f fd) : Kn P w K mg base (k + 1) "wish_choices" s_wish_choices ["table", "cell"] (spChoices K) f fd := by
  refine ⟨D, D.F.ok sc_wish_choices (fun vs H Q E h => ?_) (fun cdv A outer s H vs Q E hr h => ?_)⟩
  · obtain ⟨a, ys, c, rfl, _⟩ := h
    rfl
  obtain ⟨a, ys, c, rfl, hA, hl, tab, hc, q⟩ := h
  obtain ⟨tc_UNKNOWN, gc_UNKNOWN⟩ := T.c_UNKNOWN
  refine ⟨_, (pss_one (ps_ret (pe_ifExp (pt_cmpR (op_eqDK (K := K) rfl hr.units) (pe_ix (ix_seqK (K := K) rfl) (pv 0) (pv 1) (fun _ _ => rfl)) (pe_glob (v := .str "?") (by rfl) gc_UNKNOWN ⟨_, rfl⟩) (nomark _)) (pe_listRg (by rfl) (by rfl) T.list (prg_1 (by rfl) T.range (pe_callB (call_lenK (K := K) rfl) (by rfl) T.len (by decide +kernel) (pa_cons (pv 0) pa_nil)))) (pe_lst (pa_cons (pe_ix (ix_seqK (K := K) rfl) (pv 0) (pv 1) (fun _ _ => rfl)) pa_nil))))), ?_⟩
  obtain ⟨ic, eic, hic, hnn⟩ := fullL_mem.mp hc
  obtain rfl : ic = c := by omega
  have gi : ys[ic]? = some ys[ic] := List.getElem?_eq_getElem hic
  have gd : ys.getD ic .non = ys[ic] := by rw [List.getD_eq_getElem?_getD, gi]; rfl
  have ht := tab ys[ic] (List.getElem_mem hic)
  have hch : chL ys (ic : Int) = chV ys.length ys[ic] := by
    unfold chL
    rw [Int.toNat_natCast, gd]
  rw [gd] at hnn
  refine ⟨_, rfl, _, rfl, a, ys, (ic : Int), _, rfl, rfl, hA, atI_nat gi, ?_⟩
  generalize ys[ic] = y at hch hnn ht gi
  rcases ht with rfl | rfl | ⟨z, rfl, hz⟩
  · cases hnn
  · refine ⟨.str "?", .str "?", .str _, .str _, shaped_qm, shaped_qm, _, rfl, ?_⟩
    rw [eqv_q_q]
    refine iteT ⟨_, rfl, a, ys, rfl, hA, _, rfl, (by unfold RgOk; omega), fun p hp => q p _ (same_upd hp) hp ?_⟩
    rw [upd_same, hch]
    unfold rgV chV
    rw [Int.sub_zero, Int.toNat_natCast, List.map_map]
    congr 2
    exact List.map_congr_left fun i _ => by simp
  · refine ⟨.int (z : Int), .str "?", .int _, .str _, shaped_i _, shaped_qm, _, rfl, ?_⟩
    rw [eqv_i_q]
    refine iteF ⟨_, rfl, _, rfl, a, ys, (ic : Int), _, rfl, rfl, hA, atI_nat gi, (by show 1 ≤ sizeLine; decide), fun p hp => q p _ (same_upd hp) hp ?_⟩
    rw [upd_same, hch]
    rfl
theorem set_fullL {ys : List V} {c : Nat} {w : Int} (h : (c : Int) ∈ fullL ys) : fullL (ys.set c (.int w)) = fullL ys := by
  refine asc_eq (fullA_lt _) (fullA_lt _) fun x => ?_
  rw [fullL_mem, fullL_mem]
  refine exists_congr fun i => and_congr_right fun _ => ?_
  rw [List.length_set]
  refine and_congr_right fun hi => ?_
  rw [List.getD_eq_getElem?_getD, List.getElem?_set, List.getD_eq_getElem?_getD]
  by_cases e : c = i
  · subst e
    rw [if_pos rfl, if_pos hi]
    obtain ⟨j, ej, hj, hn⟩ := fullL_mem.mp h
    obtain rfl : j = c := by omega
    rw [List.getD_eq_getElem?_getD] at hn
    exact ⟨fun _ => hn, fun _ => rfl⟩
  · rw [if_neg e]
theorem set_tab {ys : List V} {c : Nat} {w : Int} (tab : ∀ y ∈ ys, TabV ys.length y) (h0 : 0 ≤ w) (h1 : w < ys.length) : ∀ y ∈ ys.set c (.int w), TabV (ys.set c (.int w)).length y := fun y hy => by
  rw [List.length_set]
  rcases List.mem_or_eq_of_mem_set hy with h | h
  · exact tab y h
  · exact .inr (.inr ⟨w.toNat, by rw [h, show ((w.toNat : Nat) : Int) = w by omega], by omega⟩)
theorem set_want {ys : List V} {c : Nat} {w : Int} (hc : c < ys.length) : wantL (ys.set c (.int w)) (c : Int) = needsL ys.length c w := by
  unfold wantL
  rw [Int.toNat_natCast, List.getD_eq_getElem?_getD, List.getElem?_set, if_pos rfl, if_pos hc, List.length_set]
  rfl
def okW (ys : List V) (c w : Int) : Bool := (needsL ys.length c w).all fun e => decide (e ∈ fullL ys)
def spW (ys : List V) (c : Int) (i : Nat) (w : Int) : List Int := [(((spanP (wantL (ys.set c.toNat (.int w))) (fullL ys) i).1 : Nat) : Int), (((spanP (wantL (ys.set c.toNat (.int w))) (fullL ys) i).2 : Nat) : Int)]
def spansW (ys : List V) (i : Nat) : List (List Int) := ((chL ys ((fullL ys).getD i 0)).filter (okW ys ((fullL ys).getD i 0))).map (spW ys ((fullL ys).getD i 0) i)
def spChSpans (K : PySem.W.Frag) : Sp := fun vs H Q _ => ∃ (a b : Addr) (ys : List V) (i : Nat), vs = [.ref a, .ref b, .int i] ∧ Sq K H a ys ∧ SqL K H b ((fullL ys).map V.int) ∧ ys.length ≤ 100 ∧ (∀ y ∈ ys, TabV ys.length y) ∧ i < (fullL ys).length ∧
  ∀ p zs H', Same H H' → H p = none → H' p = some (.lst zs) → DpAll K H' zs ((spansW ys i).map dT) → Q (.ref p) H'
theorem ok_chspans (T : Bt mg) {f f1 f2 f3 f4 : Addr} {fd fd1 fd2 fd3 fd4 : FuncData} (D : Df K mg "choice_spans" s_choice_spans ["table", "row", "at"] f fd) (k_wish_choices : Kn P w K mg base 1 "wish_choices" s_wish_choices ["table", "cell"] (spChoices K) f1 fd1)
    (k_with_wish : Kn P w K mg base 4 "with_wish" s_with_wish ["table", "cell", "wish"] (spWithWish K) f2 fd2) (k_needed_cells : Kn P w K mg base 3 "needed_cells" s_needed_cells ["table", "cell"] (spNeeded K) f3 fd3) (k_span : Kn P w K mg base 4 "span" s_span ["table", "rest", "at"] (spSpan K) f4 fd4) : Kn P w K mg base 5 "choice_spans" s_choice_spans ["table", "row", "at"] (spChSpans K) f fd := by
  refine ⟨D, D.F.ok sc_choice_spans (fun vs H Q E h => ?_) (fun cdv A outer s H vs Q E hr h => ?_)⟩
  · obtain ⟨a, b, ys, i, rfl, _⟩ := h
    rfl
  obtain ⟨a, b, ys, i, rfl, hA, hB, hl, tab, hi, q⟩ := h
  refine ⟨_, (pss_cons (ps_set (i := 3) sc_choice_spans.nd rfl (.inl rfl) (pe_lst pa_nil))
      (pss_cons (ps_for PassesOwn.never rfl (pi_list (pe_call k_wish_choices.G (hr.mono (by omega)) (by rfl) k_wish_choices.D.g k_wish_choices.D.F.kp k_wish_choices.D.b .nil pass0 (pa_cons (pv 0) (pa_cons (pe_ix (ix_listK (K := K) rfl) (pv 1) (pv 2) (fun _ _ => rfl)) pa_nil)))) (pg_name (i := 4) sc_choice_spans.nd rfl (.inl rfl)) (pss_cons (ps_set (i := 5) sc_choice_spans.nd rfl (.inl rfl) (pe_call k_with_wish.G (hr.mono (by omega)) (by rfl) k_with_wish.D.g k_with_wish.D.F.kp k_with_wish.D.b .nil pass0 (pa_cons (pv 0) (pa_cons (pe_ix (ix_listK (K := K) rfl) (pv 1) (pv 2) (fun _ _ => rfl)) (pa_cons (pv 4) pa_nil)))))
      (pss_one (ps_if (pt_val (pe_callB (cr_allK (K := K) rfl rfl) (by rfl) T.all (by decide +kernel) (pa_cons (pe_lc (own := [("needed", 6)]) (by rfl) sc_choice_spans.nd (pi_tup (pe_call k_needed_cells.G (hr.mono (by omega)) (by rfl) k_needed_cells.D.g k_needed_cells.D.F.kp k_needed_cells.D.b .nil pass0 (pa_cons (pv 5) (pa_cons (pe_ix (ix_listK (K := K) rfl) (pv 1) (pv 2) (fun _ _ => rfl)) pa_nil)))) (blkOk_by (own := [("needed", 6)]) (N := ["table", "row", "at", "spans", "wish", "known", "needed"]) (sc := defScope s_choice_spans) (by decide +kernel)) (fun _ _ _ _ _ => (pg_name (i := 6) sc_choice_spans.nd rfl (.inl rfl))) (fun _ _ _ _ _ => pts_nil) (fun _ _ _ _ _ => (pe_cmpR op_notN (pe_ix (ix_seqK (K := K) rfl) (pv 0) (pv 6) (fun _ _ => rfl)) pe_non (nomark _)))) pa_nil))) (pss_one (ps_expr (pe_bm PySem.F.plainAttrs_list PySem.F.slot_list_append PySem.F.type_list_append mt_append (pv 3) (pa_cons (pe_call k_span.G (hr.mono (by omega)) (by rfl) k_span.D.g k_span.D.F.kp k_span.D.b .nil pass0 (pa_cons (pv 5) (pa_cons (pv 1) (pa_cons (pv 2) pa_nil)))) pa_nil)))) pss_nil))))
      (pss_one (ps_ret (pv 3))))), ?_⟩
  have gi : (fullL ys)[i]? = some (fullL ys)[i] := List.getElem?_eq_getElem hi
  have gd : (fullL ys).getD i 0 = (fullL ys)[i] := by rw [List.getD_eq_getElem?_getD, gi]; rfl
  have hcm := List.getElem_mem hi
  generalize (fullL ys)[i] = cz at gi gd hcm
  obtain ⟨c, rfl, hc, _⟩ := fullL_mem.mp hcm
  have gv : ((fullL ys).map V.int)[i]? = some (.int (c : Int)) := by rw [List.getElem?_map, gi]; rfl
  unfold spansW at q
  rw [gd] at q
  have hwin : ∀ w ∈ chL ys c, 0 ≤ w ∧ w < ys.length := fun w hw => wish_in tab c w hw
  have hfl : (fullL ys).length ≤ 100 := Nat.le_trans (fullN_len ys _) hl
  refine ⟨(by show 0 ≤ sizeLine; decide), fun M hM => ?_⟩
  have s0 := same_upd (o := .lst []) hM
  have g0 : (upd H M (.lst [])) M = some (.lst []) := upd_same
  generalize upd H M (.lst []) = H0 at s0 g0
  dsimp only [tSeq]
  refine ⟨_, rfl, _, rfl, _, rfl, b, _, (i : Int), _, rfl, rfl, s0.seq hB, atI_nat gv, a, ys, c, rfl, Same.sq s0 hA, hl, tab, hcm, fun W H1 s1 nW gW => ?_⟩
  have nWM : W ≠ M := fun z => by
    rw [z, g0] at nW
    cases nW
  have hlW : (chL ys c).length ≤ 100 := by
    have hd : (chL ys c).Nodup := by
      unfold chL chV
      split
      · exact List.nodup_cons.mpr ⟨List.not_mem_nil, List.nodup_nil⟩
      · exact (List.pairwise_lt_range.map _ fun a b h => by omega : ((List.range ys.length).map fun (i : Nat) => (i : Int)).Pairwise (· < ·)).imp fun h e => by omega
      · exact List.nodup_nil
    have := sub_len (l := (List.range ys.length).map fun (i : Nat) => (i : Int)) hd fun w hw => by
      have := hwin w hw
      exact List.mem_map.mpr ⟨w.toNat, List.mem_range.mpr (by omega), by omega⟩
    rw [List.length_map, List.length_range] at this
    omega
  refine ⟨W, rfl, ⟨_, sqL gW⟩, ?_⟩
  refine for_list (xs := (chL ys c).map V.int) (fun j σ H2 => Same H H2 ∧ Stay M H1 H2 ∧ (∃ zs, H2 M = some (.lst zs) ∧ DpAll K H2 zs ((((chL ys c).take j).filter (okW ys c)).map (spW ys c i) |>.map dT)) ∧ ∃ y4 y5, σ = [some (.ref a), some (.ref b), some (.int (i : Int)), some (.ref M), y4, y5, none])
    ⟨s0.trans s1, Stay.refl _ _, ⟨[], s1 _ _ g0, .nil⟩, _, _, rfl⟩ (fun j σ H2 _ hP => sqL (hP.2.1 _ _ nWM gW)) (fun j x σ H2 gx hP => ?_) (fun σ H2 hP => ?_)
  · obtain ⟨s2, st2, ⟨zs, g2, d2⟩, y4, y5, rfl⟩ := hP
    rw [List.getElem?_map, Option.map_eq_some_iff] at gx
    obtain ⟨w', gw, rfl⟩ := gx
    have hww := hwin w' (List.mem_of_getElem? gw)
    dsimp only [gName, tSeq]
    refine ⟨_, rfl, _, rfl, _, rfl, b, _, (i : Int), _, rfl, rfl, s2.seq hB, atI_nat gv, _, rfl, a, ys, c, .int w', rfl, Same.sq s2 hA, hl, hcm, fun kp H3 s3 nk gk => ?_⟩
    have hkl : (ys.set c (.int w')).length = ys.length := List.length_set ..
    have hkt := set_tab (c := c) tab hww.1 hww.2
    have hkf := set_fullL (w := w') hcm
    have hkw := set_want (w := w') hc
    dsimp only [gName, tSeq]
    have s23 := s2.trans s3
    refine ⟨_, rfl, _, rfl, _, rfl, b, _, (i : Int), _, rfl, rfl, s23.seq hB, atI_nat gv, kp, ys.set c (.int w'), c, rfl, .inr (sqT gk), by omega, by omega, hkt, fun np H4 s4 nn gn => ?_⟩
    rw [hkw] at gn
    have s24 := s23.trans s4
    refine ⟨np, rfl, ⟨_, sqT gn⟩, fun L hL => ?_⟩
    refine lc_tup (xs := (needsL ys.length c w').map V.int) (fun m H5 => Same H4 H5 ∧ H5 L = some (.lst ((((needsL ys.length c w').take m).map fun e => decide (e ∈ fullL ys)).map V.bl))) ⟨same_upd hL, upd_same⟩ (fun m H5 _ hP => sqT (hP.1 _ _ gn)) (fun m x H5 gx hP => ?_) (fun H5 hP => ?_)
    · obtain ⟨s5, g5⟩ := hP
      rw [List.getElem?_map, Option.map_eq_some_iff] at gx
      obtain ⟨e, ge, rfl⟩ := gx
      have hen := (needs_iff.mp (List.mem_of_getElem? ge)).1
      obtain ⟨en, rfl⟩ : ∃ en : Nat, e = (en : Int) := ⟨e.toNat, by omega⟩
      have gen : ys[en]? = some (ys[en]'(by omega)) := List.getElem?_eq_getElem (by omega)
      refine ⟨rfl, _, rfl, _, rfl, a, ys, (en : Int), _, rfl, rfl, Same.sq (s24.trans s5) hA, atI_nat gen, rfl, ?_⟩
      refine ⟨_, g5, ?_, Same.mut s5 hL, ?_⟩
      · rw [List.length_map, List.length_map, List.length_take]
        have := needsL_len ys.length c w'
        exact small1000 (by omega)
      · rw [upd_same, List.take_succ, ge, List.map_append, List.map_append, isN_fullH gen]
        rfl
    obtain ⟨s5, g5⟩ := hP
    rw [List.length_map, List.take_length] at g5
    have s25 := s24.trans s5
    have s15 := s3.trans (s4.trans s5)
    have g25 := s15 _ _ g2
    have hok : ((needsL ys.length c w').map fun e => decide (e ∈ fullL ys)).all id = okW ys c w' := by
      rw [List.all_map]
      rfl
    refine ⟨L, _, rfl, sqL g5, _, rfl, ?_⟩
    rw [hok, List.take_succ, gw, List.filter_append, List.map_append, List.map_append]
    have hzl : zs.length ≤ 100 := by
      have h1 := dpAll_len d2
      rw [List.length_map, List.length_map] at h1
      have h2 := List.length_filter_le (okW ys c) ((chL ys c).take j)
      rw [List.length_take] at h2
      omega
    refine ite2 (fun hb => ?_) (fun hb => ?_)
    · refine ⟨_, rfl, .inl ⟨rfl, _, sqL g25⟩, _, rfl, _, rfl, _, rfl, kp, b, ys.set c (.int w'), fullL ys, i, rfl, .inr (sqT ((s4.trans s5) _ _ gk)), s25.seq hB, by omega, hkt, fun d hd => by rw [hkf]; exact hd, hfl, hi, fun p H6 s6 gp => ?_⟩
      have g26 := s6 _ _ g25
      refine ⟨M, zs, _, rfl, rfl, g26, line_ok (by omega), Same.mut (s25.trans s6) hM, fun q' o nq hq => ?_, ⟨_, upd_same, ?_⟩, _, _, rfl⟩
      · rw [upd_ne nq]
        exact s6 _ _ (s15 _ _ (st2 _ _ nq hq))
      · have e1 : [w'].filter (okW ys c) = [w'] := by rw [List.filter_cons_of_pos hb, List.filter_nil]
        simp only [Option.toList_some]
        rw [e1]
        refine dpAll_app (ords_upd g26 (dp_sameA (s15.trans s6) d2)) ?_
        exact ords_upd (os := [spW ys c i w']) g26 (.cons (dp_T (ns := spW ys c i w') (sqT gp)) .nil)
    · have e1 : [w'].filter (okW ys c) = [] := by rw [List.filter_cons_of_neg hb, List.filter_nil]
      simp only [Option.toList_some]
      rw [e1]
      refine ⟨s25, fun q' o nq hq => s15 _ _ (st2 _ _ nq hq), ⟨zs, g25, ?_⟩, _, _, rfl⟩
      rw [List.map_nil, List.map_nil, List.append_nil]
      exact dp_sameA s15 d2
  · obtain ⟨s2, st2, ⟨zs, g2, d2⟩, y4, y5, rfl⟩ := hP
    rw [List.length_map, List.take_length] at d2
    exact ⟨_, rfl, q M zs H2 s2 hM g2 d2⟩
theorem wish_span {ys : List V} {f e i : Nat} (hf : f ≤ i) (hi : i < e) (he : e ≤ (fullL ys).length) :
    ((spansW ys i).filter fun s => decide ((f : Int) ≤ s.getD 0 0) && decide (s.getD 1 0 ≤ (e : Int))).length = wishG ys ((fullL ys).getD i 0) ((blk (fullL ys) f e).erase ((fullL ys).getD i 0)) := by
  have hil : i < (fullL ys).length := by omega
  have hnd : (fullL ys).Nodup := (fullA_lt ys).imp fun h e => by omega
  have gi : (fullL ys)[i]? = some (fullL ys)[i] := List.getElem?_eq_getElem hil
  have gd : (fullL ys).getD i 0 = (fullL ys)[i] := by rw [List.getD_eq_getElem?_getD, gi]; rfl
  have hcm := List.getElem_mem hil
  unfold spansW
  rw [gd]
  generalize hcz : (fullL ys)[i] = cz at gi gd hcm
  obtain ⟨c, rfl, hc, _⟩ := fullL_mem.mp hcm
  unfold wishG wishN
  rw [if_pos ⟨by omega, by omega⟩, List.filter_map, List.length_map, List.filter_filter]
  congr 1
  refine List.filter_congr fun w _ => ?_
  have hkf := set_fullL (w := w) hcm
  have hkw := set_want (w := w) hc
  have hso := span_ok (W := wantL (ys.set c (.int w))) (R := fullL ys) hnd hil hf hi
  rw [gd] at hso
  have e1 : (decide ((f : Int) ≤ (spW ys c i w).getD 0 0) && decide ((spW ys c i w).getD 1 0 ≤ (e : Int))) = okB (wantL (ys.set c (.int w))) (fullL ys) (blk (fullL ys) f e) (c : Int) := by
    rw [← hso]
    show (decide ((f : Int) ≤ (((spanP (wantL (ys.set ((c : Int)).toNat (.int w))) (fullL ys) i).1 : Nat) : Int)) && decide ((((spanP (wantL (ys.set ((c : Int)).toNat (.int w))) (fullL ys) i).2 : Nat) : Int) ≤ (e : Int))) = _
    rw [Int.toNat_natCast]
    congr 1 <;> rw [decide_eq_decide] <;> omega
  simp only [Function.comp]
  rw [e1]
  rw [Bool.eq_iff_iff, Bool.and_eq_true, okB_iff, hkw]
  unfold okW
  rw [List.all_eq_true, List.all_eq_true]
  constructor
  · rintro ⟨h1, h2⟩ x hx
    have hxR := of_decide_eq_true (h2 x hx)
    have hxc : x ≠ (c : Int) := fun z => needs_self (z ▸ hx)
    exact decide_eq_true ((List.mem_erase_of_ne hxc).mpr (h1 x hx hxR))
  · intro h
    refine ⟨fun x hx _ => List.mem_of_mem_erase (of_decide_eq_true (h x hx)), fun x hx => ?_⟩
    exact decide_eq_true ((blk_part (W := fun _ => []) (fullA_lt ys) f e).sub x (List.mem_of_mem_erase (of_decide_eq_true (h x hx))))
theorem fone_pos {α : Type} {p : α → Bool} {y : α} (h : p y = true) : [y].filter p = [y] := by rw [List.filter_cons_of_pos h, List.filter_nil]
theorem fone_neg {α : Type} {p : α → Bool} {y : α} (h : ¬p y = true) : [y].filter p = [] := by rw [List.filter_cons_of_neg h, List.filter_nil]
structure ChAt (K : PySem.W.Frag) (H : Hp) (cb : Addr) (ys : List V) (xs : List V) (n : Nat) : Prop where
  at_ : SqL K H cb xs
  all : DpAll K H xs ((List.range n).map fun i => .list ((spansW ys i).map dT))
theorem ChAt.same {H H' : Hp} {cb : Addr} {ys xs : List V} {n : Nat} (h : ChAt K H cb ys xs n) (e : Same H H') : ChAt K H' cb ys xs n := ⟨e.seq h.at_, dp_sameA e h.all⟩
def spHistPart (K : PySem.W.Frag) : Sp := fun vs H Q _ => ∃ (cb d : Addr) (ys xs : List V) (kvs : List (List Key × V)) (f e : Nat), vs = [.ref cb, .ref d, .int f, .int e] ∧ ChAt K H cb ys xs (fullL ys).length ∧ ys.length ≤ 12 ∧ (∀ y ∈ ys, TabV ys.length y) ∧ f < e ∧ e ≤ (fullL ys).length ∧ H d = some (.dT kvs) ∧
  (∀ f' e', f' ≤ e' → e' ≤ (fullL ys).length → e' - f' < e - f → valV kvs (key2 f' e') = some (.int ((histP ys f' e' : Nat) : Int))) ∧ ∀ H', Same H H' → Q (.int ((histP ys f e : Nat) : Int)) H'
theorem ok_histpart (T : Bt mg) {f f1 f2 : Addr} {fd fd1 fd2 : FuncData} (D : Df K mg "histories_of_part" s_histories_of_part ["choices", "counts", "first", "end"] f fd) (k_within_part : Kn P w K mg base 1 "within_part" s_within_part ["own", "first", "end"] (spWithin K) f1 fd1)
    (k_count_with_last : Kn P w K mg base 2 "count_with_last" s_count_with_last ["counts", "first", "last", "end"] (spWithLast K) f2 fd2) : Kn P w K mg base 3 "histories_of_part" s_histories_of_part ["choices", "counts", "first", "end"] (spHistPart K) f fd := by
  refine ⟨D, D.F.ok sc_histories_of_part (fun vs H Q E h => ?_) (fun cdv A outer s H vs Q E hr h => ?_)⟩
  · obtain ⟨cb, d, ys, xs, kvs, f, e, rfl, _⟩ := h
    rfl
  obtain ⟨cb, d, ys, xs, kvs, f, e, rfl, hC, h12, tab, hfe, heR, hd, hdv, q⟩ := h
  refine ⟨_, (pss_cons (ps_set (i := 4) sc_histories_of_part.nd rfl (.inl rfl) pe_int)
      (pss_cons (ps_for PassesOwn.never rfl (pi_range2 (by rfl) T.range (pa_cons (pv 2) (pa_cons (pv 3) pa_nil))) (pg_name (i := 5) sc_histories_of_part.nd rfl (.inl rfl)) (pss_cons (ps_setLc (i := 6) (own := [("own", 7)]) (by rfl) sc_histories_of_part.nd rfl rfl (sw_true rfl rfl rfl (by decide +kernel)) (pi_list (pe_ix (ix_listK (K := K) rfl) (pv 0) (pv 5) (fun _ _ => rfl))) (blkOk_by (own := [("own", 7)]) (N := ["choices", "counts", "first", "end", "total", "last", "wishes", "own"]) (sc := defScope s_histories_of_part) (by decide +kernel)) (fun _ _ _ _ _ => (pg_name (i := 7) sc_histories_of_part.nd rfl (.inl rfl))) (fun _ _ _ _ _ => (pts_one (pt_val (pe_call k_within_part.G (hr.mono (by omega)) (by rfl) k_within_part.D.g k_within_part.D.F.kp k_within_part.D.b .nil pass0 (pa_cons (pv 7) (pa_cons (pv 2) (pa_cons (pv 3) pa_nil))))))) (fun _ _ _ _ _ => (pv 7)))
      (pss_one (ps_aug (i := 4) sc_histories_of_part.nd rfl (.inl rfl) (pe_op op_mul (pe_callB (call_lenK (K := K) rfl) (by rfl) T.len (by decide +kernel) (pa_cons (pv 6) pa_nil)) (pe_call k_count_with_last.G (hr.mono (by omega)) (by rfl) k_count_with_last.D.g k_count_with_last.D.F.kp k_count_with_last.D.b .nil pass0 (pa_cons (pv 1) (pa_cons (pv 2) (pa_cons (pv 5) (pa_cons (pv 3) pa_nil)))))) ip_add))))
      (pss_one (ps_ret (pv 4))))), ?_⟩
  have hfl : (fullL ys).length ≤ 12 := Nat.le_trans (fullN_len ys _) h12
  have hrec := hist_part (wishG_loc ys) (fullA_lt ys) hfe heR
  refine ⟨_, rfl, _, rfl, (f : Int), (e : Int), rfl, ⟨by omega, by omega, by omega, by omega⟩, ?_⟩
  have en : ((e : Int) - (f : Int)).toNat = e - f := by omega
  rw [en]
  refine for_range (lo := (f : Int)) (n := e - f) (fun j σ H1 => Same H H1 ∧ ∃ y5 y6, σ = [some (.ref cb), some (.ref d), some (.int (f : Int)), some (.int (e : Int)), some (.int ((((List.range j).map fun i => wishG ys ((fullL ys).getD (f + i) 0) ((blk (fullL ys) f e).erase ((fullL ys).getD (f + i) 0)) * (bin (e - f - 1) i * histP ys f (f + i) * histP ys (f + i + 1) e)).sum : Nat) : Int)), y5, y6, none]) ⟨Same.refl _, _, _, rfl⟩ (fun j σ H1 hj hP => ?_) (fun σ H1 hP => ?_)
  · obtain ⟨s1, y5, y6, rfl⟩ := hP
    have ez : (f : Int) + (j : Int) = ((f + j : Nat) : Int) := by omega
    rw [ez]
    have hC1 := hC.same s1
    have hxl := dpAll_len hC1.all
    rw [List.length_map, List.length_range] at hxl
    have gx : xs[f + j]? = some (xs[f + j]'(by omega)) := List.getElem?_eq_getElem (by omega)
    generalize xs[f + j]'(by omega) = xv at gx
    obtain ⟨dd, gdd, hdd⟩ := dpAll_get hC1.all gx
    rw [List.getElem?_map, List.getElem?_range (by omega)] at gdd
    cases gdd
    cases hdd with
    | @lst L ws _ hL hW =>
      have hwl := dpAll_len hW
      rw [List.length_map] at hwl
      have hsl : (spansW ys (f + j)).length ≤ 12 := by
        unfold spansW
        rw [List.length_map]
        refine Nat.le_trans (List.length_filter_le _ _) ?_
        generalize (fullL ys).getD (f + j) 0 = c
        have hdn : (chL ys c).Nodup := by
          unfold chL chV
          split
          · exact List.nodup_cons.mpr ⟨List.not_mem_nil, List.nodup_nil⟩
          · exact (List.pairwise_lt_range.map _ fun a b h => by omega : ((List.range ys.length).map fun (i : Nat) => (i : Int)).Pairwise (· < ·)).imp fun h e => by omega
          · exact List.nodup_nil
        have := sub_len (l := (List.range ys.length).map fun (i : Nat) => (i : Int)) hdn fun w hw => by
          have := wish_in tab c w hw
          exact List.mem_map.mpr ⟨w.toNat, List.mem_range.mpr (by omega), by omega⟩
        rw [List.length_map, List.length_range] at this
        omega
      dsimp only [gName, tSeq]
      refine ⟨_, rfl, _, rfl, cb, xs, ((f + j : Nat) : Int), _, rfl, rfl, hC1.at_, atI_nat gx, L, rfl, ⟨ws, hL⟩, fun M hM => ?_⟩
      refine lc_list (xs := ws) (fun k H2 => Same H1 H2 ∧ ∃ us : List V, us.length = (((spansW ys (f + j)).take k).filter fun s => decide ((f : Int) ≤ s.getD 0 0) && decide (s.getD 1 0 ≤ (e : Int))).length ∧ H2 M = some (.lst us)) ⟨same_upd hM, [], rfl, upd_same⟩ (fun k H2 _ hP => hP.1.seq hL) (fun k x H2 gx3 hP => ?_) (fun H2 hP => ?_)
      · obtain ⟨s2, us, hus, g2⟩ := hP
        obtain ⟨dd, gdd, hdd⟩ := dpAll_get (dp_sameA s2 hW) gx3
        rw [List.getElem?_map, Option.map_eq_some_iff] at gdd
        obtain ⟨sp, gsp, rfl⟩ := gdd
        obtain ⟨t, rfl, ht⟩ := ord_at hdd
        have hk : k < (spansW ys (f + j)).length := (List.getElem?_eq_some_iff.mp gsp).1
        obtain ⟨sa, sb, rfl⟩ : ∃ sa sb : Nat, sp = [(sa : Int), (sb : Int)] := by
          have hm := List.mem_of_getElem? gsp
          unfold spansW at hm
          obtain ⟨w0, _, rfl⟩ := List.mem_map.mp hm
          exact ⟨_, _, rfl⟩
        refine ⟨rfl, _, rfl, _, rfl, _, rfl, t, sa, sb, f, e, rfl, ht, _, rfl, ?_⟩
        have eb : (decide (f ≤ sa) && decide (sb ≤ e)) = (decide ((f : Int) ≤ [(sa : Int), (sb : Int)].getD 0 0) && decide ([(sa : Int), (sb : Int)].getD 1 0 ≤ (e : Int))) := by
          show _ = (decide ((f : Int) ≤ (sa : Int)) && decide ((sb : Int) ≤ (e : Int)))
          congr 1 <;> rw [decide_eq_decide] <;> omega
        have hul : us.length ≤ 12 := by
          rw [hus]
          refine Nat.le_trans (List.length_filter_le _ _) ?_
          rw [List.length_take]
          omega
        rw [eb, List.take_succ, gsp, List.filter_append, List.length_append]
        refine ite2 (fun hb => ?_) (fun hb => ?_)
        · refine ⟨_, rfl, us, g2, line_ok (by omega), Same.mut s2 hM, us ++ [.ref t], ?_, upd_same⟩
          rw [List.length_append, hus]
          exact congrArg _ (congrArg List.length (fone_pos (p := fun s : List Int => decide ((f : Int) ≤ s.getD 0 0) && decide (s.getD 1 0 ≤ (e : Int))) hb).symm)
        · refine ⟨s2, us, ?_, g2⟩
          rw [hus]
          exact (congrArg (Nat.add _) (congrArg List.length (fone_neg (p := fun s : List Int => decide ((f : Int) ≤ s.getD 0 0) && decide (s.getD 1 0 ≤ (e : Int))) hb))).symm
      obtain ⟨s2, us, hus, g2⟩ := hP
      rw [hwl, List.take_length, wish_span (by omega) (by omega) heR] at hus
      have s12 := s1.trans s2
      have hp1 : histP ys f (f + j) < 2 ^ 60 := histP_le tab h12 (by omega) (by omega)
      have hp2 : histP ys (f + j + 1) e < 2 ^ 60 := histP_le tab h12 (by omega) heR
      have hul : us.length ≤ 12 := by
        rw [hus, ← wish_span (by omega) (by omega) heR]
        exact Nat.le_trans (List.length_filter_le _ _) hsl
      dsimp only [gName, tSeq]
      refine ⟨_, rfl, _, rfl, M, us, rfl, .inl (sqL g2), _, rfl, _, rfl, _, rfl, _, rfl, d, kvs, f, f + j, e, histP ys f (f + j), histP ys (f + j + 1) e, rfl, s12 _ _ hd, by omega, by omega, by omega, hdv f (f + j) (by omega) (by omega) (by omega), hdv (f + j + 1) e (by omega) (by omega) (by omega), hp1, hp2, fun H3 s3 => ?_⟩
      refine ⟨_, _, rfl, rfl, .inl ⟨by omega, by omega⟩, _, _, rfl, rfl, s12.trans s3, some (.int ((f + j : Nat) : Int)), some (.ref M), ?_⟩
      rw [List.range_succ, List.map_append, List.sum_append]
      simp only [List.map_cons, List.map_nil, List.sum_cons, List.sum_nil, Nat.add_zero]
      rw [hus, show f + j - f = j by omega]
      show [_, _, _, _, some (V.int (((_ : Nat) : Int) + ((_ : Nat) : Int) * ((_ : Nat) : Int))), _, _, _] = _
      rw [← Int.natCast_mul, ← Int.natCast_add]
  · obtain ⟨s1, y5, y6, rfl⟩ := hP
    have : histP ys f e = ((List.range (e - f)).map fun i => wishG ys ((fullL ys).getD (f + i) 0) ((blk (fullL ys) f e).erase ((fullL ys).getD (f + i) 0)) * (bin (e - f - 1) i * histP ys f (f + i) * histP ys (f + i + 1) e)).sum := hrec
    rw [← this]
    exact ⟨_, rfl, q _ s1⟩
theorem histP_self (ys : List V) (f : Nat) : histP ys f f = 1 := by
  unfold histP blk
  rw [Nat.sub_self, List.take_zero]
  rfl
/-- rows of tuples under way: none of them is the list D itself -/
def ChR (K : PySem.W.Frag) (H : Hp) (D : Addr) (xs : List V) (g : Nat → List (List Int)) : Prop := ∀ j x, xs[j]? = some x → ∃ p zs, x = .ref p ∧ p ≠ D ∧ H p = some (.lst zs) ∧ DpAll K H zs ((g j).map dT)
theorem ChR.same {H H' : Hp} {D : Addr} {xs : List V} {g : Nat → List (List Int)} (h : ChR K H D xs g) (e : Same H H') : ChR K H' D xs g := fun j x hx => by
  obtain ⟨p, zs, h1, h2, h3, h4⟩ := h j x hx
  exact ⟨p, zs, h1, h2, e _ _ h3, dp_sameA e h4⟩
theorem ChR.upd {H : Hp} {D : Addr} {xs ws : List V} {g : Nat → List (List Int)} {o : HO} (h : ChR K H D xs g) (e : H D = some (.lst ws)) : ChR K (upd H D o) D xs g := fun j x hx => by
  obtain ⟨p, zs, h1, h2, h3, h4⟩ := h j x hx
  exact ⟨p, zs, h1, h2, by rw [upd_ne h2]; exact h3, ords_upd e h4⟩
theorem ChR.dp {H : Hp} {D : Addr} : ∀ {xs : List V} {g : Nat → List (List Int)}, ChR K H D xs g → DpAll K H xs ((List.range xs.length).map fun i => .list ((g i).map dT))
  | [], _, _ => .nil
  | x :: xs, g, h => by
    rw [List.length_cons, List.range_succ_eq_map, List.map_cons, List.map_map]
    obtain ⟨p, zs, rfl, _, h3, h4⟩ := h 0 x rfl
    exact .cons (.lst (sqL h3) h4) (ChR.dp (g := fun i => g (i + 1)) fun j y hy => h (j + 1) y hy)
theorem ChR.snoc {H : Hp} {D p : Addr} {xs zs : List V} {g : Nat → List (List Int)} (h : ChR K H D xs g) (hp : p ≠ D) (h3 : H p = some (.lst zs)) (h4 : DpAll K H zs ((g xs.length).map dT)) : ChR K H D (xs ++ [.ref p]) g := fun j x hx => by
  rcases Nat.lt_or_ge j xs.length with hj | hj
  · rw [List.getElem?_append_left hj] at hx
    exact h j x hx
  · rw [List.getElem?_append_right hj] at hx
    have : j - xs.length = 0 := by
      have := (List.getElem?_eq_some_iff.mp hx).1
      simp at this
      omega
    rw [this] at hx
    obtain rfl : j = xs.length := by omega
    exact ⟨p, zs, (Option.some.inj hx).symm, hp, h3, h4⟩
def spCountHist (K : PySem.W.Frag) : Sp := fun vs H Q _ => ∃ (a : Addr) (ys : List V), vs = [.ref a] ∧ Sq K H a ys ∧ ys.length ≤ 12 ∧ (∀ y ∈ ys, TabV ys.length y) ∧ ∀ H', Same H H' → Q (.int ((histT ys : Nat) : Int)) H'
theorem ok_counthist (T : Bt mg) {f f1 f2 f3 f4 : Addr} {fd fd1 fd2 fd3 fd4 : FuncData} (D : Df K mg "count_histories" s_count_histories ["table"] f fd) (k_taken_cells : Kn P w K mg base 1 "taken_cells" s_taken_cells ["table"] (spTaken K) f1 fd1)
    (k_choice_spans : Kn P w K mg base 5 "choice_spans" s_choice_spans ["table", "row", "at"] (spChSpans K) f2 fd2) (k_parts_of : Kn P w K mg base 1 "parts_of" s_parts_of ["many"] (spParts K) f3 fd3)
    (k_histories_of_part : Kn P w K mg base 3 "histories_of_part" s_histories_of_part ["choices", "counts", "first", "end"] (spHistPart K) f4 fd4) : Kn P w K mg base 6 "count_histories" s_count_histories ["table"] (spCountHist K) f fd := by
  refine ⟨D, D.F.ok sc_count_histories (fun vs H Q E h => ?_) (fun cdv A outer s H vs Q E hr h => ?_)⟩
  · obtain ⟨a, ys, rfl, _⟩ := h
    rfl
  obtain ⟨a, ys, rfl, hA, h12, tab, q⟩ := h
  refine ⟨_, (pss_cons (ps_set (i := 1) sc_count_histories.nd rfl (.inr rfl) (pe_call k_taken_cells.G (hr.mono (by omega)) (by rfl) k_taken_cells.D.g k_taken_cells.D.F.kp k_taken_cells.D.b .nil pass0 (pa_cons (pv 0) pa_nil)))
      (pss_cons (ps_setLc (i := 2) (own := [("at", 6)]) (by rfl) sc_count_histories.nd rfl rfl (sw_true rfl rfl rfl (by decide +kernel)) (pi_range1 (by rfl) T.range (pa_cons (pe_callB (call_lenK (K := K) rfl) (by rfl) T.len (by decide +kernel) (pa_cons (pv 1) pa_nil)) pa_nil)) (blkOk_by (own := [("at", 6)]) (N := ["table", "row", "choices", "counts", "first", "end", "at"]) (sc := defScope s_count_histories) (by decide +kernel)) (fun _ _ _ _ _ => (pg_name (i := 6) sc_count_histories.nd rfl (.inl rfl))) (fun _ _ _ _ _ => pts_nil) (fun _ _ _ _ _ => (pe_call k_choice_spans.G (hr.mono (by omega)) (by rfl) k_choice_spans.D.g k_choice_spans.D.F.kp k_choice_spans.D.b .nil pass0 (pa_cons (pv 0) (pa_cons (pv 1) (pa_cons (pv 6) pa_nil))))))
      (pss_cons (ps_setDcT (i := 3) (own := [("first", 4)]) hr.units0 rfl sc_count_histories.nd rfl rfl (sw_trueD rfl rfl rfl (by decide +kernel)) (pi_range1 (by rfl) T.range (pa_cons (pe_op op_add (pe_callB (call_lenK (K := K) rfl) (by rfl) T.len (by decide +kernel) (pa_cons (pv 1) pa_nil)) pe_int) pa_nil)) (blkOk_by (own := [("first", 4)]) (N := ["table", "row", "choices", "counts", "first", "end", "at"]) (sc := defScope s_count_histories) (by decide +kernel)) (fun _ _ _ _ _ => (pg_name (i := 4) sc_count_histories.nd rfl (Or.inl rfl))) (fun _ _ _ _ _ => pts_nil) (fun _ _ _ _ _ => (pe_tup (pa_cons (pv 4) (pa_cons (pv 4) pa_nil)))) (fun _ _ _ _ _ => pe_int))
      (pss_cons (ps_for PassesOwn.never rfl (pi_list (pe_call k_parts_of.G (hr.mono (by omega)) (by rfl) k_parts_of.D.g k_parts_of.D.F.kp k_parts_of.D.b .nil pass0 (pa_cons (pe_callB (call_lenK (K := K) rfl) (by rfl) T.len (by decide +kernel) (pa_cons (pv 1) pa_nil)) pa_nil))) (pg_tup (by rfl) (pgs_cons (pg_name (i := 4) sc_count_histories.nd rfl (.inl rfl)) (pgs_cons (pg_name (i := 5) sc_count_histories.nd rfl (.inl rfl)) pgs_nil))) (pss_one (ps_dput (hu1 hr) (pv 3) (pe_tup (pa_cons (pv 4) (pa_cons (pv 5) pa_nil))) (pe_call k_histories_of_part.G (hr.mono (by omega)) (by rfl) k_histories_of_part.D.g k_histories_of_part.D.F.kp k_histories_of_part.D.b .nil pass0 (pa_cons (pv 2) (pa_cons (pv 3) (pa_cons (pv 4) (pa_cons (pv 5) pa_nil))))) rfl)))
      (pss_one (ps_ret (pe_dget (hu1 hr) (pv 3) (pe_tup (pa_cons pe_int (pa_cons (pe_callB (call_lenK (K := K) rfl) (by rfl) T.len (by decide +kernel) (pa_cons (pv 1) pa_nil)) pa_nil))) (fun _ _ => rfl)))))))), ?_⟩
  have hfl : (fullL ys).length ≤ 12 := Nat.le_trans (fullN_len ys _) h12
  generalize hN : (fullL ys).length = N at hfl
  have hrl : ((fullL ys).map V.int).length = N := by rw [List.length_map, hN]
  refine ⟨_, rfl, a, ys, rfl, hA, by omega, fun r H1 s1 nr gr => ?_⟩
  dsimp only [gName, tSeq]
  -- choices
  refine ⟨_, rfl, r, _, rfl, .inl (sqL gr), _, rfl, by omega, by omega, fun C hC => ?_⟩
  rw [hrl, Int.toNat_natCast]
  refine lc_range (lo := 0) (n := N) (fun i H2 => ∃ xs, Same H1 H2 ∧ H2 C = some (.lst xs) ∧ ChR K H2 C xs (spansW ys) ∧ xs.length = i) ⟨[], same_upd hC, upd_same, (fun j x hx => nomatch hx), rfl⟩ (fun i H2 hi hP => ?_) (fun H2 hP => ?_)
  · obtain ⟨xs, s2, g2, d2, hl2⟩ := hP
    have ez : (0 : Int) + (i : Int) = (i : Int) := Int.zero_add _
    rw [ez]
    refine ⟨rfl, _, rfl, _, rfl, _, rfl, a, r, ys, i, rfl, Same.sq (s1.trans s2) hA, sqL (s2 _ _ gr), by omega, tab, by omega, fun p zs H3 s3 np gp dp => ?_⟩
    have g3 := s3 _ _ g2
    have npC : p ≠ C := fun e => by
      rw [e, g2] at np
      cases np
    subst hl2
    exact ⟨xs, g3, line_ok (by omega), xs ++ [.ref p], Same.mut (s2.trans s3) hC, upd_same, ((d2.same s3).snoc npC gp dp).upd g3, by rw [List.length_append]; rfl⟩
  obtain ⟨xs, s2, g2, d2, hl2⟩ := hP
  have hC2 : ChAt K H2 C ys xs (fullL ys).length := ⟨sqL g2, by rw [hN, ← hl2]; exact d2.dp⟩
  have s12 := s1.trans s2
  have gr2 := s2 _ _ gr
  -- counts
  dsimp only [gName, tSeq]
  refine ⟨_, rfl, r, _, rfl, .inl (sqL gr2), _, _, rfl, rfl, _, rfl, by omega, by omega, fun d hd => ?_⟩
  have en : (((((fullL ys).map V.int).length : Nat) : Int) + 1).toNat = N + 1 := by omega
  rw [en]
  refine dcT_it (walk_range (lo := 0) (n := N + 1)) (fun i H3 => ∃ kvs, Same H2 H3 ∧ H3 d = some (.dT kvs) ∧ (∀ f, f < i → valV kvs (key2 f f) = some (.int ((1 : Nat) : Int))) ∧ kvs.length ≤ i) ⟨[], same_upd hd, upd_same, fun f hf => absurd hf (Nat.not_lt_zero _), Nat.le_refl _⟩ (fun _ _ _ _ => trivial) (fun i x H3 H3' hi hP hY => ?_) (fun H3 hP => ?_)
  · obtain ⟨kvs, s3, e3, hk, hkl⟩ := hP
    obtain ⟨rfl, rfl⟩ := hY
    have ez : (0 : Int) + (i : Int) = (i : Int) := Int.zero_add _
    show gName 4 (V.int (0 + (i : Int))) _ _ _
    rw [ez]
    refine ⟨rfl, _, rfl, _, rfl, (by show 2 ≤ sizeLine; decide), fun t ht => ?_⟩
    have s4 := same_upd (o := .tup [.int (i : Int), .int (i : Int)]) ht
    refine ⟨kvs, key2 i i, t, rfl, upd_same, s4 _ _ e3, line_ok (by omega), _, Same.mut (s3.trans s4) hd, upd_same, fun f hf => ?_, ?_⟩
    · rw [valV_put]
      by_cases c : key2 f f = key2 i i
      · rw [if_pos c]
        rfl
      · rw [if_neg c]
        refine hk f ?_
        rcases Nat.lt_succ_iff_lt_or_eq.mp hf with h | h
        · exact h
        · exact absurd (by rw [h]) c
    · have := length_putK kvs (key2 i i) (.int 1)
      omega
  obtain ⟨kvs1, s3, e3, hk1, hkl1⟩ := hP
  have hpl := parts_len hfl
  -- part by part
  dsimp only [gName, tSeq]
  refine ⟨_, rfl, r, _, rfl, .inl (sqL (s3 _ _ gr2)), N, by rw [hrl]; rfl, hfl, fun pp ps H4 s4 npp gpp dps => ?_⟩
  have hpsl : ps.length = (partsP N).length := by
    have := dpAll_len dps
    rw [List.length_map, List.length_map] at this
    exact this
  refine ⟨pp, rfl, ⟨_, sqL gpp⟩, ?_⟩
  refine for_list (xs := ps) (fun m σ H5 => ∃ (kvs : List (List Key × V)) (y4 y5 : Option V), σ = [some (.ref a), some (.ref r), some (.ref C), some (.ref d), y4, y5, none] ∧ Same H2 H5 ∧ (∀ q o, q ≠ d → H4 q = some o → H5 q = some o) ∧ H5 d = some (.dT kvs) ∧ (∀ f, f ≤ N → valV kvs (key2 f f) = some (.int ((1 : Nat) : Int))) ∧ (∀ f e, (f, e) ∈ (partsP N).take m → valV kvs (key2 f e) = some (.int ((histP ys f e : Nat) : Int))) ∧ kvs.length ≤ 13 + m)
    ⟨kvs1, none, none, rfl, s3.trans s4, fun _ _ _ h => h, s4 _ _ e3, fun f hf => hk1 f (by omega), fun f e h => (by rw [List.take_zero] at h; cases h), by omega⟩ (fun m σ H5 _ hP => ?_) (fun m x σ H5 gx hP => ?_) (fun σ H5 hP => ?_)
  · obtain ⟨kvs5, y4, y5, rfl, s5, k5, e5, hkd, hk5, hkl5⟩ := hP
    exact sqL (k5 _ _ (fun e => by rw [e, e3] at npp; cases npp) gpp)
  · obtain ⟨kvs5, y4, y5, rfl, s5, k5, e5, hkd, hk5, hkl5⟩ := hP
    obtain ⟨dd, gdd, hdd⟩ := dpAll_get dps gx
    rw [List.getElem?_map, List.getElem?_map, Option.map_eq_some_iff] at gdd
    obtain ⟨_, gdd, rfl⟩ := gdd
    rw [Option.map_eq_some_iff] at gdd
    obtain ⟨⟨f, e⟩, gfe, rfl⟩ := gdd
    obtain ⟨t, rfl, ht⟩ := ord_at hdd
    have hmlt : m < (partsP N).length := (List.getElem?_eq_some_iff.mp gfe).1
    obtain ⟨hfe, heR⟩ := mem_parts.mp (List.mem_of_getElem? gfe)
    have ht5 : SqT K H5 t [.int (f : Int), .int (e : Int)] := by
      have nt : ∀ {o : HO}, H4 t = some o → (∀ kvs, o ≠ .dT kvs) → t ≠ d := fun h hk e => by
        rw [e, s4 _ _ e3] at h
        exact hk _ (Option.some.inj h).symm
      rcases ht with (h | ⟨o, h⟩) | h
      · exact .inl (.inl (k5 _ _ (nt h (fun _ z => nomatch z)) h))
      · exact .inl (.inr ⟨o, k5 _ _ (nt h (fun _ z => nomatch z)) h⟩)
      · exact .inr h
    have get : ∀ f' e', f' ≤ e' → e' ≤ (fullL ys).length → e' - f' < e - f → valV kvs5 (key2 f' e') = some (.int ((histP ys f' e' : Nat) : Int)) := fun f' e' h1 h2 h3 => by
      rw [hN] at h2
      rcases Nat.lt_or_eq_of_le h1 with h | h
      · exact hk5 _ _ (parts_before gfe h h2 h3)
      · subst h
        rw [histP_self]
        exact hkd _ h2
    refine ⟨t, [.int (f : Int), .int (e : Int)], rfl, ht5, rfl, .int (f : Int), [.int (e : Int)], rfl, .int (e : Int), [], rfl, rfl, ?_⟩
    refine ⟨_, rfl, _, rfl, _, rfl, _, rfl, C, d, ys, xs, kvs5, f, e, rfl, hC2.same s5, h12, tab, hfe, by omega, e5, get, fun H6 s6 => ?_⟩
    refine ⟨_, rfl, _, rfl, _, rfl, (by show 2 ≤ sizeLine; decide), fun t' ht' => ?_⟩
    have s7 := same_upd (o := .tup [.int (f : Int), .int (e : Int)]) ht'
    have s67 := s6.trans s7
    refine ⟨d, _, rfl, DPut.t (k := key2 f e) (s67 _ _ e5) upd_same (line_ok (by omega)), ?_⟩
    refine ⟨_, _, _, rfl, Same.mut (s5.trans s67) hd, fun q' o nq hq => ?_, upd_same, fun f' hf' => ?_, fun f' e' h => ?_, ?_⟩
    · rw [upd_ne nq]
      exact s67 _ _ (k5 _ _ nq hq)
    · rw [valV_put, if_neg (fun c => by have := key2_inj.mp c; omega)]
      exact hkd f' hf'
    · rw [valV_put]
      by_cases c : key2 f' e' = key2 f e
      · rw [if_pos c]
        obtain ⟨rfl, rfl⟩ := key2_inj.mp c
        rfl
      · rw [if_neg c]
        refine hk5 f' e' ?_
        rw [List.take_succ, gfe, List.mem_append] at h
        rcases h with h | h
        · exact h
        · rw [Option.toList_some, List.mem_singleton] at h
          injection h with h1 h2
          exact absurd (by rw [h1, h2]) c
    · have := length_putK kvs5 (key2 f e) (.int ((histP ys f e : Nat) : Int))
      omega
  · obtain ⟨kvs5, y4, y5, rfl, s5, k5, e5, hkd, hk5, hkl5⟩ := hP
    have gr5 := s5 _ _ gr2
    dsimp only [gName, tSeq]
    refine ⟨_, rfl, _, rfl, r, _, rfl, .inl (sqL gr5), (by show 2 ≤ sizeLine; decide), fun t ht => ?_⟩
    have s6 := same_upd (o := .tup [.int 0, .int ((((fullL ys).map V.int).length : Nat) : Int)]) ht
    refine ⟨d, .int ((histP ys 0 N : Nat) : Int), rfl, ?_, ?_⟩
    · have hv : valV kvs5 (key2 0 N) = some (.int ((histP ys 0 N : Nat) : Int)) := by
        rcases Nat.eq_zero_or_pos N with h | h
        · rw [h, histP_self]
          exact hkd 0 (Nat.zero_le _)
        · refine hk5 0 N ?_
          rw [hpsl, List.take_length]
          exact mem_parts.mpr ⟨h, Nat.le_refl _⟩
      have := DGet.t (k := key2 0 N) (s6 _ _ e5) (show (upd H5 t (.tup [.int 0, .int ((((fullL ys).map V.int).length : Nat) : Int)])) t = some (.tup ((key2 0 N).map kV)) from by rw [upd_same, hrl]; rfl)
      rw [hv] at this
      exact this
    · have e : histP ys 0 N = histT ys := by
        unfold histP histT
        rw [show blk (fullL ys) 0 N = fullL ys from by unfold blk; rw [Nat.sub_zero, List.drop_zero, List.take_of_length_le (by omega)]]
      rw [e]
      exact q _ ((s12.trans s5).trans s6)
def pairsW (ys : List V) (c : Nat) : List (List Int) := ((chL ys c).map fun w => [w, ((histT (ys.set c (.int w)) : Nat) : Int)]).filter fun p => decide (0 < p.getD 1 0)
theorem chL_len {ys : List V} (tab : ∀ y ∈ ys, TabV ys.length y) (c : Int) : (chL ys c).length ≤ ys.length := by
  have hdn : (chL ys c).Nodup := by
    unfold chL chV
    split
    · exact List.nodup_cons.mpr ⟨List.not_mem_nil, List.nodup_nil⟩
    · exact (List.pairwise_lt_range.map _ fun a b h => by omega : ((List.range ys.length).map fun (i : Nat) => (i : Int)).Pairwise (· < ·)).imp fun h e => by omega
    · exact List.nodup_nil
  have := sub_len (l := (List.range ys.length).map fun (i : Nat) => (i : Int)) hdn fun w hw => by
    have := wish_in tab c w hw
    exact List.mem_map.mpr ⟨w.toNat, List.mem_range.mpr (by omega), by omega⟩
  rw [List.length_map, List.length_range] at this
  exact this
def spWishCounts (K : PySem.W.Frag) : Sp := fun vs H Q _ => ∃ (a : Addr) (ys : List V) (c : Nat), vs = [.ref a, .int c] ∧ Sq K H a ys ∧ ys.length ≤ 12 ∧ (∀ y ∈ ys, TabV ys.length y) ∧ Poss ys ∧ (c : Int) ∈ fullL ys ∧
  ∀ p zs H', Same H H' → H p = none → H' p = some (.lst zs) → DpAll K H' zs ((pairsW ys c).map dT) → Q (.ref p) H'

/-! ### _law_source -/
def spSource (K : PySem.W.Frag) : Sp := fun vs H Q _ => ∃ (a : Addr) (ns : List Int) (i : Nat), vs = [.ref a, .int i] ∧ SqL K H a (ns.map V.int) ∧ ns.length ≤ 63 ∧ i ≤ 63 ∧ ∀ p o, H p = none → SrcO 1000000000000 o → Q (.ref p) (upd H p o)
theorem ok_source (T : Bt mg) {f : Addr} {fd : FuncData} {k : Nat} (D : Df K mg "_law_source" s_law_source ["_law_script", "_law_index"] f fd) : Kn P w K mg base (k + 1) "_law_source" s_law_source ["_law_script", "_law_index"] (spSource K) f fd := by
  refine ⟨D, D.F.ok sc_law_source (fun vs H Q E h => ?_) (fun cdv A outer s H vs Q E hr h => ?_)⟩
  · obtain ⟨a, ns, i, rfl, _⟩ := h
    rfl
  obtain ⟨a, ns, i, rfl, hS, h63, hi, q⟩ := h
  refine ⟨_, (pss_cons (ps_set (i := 2) sc_law_source.nd rfl (.inl rfl) pe_int)
      (pss_cons (ps_if (pt_cmpR op_lt (pv 1) (pe_callB (call_lenK (K := K) rfl) (by rfl) T.len (by decide +kernel) (pa_cons (pv 0) pa_nil)) (nomark _)) (pss_one (ps_set (i := 2) sc_law_source.nd rfl (.inl rfl) (pe_ix (ix_listK (K := K) rfl) (pv 0) (pv 1) (fun _ _ => rfl)))) pss_nil)
      (pss_one (ps_ret (pe_lst (pa_cons (pe_op op_mul (pe_callB call_abs (by rfl) T.abs (by decide +kernel) (pa_cons (pv 2) pa_nil)) (pe_callTy call_int1 (by rfl) T.int (by decide +kernel) (pa_cons (pe_cmpR op_ge (pe_callB call_abs (by rfl) T.abs (by decide +kernel) (pa_cons (pv 2) pa_nil)) (pe_op op_pow pe_int pe_int) (nomark _)) pa_nil))) (pa_cons (pe_op op_mod (pe_op op_mul (pe_op op_add (pe_op op_add (pe_op op_mod (pv 2) pe_int) (pe_op op_mul pe_int (pv 1))) pe_int) pe_int) pe_int) (pa_cons pe_int pa_nil)))))))), ?_⟩
  refine ⟨_, rfl, _, rfl, a, _, rfl, .inl hS, _, _, rfl, rfl, _, rfl, ?_⟩
  refine ite2 (fun c => ?_) (fun c => ?_)
  · have c' : (i : Int) < (((ns.map V.int).length : Nat) : Int) := of_decide_eq_true c
    rw [List.length_map] at c'
    have g : (ns.map V.int)[i]? = some (.int ns[i]) := by
      rw [List.getElem?_map, List.getElem?_eq_getElem (by omega)]
      rfl
    refine ⟨_, rfl, _, rfl, a, _, _, _, rfl, rfl, hS, atI_nat g, ?_⟩
    generalize ns[i] = z
    refine ⟨_, rfl, _, rfl, _, rfl, _, rfl, _, _, rfl, rfl, ⟨by decide, by decide, by decide⟩, _, _, rfl, rfl, .inr ⟨_, rfl, _, _, rfl, rfl, cmul_b _ _, ?_⟩⟩
    refine ⟨_, rfl, _, _, rfl, rfl, (by show (0 : Int) < 2147483563; decide), _, rfl, _, _, rfl, rfl, .inl ⟨by decide, by decide⟩, _, _, rfl, rfl, _, _, rfl, rfl, _, _, rfl, rfl, .inr ⟨by decide, by decide⟩, _, _, rfl, rfl, (by show (0 : Int) < 2147483543; decide), (by show 3 ≤ sizeLine; decide), fun p hp => q p _ hp ?_⟩
    exact ⟨_, _, _, rfl, src_a z _, Int.emod_nonneg _ (by decide), Int.lt_trans (Int.emod_lt_of_pos _ (by decide)) (by decide), Int.le_refl 0, by decide⟩
  · refine ⟨_, rfl, _, rfl, _, rfl, _, rfl, _, _, rfl, rfl, ⟨by decide, by decide, by decide⟩, _, _, rfl, rfl, .inr ⟨_, rfl, _, _, rfl, rfl, cmul_b _ _, ?_⟩⟩
    refine ⟨_, rfl, _, _, rfl, rfl, (by show (0 : Int) < 2147483563; decide), _, rfl, _, _, rfl, rfl, .inl ⟨by decide, by decide⟩, _, _, rfl, rfl, _, _, rfl, rfl, _, _, rfl, rfl, .inr ⟨by decide, by decide⟩, _, _, rfl, rfl, (by show (0 : Int) < 2147483543; decide), (by show 3 ≤ sizeLine; decide), fun p hp => q p _ hp ?_⟩
    exact ⟨_, _, _, rfl, src_a 0 _, Int.emod_nonneg _ (by decide), Int.lt_trans (Int.emod_lt_of_pos _ (by decide)) (by decide), Int.le_refl 0, by decide⟩

/-! ### _law_equal, of two values that are the same data -/
def spEqual (K : PySem.W.Frag) (n : Nat) : Sp := fun vs H Q _ => ∃ (x y : V) (d : PyData), vs = [x, y] ∧ Dp K H x d ∧ Dp K H y d ∧ depthD d + 1 ≤ n ∧ wideD d ≤ 500 ∧ ∀ H', Same H H' → Q (.bl true) H'
theorem ok_equal1 (T : Bt mg) {f : Addr} {fd : FuncData} {n : Nat} (D : Df K mg "_law_equal" s_law_equal ["_law_found", "_law_due"] f fd) (G : FnOk P w K mg base CX0 n f fd ["_law_found", "_law_due"] (spEqual K n)) : FnOk P w K mg base CX0 (n + 1) f fd ["_law_found", "_law_due"] (spEqual K (n + 1)) := by
  have k_law_equal : Kn P w K mg base n "_law_equal" s_law_equal ["_law_found", "_law_due"] (spEqual K n) f fd := ⟨D, G⟩
  refine D.F.ok sc_law_equal (fun vs H Q E h => ?_) (fun cdv A outer s H vs Q E hr h => ?_)
  · obtain ⟨x, y, d, rfl, _⟩ := h
    rfl
  obtain ⟨x, y, d, rfl, hx, hy, hd, hw, q⟩ := h
  refine ⟨_, (pss_cons (ps_if (pt_val (pe_callB (call_isiTK (K := K) rfl) (by rfl) T.isinstance (by decide +kernel) (pa_cons (pv 1) (pa_cons (pe_tup (pa_cons (pe_bltn (v := .ty "list") (by rfl) T.list (by decide +kernel) rfl) (pa_cons (pe_bltn (v := .ty "tuple") (by rfl) T.tuple (by decide +kernel) rfl) pa_nil))) pa_nil)))) (pss_cons (ps_if (PW.pt (pw_or (pt_cmpR op_ne (pe_callB (call_isiKK (K := K) rfl) (by rfl) T.isinstance (by decide +kernel) (pa_cons (pv 0) (pa_cons (pe_bltn (v := .ty "list") (by rfl) T.list (by decide +kernel) rfl) pa_nil))) (pe_callB (call_isiKK (K := K) rfl) (by rfl) T.isinstance (by decide +kernel) (pa_cons (pv 1) (pa_cons (pe_bltn (v := .ty "list") (by rfl) T.list (by decide +kernel) rfl) pa_nil))) (nomark _)) (pw_or1 (pt_cmpR op_ne (pe_callB (call_isiKK (K := K) rfl) (by rfl) T.isinstance (by decide +kernel) (pa_cons (pv 0) (pa_cons (pe_bltn (v := .ty "tuple") (by rfl) T.tuple (by decide +kernel) rfl) pa_nil))) (pe_callB (call_isiKK (K := K) rfl) (by rfl) T.isinstance (by decide +kernel) (pa_cons (pv 1) (pa_cons (pe_bltn (v := .ty "tuple") (by rfl) T.tuple (by decide +kernel) rfl) pa_nil))) (nomark _))))) (pss_one (ps_ret pe_bl)) pss_nil)
      (pss_one (ps_ret (pe_and (pe_cmpR op_eq (pe_callB (call_lenK (K := K) rfl) (by rfl) T.len (by decide +kernel) (pa_cons (pv 0) pa_nil)) (pe_callB (call_lenK (K := K) rfl) (by rfl) T.len (by decide +kernel) (pa_cons (pv 1) pa_nil)) (nomark _)) (pe_one (pe_callB (cr_allK (K := K) rfl rfl) (by rfl) T.all (by decide +kernel) (pa_cons (pe_lc (own := [("_law_lone", 2), ("_law_mate", 3)]) (by rfl) sc_law_equal.nd (RZ.pi_zipA (by rfl) T.zip (pa_cons (pv 0) (pa_cons (pv 1) pa_nil))) (blkOk_by (own := [("_law_lone", 2), ("_law_mate", 3)]) (N := ["_law_found", "_law_due", "_law_lone", "_law_mate"]) (sc := defScope s_law_equal) (by decide +kernel)) (fun _ _ _ _ _ => (pg_tupK (K := K) (n := 2) rfl rfl (pgs_cons (pg_name (i := 2) sc_law_equal.nd rfl (.inl rfl)) (pgs_cons (pg_name (i := 3) sc_law_equal.nd rfl (.inl rfl)) pgs_nil)))) (fun _ _ _ _ _ => pts_nil) (fun _ _ _ _ _ => (pe_call k_law_equal.G (hr.mono (by omega)) (by rfl) k_law_equal.D.g k_law_equal.D.F.kp k_law_equal.D.b .nil pass0 (pa_cons (pv 2) (pa_cons (pv 3) pa_nil))))) pa_nil))))))) pss_nil)
      (pss_cons (ps_if (PW.pt (pw_or (pt_cmpR op_isN (pv 1) pe_non (nomark _)) (pw_or1 (pt_val (pe_callB (call_isiKK (K := K) rfl) (by rfl) T.isinstance (by decide +kernel) (pa_cons (pv 1) (pa_cons (pe_bltn (v := .ty "str") (by rfl) T.str (by decide +kernel) rfl) pa_nil))))))) (pss_one (ps_ret (pe_and (pe_cmpR op_eq (pv 0) (pv 1) (nomark _)) (pe_one (pe_cmpR op_eq (pe_callB (call_isiKK (K := K) rfl) (by rfl) T.isinstance (by decide +kernel) (pa_cons (pv 0) (pa_cons (pe_bltn (v := .ty "str") (by rfl) T.str (by decide +kernel) rfl) pa_nil))) (pe_callB (call_isiKK (K := K) rfl) (by rfl) T.isinstance (by decide +kernel) (pa_cons (pv 1) (pa_cons (pe_bltn (v := .ty "str") (by rfl) T.str (by decide +kernel) rfl) pa_nil))) (nomark _)))))) pss_nil)
      (pss_one (ps_ret (pe_and (pe_callB (call_isiKK (K := K) rfl) (by rfl) T.isinstance (by decide +kernel) (pa_cons (pv 0) (pa_cons (pe_bltn (v := .ty "int") (by rfl) T.int (by decide +kernel) rfl) pa_nil))) (pe_and (pe_cmpR op_eq (pe_callB (call_isiKK (K := K) rfl) (by rfl) T.isinstance (by decide +kernel) (pa_cons (pv 0) (pa_cons (pe_bltn (v := .ty "bool") (by rfl) T.bool (by decide +kernel) rfl) pa_nil))) (pe_callB (call_isiKK (K := K) rfl) (by rfl) T.isinstance (by decide +kernel) (pa_cons (pv 1) (pa_cons (pe_bltn (v := .ty "bool") (by rfl) T.bool (by decide +kernel) rfl) pa_nil))) (nomark _)) (pe_one (pe_cmpR op_eq (pv 0) (pv 1) (nomark _))))))))), ?_⟩
  have sb : ∀ {tp : Addr}, H tp = none → Same H (upd H tp (.tup [.ty "list", .ty "tuple"])) := fun h => same_upd h
  have cs2 : Paired ClsV [.ty "list", .ty "tuple"] [.type "list", .type "tuple"] := .cons (.ty _) (.cons (.ty _) .nil)
  cases hx with
  | non =>
    cases hy
    refine ⟨_, rfl, (by show 2 ≤ sizeLine; decide), fun tp htp => ⟨_, tp, _, _, _, _, rfl, upd_same, cs2, .base .non, kit_n (kit_ty (by decide +kernel)) (kit_n (kit_ty (by decide +kernel)) kitAny_nil), _, rfl, iteF ?_⟩⟩
    refine ⟨_, rfl, rfl, _, rfl, iteT ?_⟩
    refine iteT ?_
    refine ⟨_, rfl, _, rfl, rfl, true, rfl, ?_⟩
    refine iteT ?_
    refine ⟨_, rfl, _, _, _, _, _, rfl, .ty _, .base .non, kit_ty (r := false) (by decide +kernel), _, rfl, _, _, _, _, _, rfl, .ty _, .base .non, kit_ty (r := false) (by decide +kernel), rfl, ?_⟩
    exact q _ (sb htp)
  | bl b =>
    cases hy
    refine ⟨_, rfl, (by show 2 ≤ sizeLine; decide), fun tp htp => ⟨_, tp, _, _, _, _, rfl, upd_same, cs2, .base (.bl _), kit_n (kit_ty (by decide +kernel)) (kit_n (kit_ty (by decide +kernel)) kitAny_nil), _, rfl, iteF ?_⟩⟩
    refine ⟨_, rfl, rfl, _, rfl, ?_⟩
    refine iteF ?_
    refine ⟨_, rfl, _, _, _, _, _, rfl, .ty _, .base (.bl _), kit_ty (r := false) (by decide +kernel), _, rfl, iteF ?_⟩
    refine ⟨_, rfl, _, _, _, _, _, rfl, .ty _, .base (.bl _), kit_ty (r := true) (by decide +kernel), _, rfl, iteT ?_⟩
    refine ⟨_, rfl, _, _, _, _, _, rfl, .ty _, .base (.bl _), kit_ty (r := true) (by decide +kernel), _, rfl, _, _, _, _, _, rfl, .ty _, .base (.bl _), kit_ty (r := true) (by decide +kernel), rfl, true, rfl, iteT ?_⟩
    refine ⟨_, rfl, _, rfl, rfl, ?_⟩
    exact dec_t rfl (Q := fun b => Q (.bl b) _) (q _ (sb htp))
  | int i =>
    cases hy
    refine ⟨_, rfl, (by show 2 ≤ sizeLine; decide), fun tp htp => ⟨_, tp, _, _, _, _, rfl, upd_same, cs2, .base (.int _), kit_n (kit_ty (by decide +kernel)) (kit_n (kit_ty (by decide +kernel)) kitAny_nil), _, rfl, iteF ?_⟩⟩
    refine ⟨_, rfl, rfl, _, rfl, ?_⟩
    refine iteF ?_
    refine ⟨_, rfl, _, _, _, _, _, rfl, .ty _, .base (.int _), kit_ty (r := false) (by decide +kernel), _, rfl, iteF ?_⟩
    refine ⟨_, rfl, _, _, _, _, _, rfl, .ty _, .base (.int _), kit_ty (r := true) (by decide +kernel), _, rfl, iteT ?_⟩
    refine ⟨_, rfl, _, _, _, _, _, rfl, .ty _, .base (.int _), kit_ty (r := false) (by decide +kernel), _, rfl, _, _, _, _, _, rfl, .ty _, .base (.int _), kit_ty (r := false) (by decide +kernel), rfl, true, rfl, iteT ?_⟩
    refine ⟨_, rfl, _, rfl, rfl, ?_⟩
    exact dec_t rfl (Q := fun b => Q (.bl b) _) (q _ (sb htp))
  | str z =>
    cases hy
    refine ⟨_, rfl, (by show 2 ≤ sizeLine; decide), fun tp htp => ⟨_, tp, _, _, _, _, rfl, upd_same, cs2, .base (.str _), kit_n (kit_ty (by decide +kernel)) (kit_n (kit_ty (by decide +kernel)) kitAny_nil), _, rfl, iteF ?_⟩⟩
    refine ⟨_, rfl, rfl, _, rfl, ?_⟩
    refine iteF ?_
    refine ⟨_, rfl, _, _, _, _, _, rfl, .ty _, .base (.str _), kit_ty (r := true) (by decide +kernel), _, rfl, iteT ?_⟩
    refine ⟨_, rfl, _, rfl, rfl, true, dec_t (Q := fun b => V.bl b = V.bl true) rfl rfl, ?_⟩
    refine iteT ?_
    refine ⟨_, rfl, _, _, _, _, _, rfl, .ty _, .base (.str _), kit_ty (r := true) (by decide +kernel), _, rfl, _, _, _, _, _, rfl, .ty _, .base (.str _), kit_ty (r := true) (by decide +kernel), rfl, ?_⟩
    exact q _ (sb htp)
  | @lst a xs ds hS hA =>
    cases hy with
    | @lst b ys _ hS2 hA2 =>
    refine ⟨_, rfl, (by show 2 ≤ sizeLine; decide), fun tp htp => ⟨_, tp, _, _, _, _, rfl, upd_same, cs2, tyL ((sb htp).seq hS2), kit_y (kit_ty (by decide +kernel)), _, rfl, iteT ?_⟩⟩
    have hS' := (sb htp).seq hS
    have hS2' := (sb htp).seq hS2
    refine ⟨_, rfl, _, _, _, _, _, rfl, .ty _, tyL hS', kit_ty (r := true) (by decide +kernel), _, rfl, _, _, _, _, _, rfl, .ty _, tyL hS2', kit_ty (r := true) (by decide +kernel), rfl, false, rfl, iteF ?_⟩
    refine ⟨_, rfl, _, _, _, _, _, rfl, .ty _, tyL hS', kit_ty (r := false) (by decide +kernel), _, rfl, _, _, _, _, _, rfl, .ty _, tyL hS2', kit_ty (r := false) (by decide +kernel), rfl, false, rfl, iteF ?_⟩
    have l1 := dpAll_len hA
    have l2 := dpAll_len hA2
    have wl : ds.length ≤ 500 := Nat.le_trans (Nat.le_trans (Nat.le_max_left _ _) (by unfold wideD at hw; exact hw)) (Nat.le_refl _)
    have ww : wideL ds ≤ 500 := Nat.le_trans (Nat.le_trans (Nat.le_max_right _ _) (by unfold wideD at hw; exact hw)) (Nat.le_refl _)
    refine ⟨_, rfl, a, _, rfl, .inl hS', _, rfl, b, _, rfl, .inl hS2', rfl, true, dec_t (Q := fun b => V.bl b = V.bl true) (by rw [l1, l2]) rfl, iteT ?_⟩
    refine ⟨_, rfl, _, rfl, a, b, xs, ys, rfl, .inl ⟨hS', hS2', fun L hL => ?_⟩⟩
    refine lc_zipL (by rw [l1, l2]) (fun i H2 => Same (upd H tp (.tup [.ty "list", .ty "tuple"])) H2 ∧ H2 L = some (.lst ((List.replicate i true).map V.bl))) ⟨same_upd hL, upd_same⟩ (fun i H2 hP => ⟨hP.1.seq hS', hP.1.seq hS2'⟩) (fun i x y T' H2 gx gy hP hT => ?_) (fun H2 hP => ?_)
    · obtain ⟨s2, e2⟩ := hP
      have h1 : Same H2 (upd H2 T' (.tup [x, y])) := same_upd hT
      refine ⟨T', [x, y], rfl, sqT upd_same, rfl, x, [y], rfl, y, [], rfl, rfl, rfl, ?_⟩
      obtain ⟨d1, g1, p1⟩ := dpAll_get hA gx
      obtain ⟨d2, g2, p2⟩ := dpAll_get hA2 gy
      rw [g1] at g2
      cases g2
      have hdd := depthL_get g1
      have hww := wideL_get g1
      have hd' : depthL ds + 1 + 1 ≤ n + 1 := by unfold depthD at hd; exact hd
      refine ⟨_, rfl, _, rfl, x, y, d1, rfl, dp_same (((sb htp).trans s2).trans h1) p1, dp_same (((sb htp).trans s2).trans h1) p2, by omega, by omega, fun H3 h3 => ?_⟩
      have hi : i < xs.length := (List.getElem?_eq_some_iff.mp gx).1
      refine ⟨_, h3 _ _ (h1 _ _ e2), ?_, Same.mut ((s2.trans h1).trans h3) hL, ?_⟩
      · rw [List.length_map, List.length_replicate]
        exact small1000 (by omega)
      · rw [upd_same, List.replicate_succ', List.map_append]
        rfl
    · obtain ⟨s2, e2⟩ := hP
      refine ⟨L, _, rfl, sqL e2, ?_⟩
      rw [all_rep]
      exact q _ ((sb htp).trans s2)
  | @tup a xs ds hS hA =>
    cases hy with
    | @tup b ys _ hS2 hA2 =>
    refine ⟨_, rfl, (by show 2 ≤ sizeLine; decide), fun tp htp => ⟨_, tp, _, _, _, _, rfl, upd_same, cs2, tyT (Same.tup (sb htp) hS2), kit_n (kit_ty (by decide +kernel)) (kit_y (kit_ty (by decide +kernel))), _, rfl, iteT ?_⟩⟩
    have hS' := Same.tup (sb htp) hS
    have hS2' := Same.tup (sb htp) hS2
    refine ⟨_, rfl, _, _, _, _, _, rfl, .ty _, tyT hS', kit_ty (r := false) (by decide +kernel), _, rfl, _, _, _, _, _, rfl, .ty _, tyT hS2', kit_ty (r := false) (by decide +kernel), rfl, false, rfl, iteF ?_⟩
    refine ⟨_, rfl, _, _, _, _, _, rfl, .ty _, tyT hS', kit_ty (r := true) (by decide +kernel), _, rfl, _, _, _, _, _, rfl, .ty _, tyT hS2', kit_ty (r := true) (by decide +kernel), rfl, false, rfl, iteF ?_⟩
    have l1 := dpAll_len hA
    have l2 := dpAll_len hA2
    have wl : ds.length ≤ 500 := Nat.le_trans (Nat.le_trans (Nat.le_max_left _ _) (by unfold wideD at hw; exact hw)) (Nat.le_refl _)
    have ww : wideL ds ≤ 500 := Nat.le_trans (Nat.le_trans (Nat.le_max_right _ _) (by unfold wideD at hw; exact hw)) (Nat.le_refl _)
    refine ⟨_, rfl, a, _, rfl, .inr hS', _, rfl, b, _, rfl, .inr hS2', rfl, true, dec_t (Q := fun b => V.bl b = V.bl true) (by rw [l1, l2]) rfl, iteT ?_⟩
    refine ⟨_, rfl, _, rfl, a, b, xs, ys, rfl, .inr ⟨hS', hS2', fun L hL => ?_⟩⟩
    refine lc_zipT (by rw [l1, l2]) (fun i H2 => Same (upd H tp (.tup [.ty "list", .ty "tuple"])) H2 ∧ H2 L = some (.lst ((List.replicate i true).map V.bl))) ⟨same_upd hL, upd_same⟩ (fun i H2 hP => ⟨Same.tup hP.1 hS', Same.tup hP.1 hS2'⟩) (fun i x y T' H2 gx gy hP hT => ?_) (fun H2 hP => ?_)
    · obtain ⟨s2, e2⟩ := hP
      have h1 : Same H2 (upd H2 T' (.tup [x, y])) := same_upd hT
      refine ⟨T', [x, y], rfl, sqT upd_same, rfl, x, [y], rfl, y, [], rfl, rfl, rfl, ?_⟩
      obtain ⟨d1, g1, p1⟩ := dpAll_get hA gx
      obtain ⟨d2, g2, p2⟩ := dpAll_get hA2 gy
      rw [g1] at g2
      cases g2
      have hdd := depthL_get g1
      have hww := wideL_get g1
      have hd' : depthL ds + 1 + 1 ≤ n + 1 := by unfold depthD at hd; exact hd
      refine ⟨_, rfl, _, rfl, x, y, d1, rfl, dp_same (((sb htp).trans s2).trans h1) p1, dp_same (((sb htp).trans s2).trans h1) p2, by omega, by omega, fun H3 h3 => ?_⟩
      have hi : i < xs.length := (List.getElem?_eq_some_iff.mp gx).1
      refine ⟨_, h3 _ _ (h1 _ _ e2), ?_, Same.mut ((s2.trans h1).trans h3) hL, ?_⟩
      · rw [List.length_map, List.length_replicate]
        exact small1000 (by omega)
      · rw [upd_same, List.replicate_succ', List.map_append]
        rfl
    · obtain ⟨s2, e2⟩ := hP
      refine ⟨L, _, rfl, sqL e2, ?_⟩
      rw [all_rep]
      exact q _ ((sb htp).trans s2)
theorem ok_equal (T : Bt mg) {f : Addr} {fd : FuncData} (D : Df K mg "_law_equal" s_law_equal ["_law_found", "_law_due"] f fd) : ∀ n : Nat, FnOk P w K mg base CX0 n f fd ["_law_found", "_law_due"] (spEqual K n)
  | 0 => by
    have no : ∀ vs H Q E, ¬ spEqual K 0 vs H Q E := fun vs H Q E h => by
      obtain ⟨x, y, d, _, _, _, h1, _⟩ := h
      omega
    exact ⟨fun vs H Q E h => absurd h (no vs H Q E), fun A outer s H args us vs Q E _ _ _ _ h => absurd h (no vs H Q E)⟩
  | n + 1 => ok_equal1 T D (ok_equal T D n)

/-! ### what is put where: one answer -/
theorem near_total {w c x : Int} (h : c ≠ x) (n : near w c x = false) : near w x c = true := by
  unfold near at n ⊢
  rw [HT.lexLt_cons] at n ⊢
  by_cases e : dist x w = dist c w
  · rw [if_pos e] at n
    rw [if_pos e.symm]
    rw [HT.lexLt_cons, if_neg (fun z => h z.symm)] at n
    rw [HT.lexLt_cons, if_neg h]
    have := of_decide_eq_false n
    exact decide_eq_true (by omega)
  · rw [if_neg e] at n
    rw [if_neg (fun z => e z.symm)]
    have := of_decide_eq_false n
    exact decide_eq_true (by omega)
theorem NSpot.one {ys : List V} {w : Int} {c c' : Nat} (a : NSpot ys w c) (b : NSpot ys w c') : c = c' := by
  false_or_by_contra
  rename_i h
  have h1 := a.best c' b.at_
  have h2 := b.best c a.at_
  rw [near_total (by omega) h1] at h2
  cases h2
theorem nspot_by {ys : List V} {w : Int} {c : Nat} (h1 : ys[c]? = some .non) (h2 : ((List.range ys.length).all fun x => !(isN (ys.getD x (.int 0))) || !(near w (c : Int) (x : Int))) = true) : NSpot ys w c := by
  refine ⟨h1, fun x hx => ?_⟩
  have := List.all_eq_true.mp h2 x (List.mem_range.mpr (List.getElem?_eq_some_iff.mp hx).1)
  rw [isN_at.mpr hx] at this
  simpa using this
theorem PutV.one {ys : List V} {hs : List Int} {zs : List V} {qs : List Int} (a : PutV ys hs zs qs) : ∀ {zs' : List V} {qs' : List Int}, PutV ys hs zs' qs' → zs = zs' ∧ qs = qs' := by
  induction a with
  | nil =>
    intro zs' qs' b
    generalize e : ([] : List Int) = l at b
    cases b with
    | nil => exact ⟨rfl, rfl⟩
    | snoc => simp at e
  | @snoc hs zs qs h c a sp ih =>
    intro zs' qs' b
    generalize e : hs ++ [h] = l at b
    cases b with
    | nil => simp at e
    | snoc b sp' =>
      obtain ⟨rfl, e2⟩ := List.append_inj' e rfl
      cases e2
      obtain ⟨rfl, rfl⟩ := ih b
      rw [sp.one sp']
      exact ⟨rfl, rfl⟩
theorem PutV.fill {n : Nat} {hs : List Int} {zs : List V} {qs : List Int} (a : PutV (List.replicate n .non) hs zs qs) : ∃ sh : List (Option Int), zs = sh.map oV ∧ Fill n hs sh qs := by
  induction a with
  | nil => exact ⟨List.replicate n none, by rw [List.map_replicate]; rfl, .nil⟩
  | @snoc hs zs qs h c a sp ih =>
    obtain ⟨sh, rfl, fl⟩ := ih
    refine ⟨sh.set c (some h), by rw [List.map_set]; rfl, .snoc fl ⟨?_, ?_, fun x hx hf => sp.best x (by rw [List.getElem?_map, hf]; rfl)⟩⟩
    · have := (List.getElem?_eq_some_iff.mp sp.at_).1
      rw [List.length_map, fl.len] at this
      exact this
    · have := sp.at_
      rw [List.getElem?_map] at this
      cases g : sh[c]? with
      | none => rw [g] at this; cases this
      | some o =>
        rw [g] at this
        cases o with
        | none => rfl
        | some z => cases this

/-! ### needed_by, can_leave, left -/
def nbL (ys : List V) (c : Int) : List Int := (fullL ys).filter fun d => decide (c ∈ wantL ys d)
theorem set_takeN {ys : List V} {c i : Nat} {x y : V} (gx : ys[i]? = some y) : (ys.set c x).take (i + 1) = (ys.set c x).take i ++ [if i = c then x else y] := by
  rw [List.take_succ]
  congr 1
  rw [List.getElem?_set]
  have hi := (List.getElem?_eq_some_iff.mp gx).1
  by_cases e : c = i
  · subst e
    rw [if_pos rfl, if_pos hi, if_pos rfl]
    rfl
  · rw [if_neg e, gx, if_neg (Ne.symm e)]
    rfl
def spNeededBy (K : PySem.W.Frag) : Sp := fun vs H Q _ => ∃ (a : Addr) (ys : List V) (c : Int), vs = [.ref a, .int c] ∧ Sq K H a ys ∧ ys.length ≤ 100 ∧ (∀ y ∈ ys, TabV ys.length y) ∧ ∀ p H', Same H H' → H' p = some (.tup ((nbL ys c).map V.int)) → Q (.ref p) H'
theorem filter_take {xs : List Int} {g : Int → Bool} {i : Nat} {x : Int} (gx : xs[i]? = some x) : (xs.take (i + 1)).filter g = (xs.take i).filter g ++ (if g x = true then [x] else []) := by
  rw [List.take_succ, gx, List.filter_append]
  congr 1
  simp only [Option.toList_some, List.filter_cons, List.filter_nil]
theorem ok_neededby (T : Bt mg) {f f1 f2 : Addr} {fd fd1 fd2 : FuncData} (D : Df K mg "needed_by" s_needed_by ["table", "cell"] f fd) (k_taken_cells : Kn P w K mg base 1 "taken_cells" s_taken_cells ["table"] (spTaken K) f1 fd1)
    (k_needed_cells : Kn P w K mg base 3 "needed_cells" s_needed_cells ["table", "cell"] (spNeeded K) f2 fd2) : Kn P w K mg base 4 "needed_by" s_needed_by ["table", "cell"] (spNeededBy K) f fd := by
  refine ⟨D, D.F.ok sc_needed_by (fun vs H Q E h => ?_) (fun cdv A outer s H vs Q E hr h => ?_)⟩
  · obtain ⟨a, ys, c, rfl, _⟩ := h
    rfl
  obtain ⟨a, ys, c, rfl, hA, hl, tab, q⟩ := h
  refine ⟨_, (pss_one (ps_ret (pe_callTy (call_tupleK (K := K) rfl) (by rfl) T.tuple (by decide +kernel) (pa_cons (pe_lc (own := [("other", 2)]) (by rfl) sc_needed_by.nd (pi_list (pe_call k_taken_cells.G (hr.mono (by omega)) (by rfl) k_taken_cells.D.g k_taken_cells.D.F.kp k_taken_cells.D.b .nil pass0 (pa_cons (pv 0) pa_nil))) (blkOk_by (own := [("other", 2)]) (N := ["table", "cell", "other"]) (sc := defScope s_needed_by) (by decide +kernel)) (fun _ _ _ _ _ => (pg_name (i := 2) sc_needed_by.nd rfl (.inl rfl))) (fun _ _ _ _ _ => (pts_one (pt_cmpR (op_inK (K := K) rfl) (pv 1) (pe_call k_needed_cells.G (hr.mono (by omega)) (by rfl) k_needed_cells.D.g k_needed_cells.D.F.kp k_needed_cells.D.b .nil pass0 (pa_cons (pv 0) (pa_cons (pv 2) pa_nil))) (by rfl)))) (fun _ _ _ _ _ => (pv 2))) pa_nil)))), ?_⟩
  refine ⟨_, rfl, a, ys, rfl, hA, hl, fun p1 H1 s1 np1 g1 => ?_⟩
  refine ⟨p1, rfl, ⟨_, sqL g1⟩, fun D1 hD1 => ?_⟩
  have hfl : (fullL ys).length ≤ 100 := Nat.le_trans (fullN_len ys _) hl
  refine lc_list (xs := (fullL ys).map V.int) (fun i H2 => Same H1 H2 ∧ H2 D1 = some (.lst ((((fullL ys).take i).filter fun d => decide (c ∈ wantL ys d)).map V.int))) ⟨same_upd hD1, upd_same⟩ (fun i H2 _ hP => sqL (hP.1 _ _ g1)) (fun i x H2 gx hP => ?_) (fun H2 hP => ?_)
  · obtain ⟨s2, e2⟩ := hP
    rw [List.getElem?_map, Option.map_eq_some_iff] at gx
    obtain ⟨d, gd, rfl⟩ := gx
    have hd := List.mem_of_getElem? gd
    obtain ⟨j, rfl, hj, _⟩ := fullL_mem.mp hd
    refine ⟨rfl, _, rfl, _, rfl, _, rfl, a, ys, j, rfl, Same.sq (s1.trans s2) hA, hl, hj, tab, fun p3 H3 s3 np3 g3 => ?_⟩
    refine ⟨p3, _, rfl, .inr (sqT g3), rfl, flat_ints _, _, rfl, ?_⟩
    rw [inV_ints, if_neg Bool.false_ne_true, filter_take (g := fun d => decide (c ∈ wantL ys d)) gd]
    have e3 := s3 _ _ e2
    have hsz : ((((fullL ys).take i).filter fun d => decide (c ∈ wantL ys d)).map V.int).length < sizeLine := by
      rw [List.length_map]
      refine line_ok (Nat.le_trans (List.length_filter_le _ _) ?_)
      rw [List.length_take]
      omega
    refine ite2 (fun hc => ?_) (fun hc => ?_)
    · refine ⟨_, rfl, _, e3, hsz, Same.mut (s2.trans s3) hD1, ?_⟩
      rw [upd_same, if_pos hc, List.map_append]
      rfl
    · refine ⟨s2.trans s3, ?_⟩
      rw [if_neg hc, List.append_nil]
      exact e3
  · obtain ⟨s2, e2⟩ := hP
    rw [List.length_map, List.take_length] at e2
    exact ⟨D1, _, rfl, .inl ⟨sqL e2, fun l hl => q l _ ((s1.trans s2).trans (same_upd hl)) upd_same⟩⟩
def canL (ys : List V) : List Int := (fullL ys).filter fun c => decide (nbL ys c = [])
def spCanLeave (K : PySem.W.Frag) : Sp := fun vs H Q _ => ∃ (a : Addr) (ys : List V), vs = [.ref a] ∧ Sq K H a ys ∧ ys.length ≤ 100 ∧ (∀ y ∈ ys, TabV ys.length y) ∧ ∀ p H', Same H H' → H p = none → H' p = some (.lst ((canL ys).map V.int)) → Q (.ref p) H'
theorem eqv_T0 (a : List Int) : PyData.eqv (dT a) (.tuple []) = decide (a = []) := eqv_T a []
def spLeft (K : PySem.W.Frag) (Co Cn : Addr) : Sp := fun vs H Q E => ∃ (a : Addr) (ys : List V) (c : Int), vs = [.ref a, .int c] ∧ Sq K H a ys ∧ ys.length ≤ 100 ∧ (∀ y ∈ ys, TabV ys.length y) ∧ (c ∉ fullL ys → Errd E Co "cell" (.int c) H) ∧
  (c ∈ fullL ys → nbL ys c ≠ [] → Errd E Cn "cell" (.int c) H) ∧ (c ∈ fullL ys → nbL ys c = [] → ∀ p H', Same H H' → H' p = some (.tup (ys.set c.toNat .non)) → Q (.ref p) H')
theorem Errd.same {E : XK} {C : Addr} {f : Str} {v : V} {H H' : Hp} (e : Errd E C f v H) (s : Same H H') : Errd E C f v H' := fun d H2 s2 hd => e d H2 (s.trans s2) hd
theorem ok_left (T : Bt mg) (R : Er K mg) {f f1 f2 : Addr} {fd fd1 fd2 : FuncData} (D : Df K mg "left" s_left ["table", "cell"] f fd) (k_require_object : KnX P w K mg base 3 "require_object" s_require_object ["table", "cell"] (spReqOX K R.C_NoObject) f1 fd1)
    (k_needed_by : Kn P w K mg base 4 "needed_by" s_needed_by ["table", "cell"] (spNeededBy K) f2 fd2) : KnX P w K mg base 5 "left" s_left ["table", "cell"] (spLeft K R.C_NoObject R.C_Needed) f fd := by
  refine ⟨D, D.F.okX sc_left (fun vs H Q E h => ?_) (fun cdv A outer s H vs Q E hr h => ?_)⟩
  · obtain ⟨a, ys, c, rfl, _⟩ := h
    rfl
  obtain ⟨a, ys, c, rfl, hA, hl, tab, q1, q2, q3⟩ := h
  refine ⟨_, (pss_cons (ps_expr (pe_call k_require_object.G (hr.mono (by omega)) (by rfl) k_require_object.D.g k_require_object.D.F.kp k_require_object.D.b .nil (passes_call takesE (fun _ _ _ _ h => h)) (pa_cons (pv 0) (pa_cons (pv 1) pa_nil))))
      (pss_cons (ps_if (pt_cmpR (op_neDK (K := K) rfl hr.units) (pe_call k_needed_by.G (hr.mono (by omega)) (by rfl) k_needed_by.D.g k_needed_by.D.F.kp k_needed_by.D.b .nil pass0 (pa_cons (pv 0) (pa_cons (pv 1) pa_nil))) (pe_tup pa_nil) (nomark _)) (pss_one (ps_raise rfl takesE (pmk_b bas_R R.E_Needed.o R.I_Needed.iC R.I_Needed.tI (ok_init_Needed T R.I_Needed) (hr.mono (by omega)) R.I_Needed.b pass0 (by rfl) R.E_Needed.g (pa_cons (pv 1) pa_nil)))) pss_nil)
      (pss_one (ps_ret (pe_callTy (call_tupleK (K := K) rfl) (by rfl) T.tuple (by decide +kernel) (pa_cons (pe_lc (own := [("place", 2), ("entry", 3)]) (by rfl) sc_left.nd (pi_enS (by rfl) T.enumerate (pa_cons (pv 0) pa_nil)) (blkOk_by (own := [("place", 2), ("entry", 3)]) (N := ["table", "cell", "place", "entry"]) (sc := defScope s_left) (by decide +kernel)) (fun _ _ _ _ _ => (pg_tupK (K := K) (n := 2) rfl rfl (pgs_cons (pg_name (i := 2) sc_left.nd rfl (.inl rfl)) (pgs_cons (pg_name (i := 3) sc_left.nd rfl (.inl rfl)) pgs_nil)))) (fun _ _ _ _ _ => pts_nil) (fun _ _ _ _ _ => (pe_ifExp (pt_cmpR op_eq (pv 2) (pv 1) (nomark _)) pe_non (pv 3)))) pa_nil)))))), ?_⟩
  refine ⟨_, rfl, _, rfl, a, ys, c, rfl, hA, hl, fun hc H1 s1 => ?_, q1⟩
  refine ⟨_, rfl, _, rfl, a, ys, c, rfl, Same.sq s1 hA, hl, tab, fun p3 H3 s3 g3 => ?_⟩
  refine ⟨(by show 0 ≤ sizeLine; decide), fun p4 hp4 => ?_⟩
  have s4 := same_upd (o := .tup []) hp4
  refine ⟨dT (nbL ys c), dT [], dp_T (sqT (s4 _ _ g3)), dp_T (sqT upd_same), sh_T _, sh_T _, _, rfl, ?_⟩
  have s14 := (s1.trans s3).trans s4
  rw [eqv_T]
  by_cases hn : nbL ys c = []
  · rw [decide_eq_true hn]
    refine iteF ?_
    dsimp only [tSeq]
    obtain ⟨j, rfl, hj, _⟩ := fullL_mem.mp hc
    refine ⟨_, rfl, a, ys, rfl, Same.sq s14 hA, fun J G wk hG D' hD => ?_⟩
    refine lc_it wk (fun i H2 => Same (upd H3 p4 (.tup [])) H2 ∧ H2 D' = some (.lst ((ys.set j .non).take i))) ⟨same_upd hD, upd_same⟩ (fun i H2 _ hP => hG _ (ats_same hP.1)) (fun i v H2 H3 hi hP hY => ?_) (fun H2 hP => ?_)
    · obtain ⟨s2, e2⟩ := hP
      obtain ⟨T', x0, y, rfl, hT, rfl, e0, gx⟩ := hY
      cases e0
      change ys[i]? = some y at gx
      have h1 : Same H2 (upd H2 T' (.tup [.int (i : Nat), y])) := same_upd hT
      have e4 := h1 _ _ e2
      have hsz : ((ys.set j .non).take i).length < sizeLine := by
        rw [List.length_take, List.length_set]
        exact small1000 (by omega)
      refine ⟨T', [.int (i : Nat), y], rfl, sqT upd_same, rfl, .int (i : Nat), [y], rfl, y, [], rfl, rfl, rfl, ?_⟩
      refine ⟨_, rfl, _, rfl, rfl, _, rfl, ?_⟩
      have ei : decide (V.int (i : Int) = V.int (j : Int)) = decide (i = j) := by
        rw [Bool.eq_iff_iff, decide_eq_true_eq, decide_eq_true_eq]
        constructor
        · intro h
          have := V.int.inj h
          omega
        · intro h
          rw [h]
      rw [ei]
      refine ite2 (fun hc => ?_) (fun hc => ?_)
      · refine ⟨_, e4, hsz, Same.mut (s2.trans h1) hD, ?_⟩
        rw [upd_same, set_takeN gx, if_pos (of_decide_eq_true hc)]
      · refine ⟨_, rfl, _, e4, hsz, Same.mut (s2.trans h1) hD, ?_⟩
        rw [upd_same, set_takeN gx, if_neg (of_decide_eq_false (Bool.eq_false_iff.mpr hc))]
    · obtain ⟨s2, e2⟩ := hP
      rw [List.take_of_length_le (by rw [List.length_set]; exact Nat.le_refl _)] at e2
      exact ⟨D', _, rfl, .inl ⟨sqL e2, fun l hl => q3 hc hn l _ ((s14.trans s2).trans (same_upd hl)) (by rw [upd_same]; rfl)⟩⟩
  · rw [decide_eq_false hn]
    refine iteT ?_
    exact ⟨_, rfl, made_of R.E_Needed.o R.E_Needed.nof fun d hd => (q2 hc hn).same s14 d _ (Same.refl _) hd⟩

/-! ### _law_failed, _law_result -/
theorem ite_no {c : Bool} {A B : Prop} (hc : c = false) (h : B) : if c = true then A else B := by
  rw [hc]
  exact iteF h
theorem ite_yes {c : Bool} {A B : Prop} (hc : c = true) (h : A) : if c = true then A else B := by
  rw [hc]
  exact iteT h
theorem idx_no {ys : List V} {j : Nat} (h : (ys.take j).all (fun z => !eqV z (.bl true)) = true) : ∀ (m : Nat) (z' : V), m < j → ys[m]? = some z' → eqV z' (.bl true) = false := fun m z' hm e => by
  have e2 : (ys.take j)[m]? = some z' := by rw [List.getElem?_take_of_lt hm]; exact e
  have := List.all_eq_true.mp h z' (List.mem_of_getElem? e2)
  simpa using this
theorem isx {K : PySem.W.Frag} {H : Hp} {a D : Addr} {fs : List (Str × V)} {c : V} {cv : Value} {b : Bool} {Q : VK} (hx : Exn H a D fs) (d : IsD K D) (hcv : ∀ u, RelV c u → u = cv) (kt : PySem.W.kitOne K (.ref D) cv = some b) (q : Q (.bl b) H) : rIsX K [.ref a, c] H Q := ⟨a, D, fs, c, cv, b, rfl, hx, d, hcv, kt, q⟩
def spFailed (R : Er K mg) : Sp := fun vs H Q _ => ∃ (a D : Addr) (nm : Str) (fs : List (Str × V)) (v : V), vs = [.ref a] ∧ Exn H a D fs ∧ ErrK R D nm fs v ∧ ∀ p H', Same H H' → H' p = some (.tup [.str nm, v]) → Q (.ref p) H'
theorem ok_failed (T : Bt mg) (R : Er K mg) {f : Addr} {fd : FuncData} (D : Df K mg "_law_failed" s_law_failed ["_law_caught"] f fd) : Kn P w K mg base 2 "_law_failed" s_law_failed ["_law_caught"] (spFailed R) f fd := by
  refine ⟨D, D.F.ok sc_law_failed (fun vs H Q E h => ?_) (fun cdv A outer s H vs Q E hr h => ?_)⟩
  · obtain ⟨a, D, nm, fs, v, rfl, _⟩ := h
    rfl
  obtain ⟨a, D', nm, fs, v, rfl, hx, hK, q⟩ := h
  refine ⟨_, (pss_cons (ps_set (i := 1) sc_law_failed.nd rfl (.inl rfl) (pe_lst (pa_cons (pe_callB call_isX (by rfl) T.isinstance (by decide +kernel) (pa_cons (pv 0) (pa_cons (pe_glob (v := .ref R.C_Impossible) (by rfl) R.E_Impossible.g rfl) pa_nil))) (pa_cons (pe_callB call_isX (by rfl) T.isinstance (by decide +kernel) (pa_cons (pv 0) (pa_cons (pe_glob (v := .ref R.C_NoObject) (by rfl) R.E_NoObject.g rfl) pa_nil))) (pa_cons (pe_callB call_isX (by rfl) T.isinstance (by decide +kernel) (pa_cons (pv 0) (pa_cons (pe_glob (v := .ref R.C_NoState) (by rfl) R.E_NoState.g rfl) pa_nil))) pa_nil)))))
      (pss_cons (ps_set (i := 1) sc_law_failed.nd rfl (.inl rfl) (pe_op op_cat (pv 1) (pe_lst (pa_cons (pe_callB call_isX (by rfl) T.isinstance (by decide +kernel) (pa_cons (pv 0) (pa_cons (pe_glob (v := .ref R.C_Needed) (by rfl) R.E_Needed.g rfl) pa_nil))) (pa_cons (pe_callB call_isX (by rfl) T.isinstance (by decide +kernel) (pa_cons (pv 0) (pa_cons (pe_glob (v := .ref R.C_NoWay) (by rfl) R.E_NoWay.g rfl) pa_nil))) (pa_cons (pe_callB call_isX (by rfl) T.isinstance (by decide +kernel) (pa_cons (pv 0) (pa_cons (pe_glob (v := .ref R.C_Full) (by rfl) R.E_Full.g rfl) pa_nil))) pa_nil))))))
      (pss_cons (ps_expr (pe_bm PySem.F.plainAttrs_list PySem.F.slot_list_append PySem.F.type_list_append mt_append (pv 1) (pa_cons (pe_callB call_isX (by rfl) T.isinstance (by decide +kernel) (pa_cons (pv 0) (pa_cons (pe_glob (v := .ref R.C_TooMany) (by rfl) R.E_TooMany.g rfl) pa_nil))) pa_nil)))
      (pss_cons (ps_set (i := 2) sc_law_failed.nd rfl (.inl rfl) (pe_lst (pa_cons (pe_callB call_isX (by rfl) T.isinstance (by decide +kernel) (pa_cons (pv 0) (pa_cons (pe_bltn (v := .ty "ValueError") (by rfl) T.ValueError (by decide +kernel) rfl) pa_nil))) (pa_cons (pe_callB call_isX (by rfl) T.isinstance (by decide +kernel) (pa_cons (pv 0) (pa_cons (pe_bltn (v := .ty "LookupError") (by rfl) T.LookupError (by decide +kernel) rfl) pa_nil))) (pa_cons (pe_callB call_isX (by rfl) T.isinstance (by decide +kernel) (pa_cons (pv 0) (pa_cons (pe_bltn (v := .ty "RuntimeError") (by rfl) T.RuntimeError (by decide +kernel) rfl) pa_nil))) pa_nil)))))
      (pss_cons (ps_expr (pe_bm PySem.F.plainAttrs_list PySem.F.slot_list_append PySem.F.type_list_append mt_append (pv 2) (pa_cons (pe_callB call_isX (by rfl) T.isinstance (by decide +kernel) (pa_cons (pv 0) (pa_cons (pe_bltn (v := .ty "OverflowError") (by rfl) T.OverflowError (by decide +kernel) rfl) pa_nil))) pa_nil)))
      (pss_cons (ps_if (PW.pt (pw_or (pt_cmpR op_ne (pe_bm PySem.F.plainAttrs_list PySem.F.slot_list_count PySem.F.type_list_count mt_cntF (pv 1) (pa_cons pe_bl pa_nil)) pe_int (nomark _)) (pw_or (pt_cmpR op_ne (pe_bm PySem.F.plainAttrs_list PySem.F.slot_list_count PySem.F.type_list_count mt_cntF (pv 2) (pa_cons pe_bl pa_nil)) pe_int (nomark _)) (pw_or1 (pt_cmpR op_ne (pe_bm PySem.F.plainAttrs_list PySem.F.slot_list_index PySem.F.type_list_index mt_index (pv 2) (pa_cons pe_bl pa_nil)) (pe_ix (ix_listK (K := K) rfl) (pe_lst (pa_cons pe_int (pa_cons pe_int (pa_cons pe_int (pa_cons pe_int (pa_cons pe_int (pa_cons pe_int (pa_cons pe_int pa_nil)))))))) (pe_bm PySem.F.plainAttrs_list PySem.F.slot_list_index PySem.F.type_list_index mt_index (pv 1) (pa_cons pe_bl pa_nil)) (fun _ _ => rfl)) (nomark _)))))) (pss_one (ps_ret pe_str)) pss_nil)
      (pss_cons (ps_if (pt_val (pe_ix (ix_listK (K := K) rfl) (pv 1) pe_int (fun _ _ => rfl))) (pss_one (ps_ret (pe_tup (pa_cons pe_str (pa_cons pe_non pa_nil))))) pss_nil)
      (pss_cons (ps_if (PW.pt (pw_or (pt_val (pe_ix (ix_listK (K := K) rfl) (pv 1) pe_int (fun _ _ => rfl))) (pw_or1 (pt_val (pe_ix (ix_listK (K := K) rfl) (pv 1) pe_int (fun _ _ => rfl)))))) (pss_one (ps_ret (pe_tup (pa_cons (pe_ifExp (pt_val (pe_ix (ix_listK (K := K) rfl) (pv 1) pe_int (fun _ _ => rfl))) pe_str pe_str) (pa_cons (pe_xv (pv 0)) pa_nil))))) pss_nil)
      (pss_cons (ps_if (pt_val (pe_ix (ix_listK (K := K) rfl) (pv 1) pe_int (fun _ _ => rfl))) (pss_one (ps_ret (pe_tup (pa_cons pe_str (pa_cons (pe_xv (pv 0)) pa_nil))))) pss_nil)
      (pss_one (ps_ret (pe_tup (pa_cons (pe_ifExp (pt_val (pe_ix (ix_listK (K := K) rfl) (pv 1) pe_int (fun _ _ => rfl))) pe_str (pe_ifExp (pt_val (pe_ix (ix_listK (K := K) rfl) (pv 1) pe_int (fun _ _ => rfl))) pe_str pe_str)) (pa_cons (pe_xv (pv 0)) pa_nil)))))))))))))), ?_⟩
  rcases hK with ⟨rfl, rfl, rfl, rfl⟩ | ⟨rfl, rfl, rfl⟩ | ⟨rfl, rfl, rfl⟩ | ⟨rfl, rfl, rfl⟩ | ⟨rfl, rfl, rfl⟩ | ⟨rfl, rfl, rfl⟩ | ⟨rfl, rfl, rfl⟩
  all_goals
    refine ⟨_, rfl, a, _, _, _, _, _, rfl, hx, (by first | exact R.E_Impossible.isD | exact R.E_NoObject.isD | exact R.E_NoState.isD | exact R.E_Needed.isD | exact R.E_NoWay.isD | exact R.E_Full.isD | exact R.E_TooMany.isD), (by intro _ h; exact h), (by first | exact R.k_Impossible_Impossible | exact R.k_NoObject_Impossible | exact R.k_NoState_Impossible | exact R.k_Needed_Impossible | exact R.k_NoWay_Impossible | exact R.k_Full_Impossible | exact R.k_TooMany_Impossible), ?_⟩
    refine ⟨_, rfl, a, _, _, _, _, _, rfl, hx, (by first | exact R.E_Impossible.isD | exact R.E_NoObject.isD | exact R.E_NoState.isD | exact R.E_Needed.isD | exact R.E_NoWay.isD | exact R.E_Full.isD | exact R.E_TooMany.isD), (by intro _ h; exact h), (by first | exact R.k_Impossible_NoObject | exact R.k_NoObject_NoObject | exact R.k_NoState_NoObject | exact R.k_Needed_NoObject | exact R.k_NoWay_NoObject | exact R.k_Full_NoObject | exact R.k_TooMany_NoObject), ?_⟩
    refine ⟨_, rfl, a, _, _, _, _, _, rfl, hx, (by first | exact R.E_Impossible.isD | exact R.E_NoObject.isD | exact R.E_NoState.isD | exact R.E_Needed.isD | exact R.E_NoWay.isD | exact R.E_Full.isD | exact R.E_TooMany.isD), (by intro _ h; exact h), (by first | exact R.k_Impossible_NoState | exact R.k_NoObject_NoState | exact R.k_NoState_NoState | exact R.k_Needed_NoState | exact R.k_NoWay_NoState | exact R.k_Full_NoState | exact R.k_TooMany_NoState), ?_⟩
    refine ⟨(by show 3 ≤ sizeLine; decide), fun p1 hp1 => ?_⟩
    have s1 : ∀ o, Same H (upd H p1 o) := fun o => same_upd hp1
    refine ⟨_, rfl, ?_⟩
    refine ⟨_, rfl, a, _, _, _, _, _, rfl, hx.same (s1 _), (by first | exact R.E_Impossible.isD | exact R.E_NoObject.isD | exact R.E_NoState.isD | exact R.E_Needed.isD | exact R.E_NoWay.isD | exact R.E_Full.isD | exact R.E_TooMany.isD), (by intro _ h; exact h), (by first | exact R.k_Impossible_Needed | exact R.k_NoObject_Needed | exact R.k_NoState_Needed | exact R.k_Needed_Needed | exact R.k_NoWay_Needed | exact R.k_Full_Needed | exact R.k_TooMany_Needed), ?_⟩
    refine ⟨_, rfl, a, _, _, _, _, _, rfl, hx.same (s1 _), (by first | exact R.E_Impossible.isD | exact R.E_NoObject.isD | exact R.E_NoState.isD | exact R.E_Needed.isD | exact R.E_NoWay.isD | exact R.E_Full.isD | exact R.E_TooMany.isD), (by intro _ h; exact h), (by first | exact R.k_Impossible_NoWay | exact R.k_NoObject_NoWay | exact R.k_NoState_NoWay | exact R.k_Needed_NoWay | exact R.k_NoWay_NoWay | exact R.k_Full_NoWay | exact R.k_TooMany_NoWay), ?_⟩
    refine ⟨_, rfl, a, _, _, _, _, _, rfl, hx.same (s1 _), (by first | exact R.E_Impossible.isD | exact R.E_NoObject.isD | exact R.E_NoState.isD | exact R.E_Needed.isD | exact R.E_NoWay.isD | exact R.E_Full.isD | exact R.E_TooMany.isD), (by intro _ h; exact h), (by first | exact R.k_Impossible_Full | exact R.k_NoObject_Full | exact R.k_NoState_Full | exact R.k_Needed_Full | exact R.k_NoWay_Full | exact R.k_Full_Full | exact R.k_TooMany_Full), ?_⟩
    refine ⟨(by show 3 ≤ sizeLine; decide), fun p2 hp2 => ?_⟩
    refine ⟨p1, p2, _, _, rfl, rfl, (same_upd hp2) _ _ upd_same, upd_same, (by show 6 ≤ sizeLine; decide), fun p3 hp3 => ?_⟩
    have s3 : ∀ o, Same H (upd _ p3 o) := fun o => ((s1 _).trans (same_upd hp2)).trans (same_upd hp3)
    have n3 : H p3 = none := ((s1 _).trans (same_upd hp2)).free hp3
    refine ⟨_, rfl, .inl ⟨rfl, _, sqL upd_same⟩, ?_⟩
    refine ⟨_, rfl, a, _, _, _, _, _, rfl, hx.same (s3 _), (by first | exact R.E_Impossible.isD | exact R.E_NoObject.isD | exact R.E_NoState.isD | exact R.E_Needed.isD | exact R.E_NoWay.isD | exact R.E_Full.isD | exact R.E_TooMany.isD), (by intro _ h; exact h), (by first | exact R.k_Impossible_TooMany | exact R.k_NoObject_TooMany | exact R.k_NoState_TooMany | exact R.k_Needed_TooMany | exact R.k_NoWay_TooMany | exact R.k_Full_TooMany | exact R.k_TooMany_TooMany), ?_⟩
    refine ⟨p3, _, _, rfl, rfl, upd_same, (by show 6 < sizeLine; decide), ?_⟩
    rw [upd_upd]
    generalize e4 : upd _ p3 _ = H4
    have g4 := (congrFun e4 p3).symm.trans upd_same
    have s4 : Same H H4 := by rw [← e4]; exact s3 _
    clear e4
    refine ⟨_, rfl, a, _, _, _, _, _, rfl, hx.same s4, (by first | exact R.E_Impossible.isD | exact R.E_NoObject.isD | exact R.E_NoState.isD | exact R.E_Needed.isD | exact R.E_NoWay.isD | exact R.E_Full.isD | exact R.E_TooMany.isD), (by intro _ h; exact h), (by first | exact R.k_Impossible_ValueError | exact R.k_NoObject_ValueError | exact R.k_NoState_ValueError | exact R.k_Needed_ValueError | exact R.k_NoWay_ValueError | exact R.k_Full_ValueError | exact R.k_TooMany_ValueError), ?_⟩
    refine ⟨_, rfl, a, _, _, _, _, _, rfl, hx.same s4, (by first | exact R.E_Impossible.isD | exact R.E_NoObject.isD | exact R.E_NoState.isD | exact R.E_Needed.isD | exact R.E_NoWay.isD | exact R.E_Full.isD | exact R.E_TooMany.isD), (by intro _ h; exact h), (by first | exact R.k_Impossible_LookupError | exact R.k_NoObject_LookupError | exact R.k_NoState_LookupError | exact R.k_Needed_LookupError | exact R.k_NoWay_LookupError | exact R.k_Full_LookupError | exact R.k_TooMany_LookupError), ?_⟩
    refine ⟨_, rfl, a, _, _, _, _, _, rfl, hx.same s4, (by first | exact R.E_Impossible.isD | exact R.E_NoObject.isD | exact R.E_NoState.isD | exact R.E_Needed.isD | exact R.E_NoWay.isD | exact R.E_Full.isD | exact R.E_TooMany.isD), (by intro _ h; exact h), (by first | exact R.k_Impossible_RuntimeError | exact R.k_NoObject_RuntimeError | exact R.k_NoState_RuntimeError | exact R.k_Needed_RuntimeError | exact R.k_NoWay_RuntimeError | exact R.k_Full_RuntimeError | exact R.k_TooMany_RuntimeError), ?_⟩
    refine ⟨(by show 3 ≤ sizeLine; decide), fun p5 hp5 => ?_⟩
    have s5 : ∀ o, Same H4 (upd H4 p5 o) := fun o => same_upd hp5
    refine ⟨_, rfl, .inl ⟨rfl, _, sqL upd_same⟩, ?_⟩
    refine ⟨_, rfl, a, _, _, _, _, _, rfl, hx.same (s4.trans (s5 _)), (by first | exact R.E_Impossible.isD | exact R.E_NoObject.isD | exact R.E_NoState.isD | exact R.E_Needed.isD | exact R.E_NoWay.isD | exact R.E_Full.isD | exact R.E_TooMany.isD), (by intro _ h; exact h), (by first | exact R.k_Impossible_OverflowError | exact R.k_NoObject_OverflowError | exact R.k_NoState_OverflowError | exact R.k_Needed_OverflowError | exact R.k_NoWay_OverflowError | exact R.k_Full_OverflowError | exact R.k_TooMany_OverflowError), ?_⟩
    refine ⟨p5, _, _, rfl, rfl, upd_same, (by show 3 < sizeLine; decide), ?_⟩
    rw [upd_upd]
    generalize e6 : upd H4 p5 _ = H6
    have g6 := (congrFun e6 p5).symm.trans upd_same
    have g4' := (congrFun e6 p3).symm.trans (s5 _ _ _ g4)
    have s6 : Same H H6 := by rw [← e6]; exact s4.trans (s5 _)
    clear e6
    refine ⟨_, rfl, .inl ⟨rfl, _, sqL g4'⟩, p3, _, _, rfl, rfl, sqL g4', rfl, rfl, ?_⟩
    refine ⟨rfl, _, rfl, ite_no (by decide +kernel) ?_⟩
    refine ⟨_, rfl, .inl ⟨rfl, _, sqL g6⟩, p5, _, _, rfl, rfl, sqL g6, rfl, rfl, ?_⟩
    refine ⟨rfl, _, rfl, ite_no (by decide +kernel) ?_⟩
    first
      | refine ⟨_, rfl, .inl ⟨rfl, _, sqL g6⟩, p5, _, _, 0, _, rfl, rfl, sqL g6, rfl, rfl, rfl, rfl, idx_no (by decide +kernel), ?_⟩
      | refine ⟨_, rfl, .inl ⟨rfl, _, sqL g6⟩, p5, _, _, 1, _, rfl, rfl, sqL g6, rfl, rfl, rfl, rfl, idx_no (by decide +kernel), ?_⟩
      | refine ⟨_, rfl, .inl ⟨rfl, _, sqL g6⟩, p5, _, _, 2, _, rfl, rfl, sqL g6, rfl, rfl, rfl, rfl, idx_no (by decide +kernel), ?_⟩
      | refine ⟨_, rfl, .inl ⟨rfl, _, sqL g6⟩, p5, _, _, 3, _, rfl, rfl, sqL g6, rfl, rfl, rfl, rfl, idx_no (by decide +kernel), ?_⟩
    refine ⟨(by show 7 ≤ sizeLine; decide), fun p7 hp7 => ?_⟩
    have s7 : ∀ o, Same H6 (upd H6 p7 o) := fun o => same_upd hp7
    first
      | refine ⟨_, rfl, .inl ⟨rfl, _, sqL (s7 _ _ _ g4')⟩, p3, _, _, 0, _, rfl, rfl, sqL (s7 _ _ _ g4'), rfl, rfl, rfl, rfl, idx_no (by decide +kernel), ?_⟩
      | refine ⟨_, rfl, .inl ⟨rfl, _, sqL (s7 _ _ _ g4')⟩, p3, _, _, 1, _, rfl, rfl, sqL (s7 _ _ _ g4'), rfl, rfl, rfl, rfl, idx_no (by decide +kernel), ?_⟩
      | refine ⟨_, rfl, .inl ⟨rfl, _, sqL (s7 _ _ _ g4')⟩, p3, _, _, 2, _, rfl, rfl, sqL (s7 _ _ _ g4'), rfl, rfl, rfl, rfl, idx_no (by decide +kernel), ?_⟩
      | refine ⟨_, rfl, .inl ⟨rfl, _, sqL (s7 _ _ _ g4')⟩, p3, _, _, 3, _, rfl, rfl, sqL (s7 _ _ _ g4'), rfl, rfl, rfl, rfl, idx_no (by decide +kernel), ?_⟩
      | refine ⟨_, rfl, .inl ⟨rfl, _, sqL (s7 _ _ _ g4')⟩, p3, _, _, 4, _, rfl, rfl, sqL (s7 _ _ _ g4'), rfl, rfl, rfl, rfl, idx_no (by decide +kernel), ?_⟩
      | refine ⟨_, rfl, .inl ⟨rfl, _, sqL (s7 _ _ _ g4')⟩, p3, _, _, 5, _, rfl, rfl, sqL (s7 _ _ _ g4'), rfl, rfl, rfl, rfl, idx_no (by decide +kernel), ?_⟩
      | refine ⟨_, rfl, .inl ⟨rfl, _, sqL (s7 _ _ _ g4')⟩, p3, _, _, 6, _, rfl, rfl, sqL (s7 _ _ _ g4'), rfl, rfl, rfl, rfl, idx_no (by decide +kernel), ?_⟩
    refine ⟨p7, _, _, _, rfl, rfl, sqL upd_same, rfl, ?_⟩
    refine ⟨rfl, _, rfl, ite_no (by decide +kernel) ?_⟩
    dsimp only [tNext, tSeq]
    first
      | (refine ⟨_, rfl, p3, _, _, _, rfl, rfl, sqL (s7 _ _ _ g4'), rfl, _, rfl, ?_⟩; refine ite_yes rfl ?_; exact ⟨(by show 2 ≤ sizeLine; decide), fun p9 hp9 => q p9 _ ((s6.trans (s7 _)).trans (same_upd hp9)) upd_same⟩)
      | (refine ⟨_, rfl, p3, _, _, _, rfl, rfl, sqL (s7 _ _ _ g4'), rfl, _, rfl, ?_⟩; refine ite_no rfl ?_; refine ⟨_, rfl, p3, _, _, _, rfl, rfl, sqL (s7 _ _ _ g4'), rfl, _, rfl, ?_⟩; refine ite_yes rfl ?_; refine ite_yes rfl ?_; refine ⟨_, rfl, p3, _, _, _, rfl, rfl, sqL (s7 _ _ _ g4'), rfl, _, rfl, ?_⟩; refine ite_yes rfl ?_; (rcases hx with ⟨_, z⟩ | ⟨dd, x1, x2⟩; (cases z)); refine ⟨_, rfl, a, _, dd, _, _, rfl, s7 _ _ _ (s6 _ _ x1), s7 _ _ _ (s6 _ _ x2), (by first | exact R.E_Impossible.isD | exact R.E_NoObject.isD | exact R.E_NoState.isD | exact R.E_Needed.isD | exact R.E_NoWay.isD | exact R.E_Full.isD | exact R.E_TooMany.isD), (by first | exact R.E_Impossible.nof | exact R.E_NoObject.nof | exact R.E_NoState.nof | exact R.E_Needed.nof | exact R.E_NoWay.nof | exact R.E_Full.nof | exact R.E_TooMany.nof), rfl, ?_⟩; exact ⟨(by show 2 ≤ sizeLine; decide), fun p9 hp9 => q p9 _ ((s6.trans (s7 _)).trans (same_upd hp9)) upd_same⟩)
      | (refine ⟨_, rfl, p3, _, _, _, rfl, rfl, sqL (s7 _ _ _ g4'), rfl, _, rfl, ?_⟩; refine ite_no rfl ?_; refine ⟨_, rfl, p3, _, _, _, rfl, rfl, sqL (s7 _ _ _ g4'), rfl, _, rfl, ?_⟩; refine ite_no rfl ?_; refine ⟨_, rfl, p3, _, _, _, rfl, rfl, sqL (s7 _ _ _ g4'), rfl, _, rfl, ?_⟩; refine ite_yes rfl ?_; refine ⟨_, rfl, p3, _, _, _, rfl, rfl, sqL (s7 _ _ _ g4'), rfl, _, rfl, ?_⟩; refine ite_no rfl ?_; (rcases hx with ⟨_, z⟩ | ⟨dd, x1, x2⟩; (cases z)); refine ⟨_, rfl, a, _, dd, _, _, rfl, s7 _ _ _ (s6 _ _ x1), s7 _ _ _ (s6 _ _ x2), (by first | exact R.E_Impossible.isD | exact R.E_NoObject.isD | exact R.E_NoState.isD | exact R.E_Needed.isD | exact R.E_NoWay.isD | exact R.E_Full.isD | exact R.E_TooMany.isD), (by first | exact R.E_Impossible.nof | exact R.E_NoObject.nof | exact R.E_NoState.nof | exact R.E_Needed.nof | exact R.E_NoWay.nof | exact R.E_Full.nof | exact R.E_TooMany.nof), rfl, ?_⟩; exact ⟨(by show 2 ≤ sizeLine; decide), fun p9 hp9 => q p9 _ ((s6.trans (s7 _)).trans (same_upd hp9)) upd_same⟩)
      | (refine ⟨_, rfl, p3, _, _, _, rfl, rfl, sqL (s7 _ _ _ g4'), rfl, _, rfl, ?_⟩; refine ite_no rfl ?_; refine ⟨_, rfl, p3, _, _, _, rfl, rfl, sqL (s7 _ _ _ g4'), rfl, _, rfl, ?_⟩; refine ite_no rfl ?_; refine ⟨_, rfl, p3, _, _, _, rfl, rfl, sqL (s7 _ _ _ g4'), rfl, _, rfl, ?_⟩; refine ite_no rfl ?_; refine ⟨_, rfl, p3, _, _, _, rfl, rfl, sqL (s7 _ _ _ g4'), rfl, _, rfl, ?_⟩; refine ite_yes rfl ?_; (rcases hx with ⟨_, z⟩ | ⟨dd, x1, x2⟩; (cases z)); refine ⟨_, rfl, a, _, dd, _, _, rfl, s7 _ _ _ (s6 _ _ x1), s7 _ _ _ (s6 _ _ x2), (by first | exact R.E_Impossible.isD | exact R.E_NoObject.isD | exact R.E_NoState.isD | exact R.E_Needed.isD | exact R.E_NoWay.isD | exact R.E_Full.isD | exact R.E_TooMany.isD), (by first | exact R.E_Impossible.nof | exact R.E_NoObject.nof | exact R.E_NoState.nof | exact R.E_Needed.nof | exact R.E_NoWay.nof | exact R.E_Full.nof | exact R.E_TooMany.nof), rfl, ?_⟩; exact ⟨(by show 2 ≤ sizeLine; decide), fun p9 hp9 => q p9 _ ((s6.trans (s7 _)).trans (same_upd hp9)) upd_same⟩)
      | (refine ⟨_, rfl, p3, _, _, _, rfl, rfl, sqL (s7 _ _ _ g4'), rfl, _, rfl, ?_⟩; refine ite_no rfl ?_; refine ⟨_, rfl, p3, _, _, _, rfl, rfl, sqL (s7 _ _ _ g4'), rfl, _, rfl, ?_⟩; refine ite_no rfl ?_; refine ⟨_, rfl, p3, _, _, _, rfl, rfl, sqL (s7 _ _ _ g4'), rfl, _, rfl, ?_⟩; refine ite_no rfl ?_; refine ⟨_, rfl, p3, _, _, _, rfl, rfl, sqL (s7 _ _ _ g4'), rfl, _, rfl, ?_⟩; refine ite_no rfl ?_; refine ⟨_, rfl, p3, _, _, _, rfl, rfl, sqL (s7 _ _ _ g4'), rfl, _, rfl, ?_⟩; refine ite_yes rfl ?_; (rcases hx with ⟨_, z⟩ | ⟨dd, x1, x2⟩; (cases z)); refine ⟨_, rfl, a, _, dd, _, _, rfl, s7 _ _ _ (s6 _ _ x1), s7 _ _ _ (s6 _ _ x2), (by first | exact R.E_Impossible.isD | exact R.E_NoObject.isD | exact R.E_NoState.isD | exact R.E_Needed.isD | exact R.E_NoWay.isD | exact R.E_Full.isD | exact R.E_TooMany.isD), (by first | exact R.E_Impossible.nof | exact R.E_NoObject.nof | exact R.E_NoState.nof | exact R.E_Needed.nof | exact R.E_NoWay.nof | exact R.E_Full.nof | exact R.E_TooMany.nof), rfl, ?_⟩; exact ⟨(by show 2 ≤ sizeLine; decide), fun p9 hp9 => q p9 _ ((s6.trans (s7 _)).trans (same_upd hp9)) upd_same⟩)
      | (refine ⟨_, rfl, p3, _, _, _, rfl, rfl, sqL (s7 _ _ _ g4'), rfl, _, rfl, ?_⟩; refine ite_no rfl ?_; refine ⟨_, rfl, p3, _, _, _, rfl, rfl, sqL (s7 _ _ _ g4'), rfl, _, rfl, ?_⟩; refine ite_no rfl ?_; refine ⟨_, rfl, p3, _, _, _, rfl, rfl, sqL (s7 _ _ _ g4'), rfl, _, rfl, ?_⟩; refine ite_no rfl ?_; refine ⟨_, rfl, p3, _, _, _, rfl, rfl, sqL (s7 _ _ _ g4'), rfl, _, rfl, ?_⟩; refine ite_no rfl ?_; refine ⟨_, rfl, p3, _, _, _, rfl, rfl, sqL (s7 _ _ _ g4'), rfl, _, rfl, ?_⟩; refine ite_no rfl ?_; refine ⟨_, rfl, p3, _, _, _, rfl, rfl, sqL (s7 _ _ _ g4'), rfl, _, rfl, ?_⟩; refine ite_yes rfl ?_; (rcases hx with ⟨_, z⟩ | ⟨dd, x1, x2⟩; (cases z)); refine ⟨_, rfl, a, _, dd, _, _, rfl, s7 _ _ _ (s6 _ _ x1), s7 _ _ _ (s6 _ _ x2), (by first | exact R.E_Impossible.isD | exact R.E_NoObject.isD | exact R.E_NoState.isD | exact R.E_Needed.isD | exact R.E_NoWay.isD | exact R.E_Full.isD | exact R.E_TooMany.isD), (by first | exact R.E_Impossible.nof | exact R.E_NoObject.nof | exact R.E_NoState.nof | exact R.E_Needed.nof | exact R.E_NoWay.nof | exact R.E_Full.nof | exact R.E_TooMany.nof), rfl, ?_⟩; exact ⟨(by show 2 ≤ sizeLine; decide), fun p9 hp9 => q p9 _ ((s6.trans (s7 _)).trans (same_upd hp9)) upd_same⟩)
      | (refine ⟨_, rfl, p3, _, _, _, rfl, rfl, sqL (s7 _ _ _ g4'), rfl, _, rfl, ?_⟩; refine ite_no rfl ?_; refine ⟨_, rfl, p3, _, _, _, rfl, rfl, sqL (s7 _ _ _ g4'), rfl, _, rfl, ?_⟩; refine ite_no rfl ?_; refine ⟨_, rfl, p3, _, _, _, rfl, rfl, sqL (s7 _ _ _ g4'), rfl, _, rfl, ?_⟩; refine ite_no rfl ?_; refine ⟨_, rfl, p3, _, _, _, rfl, rfl, sqL (s7 _ _ _ g4'), rfl, _, rfl, ?_⟩; refine ite_no rfl ?_; refine ⟨_, rfl, p3, _, _, _, rfl, rfl, sqL (s7 _ _ _ g4'), rfl, _, rfl, ?_⟩; refine ite_no rfl ?_; refine ⟨_, rfl, p3, _, _, _, rfl, rfl, sqL (s7 _ _ _ g4'), rfl, _, rfl, ?_⟩; refine ite_no rfl ?_; (rcases hx with ⟨_, z⟩ | ⟨dd, x1, x2⟩; (cases z)); refine ⟨_, rfl, a, _, dd, _, _, rfl, s7 _ _ _ (s6 _ _ x1), s7 _ _ _ (s6 _ _ x2), (by first | exact R.E_Impossible.isD | exact R.E_NoObject.isD | exact R.E_NoState.isD | exact R.E_Needed.isD | exact R.E_NoWay.isD | exact R.E_Full.isD | exact R.E_TooMany.isD), (by first | exact R.E_Impossible.nof | exact R.E_NoObject.nof | exact R.E_NoState.nof | exact R.E_Needed.nof | exact R.E_NoWay.nof | exact R.E_Full.nof | exact R.E_TooMany.nof), rfl, ?_⟩; exact ⟨(by show 2 ≤ sizeLine; decide), fun p9 hp9 => q p9 _ ((s6.trans (s7 _)).trans (same_upd hp9)) upd_same⟩)
structure KnGv (P : Program) (w : World) (K : PySem.W.Frag) (mg : Str → Option Value) (base : Heap) (kg : Nat) (x : Str) (st : Stmt) (Ng : List Str) (a : Str) (TT : (XK → Hp → VK → Prop) → Hp → VK → Prop) (g : Addr) (fd : FuncData) : Prop where
  D : Df K mg x st [a] g fd
  G : ∀ (A : Around) (stack : List Env) (cdg : Value), GivesL P w K mg base A stack Ng x (defScope st) g cdg (defBody st) a kg TT
/-- an error whose name and field are told -/
def ErrOut (R : Er K mg) (Q : VK) (cls : Value) (d : Option Addr) (H : Hp) : Prop := ∃ (D : Addr) (nm : Str) (fs : List (Str × V)) (v : V), cls = .ref D ∧ ErrK R D nm fs v ∧ ((d = none ∧ fs = []) ∨ ∃ dd, d = some dd ∧ H dd = some (.xd fs)) ∧ ∀ p H', Same H H' → H' p = some (.tup [.str nm, v]) → Q (.ref p) H'
def TTres (R : Er K mg) : (XK → Hp → VK → Prop) → Hp → VK → Prop := fun tl H Q => ∀ (H0 : Hp) (E : XK) (Q' : VK), Same H H0 → (∀ cls d H', ErrOut R Q cls d H' → E cls d H') → (∀ v H', Q v H' → Q' v H') → tl E H0 Q'
theorem ok_result (T : Bt mg) (R : Er K mg) {f f1 : Addr} {fd fd1 : FuncData} {kg : Nat} (hkg : 2 ≤ kg) (D : Df K mg "_law_result" s_law_result ["_law_work"] f fd) (k_law_failed : Kn P w K mg base 2 "_law_failed" s_law_failed ["_law_caught"] (spFailed R) f1 fd1) :
    KnGv P w K mg base kg "_law_result" s_law_result ["_law_work", "_law_found", "_law_caught", "error"] "_law_work" (TTres R) f fd := by
  refine ⟨D, fun A stack cdg fl F b s H Q tl hr act isL isC h => ?_⟩
  refine ⟨_, (pss_cons (ps_asg (pe_tup (pa_cons pe_non (pa_cons pe_non pa_nil))) (pg_tup (by rfl) (pgs_cons (pg_name (i := 1) sc_law_result.nd rfl (.inl rfl)) (pgs_cons (pg_name (i := 2) sc_law_result.nd rfl (.inl rfl)) pgs_nil))))
      (pss_cons (ps_keep (i := 3) rfl rfl sc_law_result.nd rfl (by rfl) rfl (fun W pn xe tk _ => (pss_one (ps_set (i := 1) sc_law_result.nd rfl (.inl rfl) (act W pn xe _ _ tk)))) (fun a oe cls d pn _ _ => (pe_tup (pa_cons (pe_glob (v := .ref R.C_Full) (by rfl) R.E_Full.g rfl) (pa_cons (pe_glob (v := .ref R.C_Impossible) (by rfl) R.E_Impossible.g rfl) (pa_cons (pe_glob (v := .ref R.C_Needed) (by rfl) R.E_Needed.g rfl) (pa_cons (pe_glob (v := .ref R.C_NoObject) (by rfl) R.E_NoObject.g rfl) (pa_cons (pe_glob (v := .ref R.C_NoState) (by rfl) R.E_NoState.g rfl) (pa_cons (pe_glob (v := .ref R.C_NoWay) (by rfl) R.E_NoWay.g rfl) (pa_cons (pe_glob (v := .ref R.C_TooMany) (by rfl) R.E_TooMany.g rfl) pa_nil))))))))) (fun a oe cls d pn _ _ => (pss_one (ps_set (i := 2) sc_law_result.nd rfl (.inl rfl) (pv 3)))))
      (pss_one (ps_ret (pe_ifExp (pt_cmpR op_isN (pv 2) pe_non (nomark _)) (pv 1) (pe_call k_law_failed.G (hr.mono (by omega)) (by rfl) k_law_failed.D.g k_law_failed.D.F.kp k_law_failed.D.b .nil pass0 (pa_cons (pv 2) pa_nil))))))), ?_⟩
  refine ⟨(by show 2 ≤ sizeLine; decide), fun p1 hp1 => ?_⟩
  have s1 := same_upd (o := .tup [.non, .non]) hp1
  refine ⟨p1, [.non, .non], rfl, sqT upd_same, rfl, .non, [.non], rfl, .non, [], rfl, rfl, ?_⟩
  refine ⟨rfl, s1 _ _ isL, s1 _ _ isC, h _ _ _ s1 (fun cls d H' hE a na => ?_) (fun v H' hv => ?_)⟩
  · obtain ⟨D', nm, fs, v, rfl, hK, hd, q⟩ := hE
    refine ⟨(by show 7 ≤ sizeLine; decide), fun p2 hp2 => ⟨.inr ⟨p2, [R.C_Full, R.C_Impossible, R.C_Needed, R.C_NoObject, R.C_NoState, R.C_NoWay, R.C_TooMany], rfl, upd_same, ?_⟩, ?_⟩⟩
    · rcases hK with ⟨rfl, rfl, rfl, rfl⟩ | ⟨rfl, rfl, rfl⟩ | ⟨rfl, rfl, rfl⟩ | ⟨rfl, rfl, rfl⟩ | ⟨rfl, rfl, rfl⟩ | ⟨rfl, rfl, rfl⟩ | ⟨rfl, rfl, rfl⟩
      all_goals exact (by first | exact R.x0_Impossible | exact R.x0_NoObject | exact R.x0_NoState | exact R.x0_Needed | exact R.x0_NoWay | exact R.x0_Full | exact R.x0_TooMany)
    · have s2 := same_upd (o := .tup [.ref R.C_Full, .ref R.C_Impossible, .ref R.C_Needed, .ref R.C_NoObject, .ref R.C_NoState, .ref R.C_NoWay, .ref R.C_TooMany]) hp2
      refine ⟨_, rfl, fun na2 => ?_⟩
      have s3 := same_upd (o := ExV (.ref D') d a) na2
      refine ⟨_, rfl, rfl, _, rfl, ite_no (decide_eq_false (fun h => nomatch h)) ?_⟩
      refine ⟨_, rfl, a, D', nm, fs, v, rfl, ?_, hK, fun p H3 s4 h4 => q p H3 ((s2.trans s3).trans s4) h4⟩
      rcases hd with ⟨rfl, e⟩ | ⟨dd, rfl, e⟩
      · exact .inl ⟨upd_same, e⟩
      · exact .inr ⟨dd, upd_same, (s2.trans s3) _ _ e⟩
  · refine ⟨_, rfl, rfl, _, rfl, iteT ?_⟩
    exact ⟨_, rfl, hv⟩

/-! ### Store -/
theorem pe_bm0K {X : Cx} {K : PySem.W.Frag} (e0 : X.K = K) {o : Expr} {to : TE} {name : Str} {apos cpos : Pos} {T id : String} {r : V → List V → Hp → VK → Prop} (pa : PlainAttrs T) (slot : Slot T name id) (hty : typeOf (.builtin id) = pure (.type "method_descriptor")) (hm : MtR X id r) (ho : PE X o to)
    (hbase : attributeBase o name X.env (eval o X.env) = eval o X.env := by rfl) (hline : (apos.endLine == cpos.line) = true := by rfl) : PE X (.Call (.Attribute o name apos) [] [] cpos) (tBM0 K T r to) := by
  subst e0
  exact pe_bm0 pa slot hty hm ho hbase hline
theorem rep_flat (n : Nat) : (List.replicate n [V.non]).flatten = List.replicate n V.non := by
  induction n with
  | zero => rfl
  | succ n ih => rw [List.replicate_succ, List.replicate_succ, List.flatten_cons, ih]; rfl
def spSTable (K : PySem.W.Frag) (C : Addr) : Sp := fun vs H Q _ => ∃ (p ls le : Addr) (sts : List SSt) (evs : List (Str × Str)) (s : SSt), vs = [.ref p] ∧ SAt K C H p ls le sts evs ∧ sts.getLast? = some s ∧ ∀ t, SqT K H t s.1 → Q (.ref t) H
def spSOrder (K : PySem.W.Frag) (C : Addr) : Sp := fun vs H Q _ => ∃ (p ls le : Addr) (sts : List SSt) (evs : List (Str × Str)) (s : SSt), vs = [.ref p] ∧ SAt K C H p ls le sts evs ∧ sts.getLast? = some s ∧ ∀ t, SqT K H t (s.2.map V.int) → Q (.ref t) H
def spSOps (K : PySem.W.Frag) (C : Addr) : Sp := fun vs H Q _ => ∃ (p ls le : Addr) (sts : List SSt) (evs : List (Str × Str)), vs = [.ref p] ∧ SAt K C H p ls le sts evs ∧ Q (.int ((sts.length : Int) - 1)) H
theorem ok_Store_table (T : Bt mg) (S : St K mg) : KnM P w K mg base 1 S.C_Store "table" "Store.table" s_Store_table ["self"] (spSTable K S.C_Store) S.f_Store_table S.fd_Store_table := by
  refine ⟨S.D_Store_table, S.D_Store_table.F.ok sc_Store_table (fun vs H Q E h => ?_) (fun cdv A outer s H vs Q E hr h => ?_)⟩
  · obtain ⟨p, ls, le, sts, evs, s, rfl, _⟩ := h
    rfl
  obtain ⟨p, ls, le, sts, evs, s, rfl, ⟨dx, svs, es, hS⟩, hl, q⟩ := h
  refine ⟨_, (pss_one (ps_ret (pe_ix (ix_tupK (K := K) rfl) (pe_ix (ix_listK (K := K) rfl) (pe_fld (pv 0) rfl) (pe_un un_neg pe_int) (fun _ _ => rfl)) pe_int (fun _ _ => rfl)))), ?_⟩
  obtain ⟨v, gv, t, p1, q1, rfl, h1, h2, h3⟩ := hS.ss.last hl
  refine ⟨_, rfl, p, _, dx, _, _, rfl, hS.ins, S.cl_Store, S.n_Store_states, rfl, ?_⟩
  refine ⟨_, rfl, ls, svs, -1, _, rfl, rfl, sqL hS.gs, atI_lastQ gv, ?_⟩
  exact ⟨t, _, 0, _, rfl, rfl, h1, rfl, q p1 h2⟩
theorem ok_Store_order (T : Bt mg) (S : St K mg) : KnM P w K mg base 1 S.C_Store "order" "Store.order" s_Store_order ["self"] (spSOrder K S.C_Store) S.f_Store_order S.fd_Store_order := by
  refine ⟨S.D_Store_order, S.D_Store_order.F.ok sc_Store_order (fun vs H Q E h => ?_) (fun cdv A outer s H vs Q E hr h => ?_)⟩
  · obtain ⟨p, ls, le, sts, evs, s, rfl, _⟩ := h
    rfl
  obtain ⟨p, ls, le, sts, evs, s, rfl, ⟨dx, svs, es, hS⟩, hl, q⟩ := h
  refine ⟨_, (pss_one (ps_ret (pe_ix (ix_tupK (K := K) rfl) (pe_ix (ix_listK (K := K) rfl) (pe_fld (pv 0) rfl) (pe_un un_neg pe_int) (fun _ _ => rfl)) pe_int (fun _ _ => rfl)))), ?_⟩
  obtain ⟨v, gv, t, p1, q1, rfl, h1, h2, h3⟩ := hS.ss.last hl
  refine ⟨_, rfl, p, _, dx, _, _, rfl, hS.ins, S.cl_Store, S.n_Store_states, rfl, ?_⟩
  refine ⟨_, rfl, ls, svs, -1, _, rfl, rfl, sqL hS.gs, atI_lastQ gv, ?_⟩
  exact ⟨t, _, 1, _, rfl, rfl, h1, rfl, q q1 h3⟩
theorem ok_Store_operations (T : Bt mg) (S : St K mg) : KnM P w K mg base 1 S.C_Store "operations" "Store.operations" s_Store_operations ["self"] (spSOps K S.C_Store) S.f_Store_operations S.fd_Store_operations := by
  refine ⟨S.D_Store_operations, S.D_Store_operations.F.ok sc_Store_operations (fun vs H Q E h => ?_) (fun cdv A outer s H vs Q E hr h => ?_)⟩
  · obtain ⟨p, ls, le, sts, evs, rfl, _⟩ := h
    rfl
  obtain ⟨p, ls, le, sts, evs, rfl, ⟨dx, svs, es, hS⟩, q⟩ := h
  refine ⟨_, (pss_one (ps_ret (pe_op op_sub (pe_callB (call_lenK (K := K) rfl) (by rfl) T.len (by decide +kernel) (pa_cons (pe_fld (pv 0) rfl) pa_nil)) pe_int))), ?_⟩
  refine ⟨_, rfl, p, _, dx, _, _, rfl, hS.ins, S.cl_Store, S.n_Store_states, rfl, ?_⟩
  rw [← hS.ss.len] at q
  exact ⟨ls, svs, rfl, .inl (sqL hS.gs), _, _, rfl, rfl, q⟩
def spSInit (K : PySem.W.Frag) (C : Addr) : Sp := fun vs H Q _ => ∃ (x dx : Addr) (n : Nat), vs = [.ref x, .int (n : Int)] ∧ H x = some (.ins C dx []) ∧ n ≤ 1000 ∧
  ∀ ls le H', (∀ b o, b ≠ x → H b = some o → H' b = some o) → H ls = none → H le = none → SAt K C H' x ls le [(List.replicate n .non, [])] [] → Q .non H'
theorem ok_Store_init (T : Bt mg) (S : St K mg) : KnM P w K mg base 1 S.C_Store "__init__" "Store.__init__" s_Store___init__ ["self", "size"] (spSInit K S.C_Store) S.f_Store___init__ S.fd_Store___init__ := by
  refine ⟨S.D_Store___init__, S.D_Store___init__.F.ok sc_Store___init__ (fun vs H Q E h => ?_) (fun cdv A outer s H vs Q E hr h => ?_)⟩
  · obtain ⟨x, dx, n, rfl, _⟩ := h
    rfl
  obtain ⟨x, dx, n, rfl, hx, hn, q⟩ := h
  refine ⟨_, (pss_cons (ps_fld (pv 0) (pe_lst (pa_cons (pe_tup (pa_cons (pe_op op_repN (pe_tup (pa_cons pe_non pa_nil)) (pv 1)) (pa_cons (pe_tup pa_nil) pa_nil))) pa_nil)) rfl)
      (pss_one (ps_fld (pv 0) (pe_lst pa_nil) rfl))), ?_⟩
  refine ⟨(by show 1 ≤ sizeLine; decide), fun p1 hp1 => ?_⟩
  have s1 := same_upd (o := .tup [.non]) hp1
  refine ⟨_, rfl, p1, n, [.non], rfl, rfl, sqT upd_same, by simp, hn, by decide, fun p2 H2 s2 g2 => ?_⟩
  refine ⟨(by show 0 ≤ sizeLine; decide), fun p3 hp3 => ?_⟩
  have s3 := same_upd (o := .tup []) hp3
  refine ⟨(by show 2 ≤ sizeLine; decide), fun p4 hp4 => ?_⟩
  have s4 := same_upd (o := .tup [.ref p2, .ref p3]) hp4
  refine ⟨(by show 1 ≤ sizeLine; decide), fun p5 hp5 => ?_⟩
  have s5 := same_upd (o := .lst [.ref p4]) hp5
  have n5 : H p5 = none := (((s1.trans s2).trans s3).trans s4).free hp5
  have s05 := (((s1.trans s2).trans s3).trans s4).trans s5
  have g2' := ExtN.tup (ext_same ((s3.trans s4).trans s5)) g2
  rw [rep_flat] at g2'
  have g3 := (s4.trans s5) p3 _ upd_same
  have g4 := s5 p4 _ upd_same
  have g5 : (upd (upd (upd H2 p3 (HO.tup [])) p4 (HO.tup [V.ref p2, V.ref p3])) p5 (HO.lst [V.ref p4])) p5 = some (.lst [V.ref p4]) := upd_same
  generalize upd (upd (upd H2 p3 (HO.tup [])) p4 (HO.tup [V.ref p2, V.ref p3])) p5 (HO.lst [V.ref p4]) = H5 at s05 g2' g3 g4 g5
  have gx := s05 _ _ hx
  refine ⟨_, rfl, x, S.C_Store, dx, [], rfl, gx, S.cl_Store, S.n_Store_states, by decide, ?_⟩
  refine ⟨(by show 0 ≤ sizeLine; decide), fun p6 hp6 => ⟨_, rfl, x, S.C_Store, dx, [("states", .ref p5)], rfl, ?_, S.cl_Store, S.n_Store_events, (by show 1 < 1000; decide), ?_⟩⟩
  · exact (same_upd hp6) x _ upd_same
  have n6x : p6 ≠ x := fun z => by rw [z, upd_same] at hp6; cases hp6
  refine q p5 p6 _ (fun b o nb hb => ?_) n5 ?_ (sat_new gx g5 (.cons ⟨p4, p2, p3, rfl, sqT g4, g2', sqT g3⟩ .nil) hp6)
  · have h5 := s05 _ _ hb
    rw [upd_ne nb, upd_ne (fun z => by rw [z, ← upd_ne (H := H5) (o := .ins S.C_Store dx (putF "states" (.ref p5) [])) n6x] at h5; exact nomatch (hp6.symm.trans h5)), upd_ne nb]
    exact h5
  · refine s05.free ?_
    rw [← upd_ne (H := H5) (o := .ins S.C_Store dx (putF "states" (.ref p5) [])) n6x]
    exact hp6

/-! ### Store: put in -/
theorem catA_to {H : Hp} {a b : Addr} {xs ys : List V} {Q : VK} (ha : SqT K H a xs) (hb : SqT K H b ys) (hz : xs.length + ys.length ≤ sizeLine) (q : ∀ t H', Same H H' → SqT K H' t (xs ++ ys) → Q (.ref t) H') : rCatA K (.ref a) (.ref b) H Q := by
  refine ⟨a, b, xs, ys, rfl, rfl, ha, hb, hz, fun e => ?_, fun _ e => ?_, fun _ _ p hp => q p _ (same_upd hp) (sqT upd_same)⟩
  · subst e
    exact q b H (Same.refl _) hb
  · subst e
    refine q a H (Same.refl _) ?_
    rw [List.append_nil]
    exact ha
/-- an event is noted -/
theorem evt_to (S : St K mg) {Ps : List Addr} {σ : L2.St} {H : Hp} {p ls le : Addr} {sts : List SSt} {evs : List (Str × Str)} {a b : Str} {Q : VK} (h0 : σ[0]? = some (some (.ref p))) (hS : SAt K S.C_Store H p ls le sts evs) (hT : TabsOk Ps nmL H) (he : evs.length ≤ 950)
    (q : ∀ H', StayS ls le H H' → TabsOk Ps nmL H' → SAt K S.C_Store H' p ls le sts (evs ++ [(a, b)]) → Q .non H') : tBM K "list" rAppend (tFld K (tVar 0) "events") (tCons (tTup (tCons (tC (.str a)) (tCons (tC (.str b)) tNil))) tNil) σ H Q := by
  obtain ⟨dx, svs, es, hX⟩ := hS
  refine ⟨_, h0, p, S.C_Store, dx, _, _, rfl, hX.ins, S.cl_Store, S.n_Store_events, rfl, .inl ⟨rfl, _, sqL hX.ge⟩, ?_⟩
  refine ⟨(by show 2 ≤ sizeLine; decide), fun p4 hp4 => ?_⟩
  have s4 := same_upd (o := .tup [.str a, .str b]) hp4
  have hX4 := hX.ext (ext_same s4)
  refine ⟨le, es, .ref p4, rfl, rfl, hX4.ge, small1000 (by rw [hX.ee.len]; omega), ?_⟩
  exact q _ ((StayS.of (ext_same s4)).trans (.atE _)) (tabs_upd (hT.ext s4) hX4.ge) ⟨dx, svs, _, hX4.pushE ⟨p4, rfl, sqT upd_same⟩⟩
theorem putV_one1 {ys zs : List V} {h : Int} {qs : List Int} (pv : PutV ys [h] zs qs) : ∃ c : Nat, qs = [(c : Int)] ∧ zs = ys.set c (.int h) ∧ NSpot ys h c := by
  generalize e : [h] = l at pv
  cases pv with
  | nil => cases e
  | @snoc hs zs0 qs0 h' c pv sp =>
    have e2 : ([] : List Int) ++ [h] = hs ++ [h'] := e
    obtain ⟨rfl, e3⟩ := List.append_inj' e2 rfl
    cases e3
    generalize e4 : ([] : List Int) = l2 at pv
    cases pv with
    | nil => exact ⟨c, rfl, rfl, sp⟩
    | snoc => simp at e4
def evP (m : Str) : List (Str × Str) := [("begin", m), ("end", m)]
def spSPutIn (K : PySem.W.Frag) (Ps : List Addr) (C CF : Addr) : Sp := fun vs H Q E => ∃ (p ls le b : Addr) (sts : List SSt) (evs : List (Str × Str)) (ys : List V) (q hs : List Int), vs = [.ref p, .ref b] ∧ SAt K C H p ls le sts evs ∧ sts.getLast? = some (ys, q) ∧ sts.length ≤ 900 ∧ ys.length ≤ 100 ∧ q.length ≤ 100 ∧ Sq K H b (hs.map V.int) ∧ TrkN H b ∧ TabsOk Ps nmL H ∧
  (freN ys < hs.length → ErrT E Ps CF "many" (.int (ys.length : Int)) H) ∧
  ∀ c zs qs H', StayS ls le H H' → TabsOk Ps nmL H' → SAt K C H' p ls le (sts ++ [(zs, q ++ qs)]) evs → H c = none → H' c = some (.lst (qs.map V.int)) → PutV ys hs zs qs → Q (.ref c) H'
theorem ok_Store_put_in (T : Bt mg) (R : Er K mg) (S : St K mg) {Ps : List Addr} {g2 : Addr} {gd2 : FuncData} (k_Store_table : KnM P w K mg base 1 S.C_Store "table" "Store.table" s_Store_table ["self"] (spSTable K S.C_Store) S.f_Store_table S.fd_Store_table) (k_Store_order : KnM P w K mg base 1 S.C_Store "order" "Store.order" s_Store_order ["self"] (spSOrder K S.C_Store) S.f_Store_order S.fd_Store_order) (k_put_into : KnX P w K mg base 5 "put_into" s_put_into ["table", "wishes"] (spPut K Ps R.C_Full) g2 gd2) : KnMX P w K mg base 6 S.C_Store "put_in" "Store.put_in" s_Store_put_in ["self", "wishes"] (spSPutIn K Ps S.C_Store R.C_Full) S.f_Store_put_in S.fd_Store_put_in := by
  refine ⟨S.D_Store_put_in, S.D_Store_put_in.F.okX sc_Store_put_in (fun vs H Q E h => ?_) (fun cdv A outer s H vs Q E hr h => ?_)⟩
  · obtain ⟨p, ls, le, b, sts, evs, ys, q0, hs, rfl, _⟩ := h
    rfl
  obtain ⟨p, ls, le, b, sts, evs, ys, q0, hs, rfl, hS, hl, hz, hy, hq, hB, nB, hT, hE, q⟩ := h
  refine ⟨_, (pss_cons (ps_asg (pe_call k_put_into.G (hr.mono (by omega)) (by rfl) k_put_into.D.g k_put_into.D.F.kp k_put_into.D.b .nil (passes_call takesE (fun _ _ _ _ h => h)) (pa_cons (pe_meth0 (pv 0) S.cl_Store k_Store_table.D.m k_Store_table.G (hr.mono (by omega)) k_Store_table.D.b .nil pass0) (pa_cons (pv 1) pa_nil))) (pg_tup (by rfl) (pgs_cons (pg_name (i := 2) sc_Store_put_in.nd rfl (.inl rfl)) (pgs_cons (pg_name (i := 3) sc_Store_put_in.nd rfl (.inl rfl)) pgs_nil))))
      (pss_cons (ps_expr (pe_bm PySem.F.plainAttrs_list PySem.F.slot_list_append PySem.F.type_list_append mt_append (pe_fld (pv 0) rfl) (pa_cons (pe_tup (pa_cons (pv 2) (pa_cons (pe_op op_catA (pe_meth0 (pv 0) S.cl_Store k_Store_order.D.m k_Store_order.G (hr.mono (by omega)) k_Store_order.D.b .nil pass0) (pe_callTy (call_tupleK (K := K) rfl) (by rfl) T.tuple (by decide +kernel) (pa_cons (pv 3) pa_nil))) pa_nil))) pa_nil)))
      (pss_one (ps_ret (pv 3))))), ?_⟩
  obtain ⟨dx, svs, es, hX⟩ := hS
  refine ⟨_, rfl, p, dx, _, rfl, hX.ins, rfl, p, ls, le, sts, evs, _, rfl, ⟨dx, svs, es, hX⟩, hl, fun t ht => ?_⟩
  refine ⟨_, rfl, t, b, ys, hs, rfl, .inr ht, hB, nB, hy, hE, hT, fun t1 p1 c zs qs H1 x1 T1 nc g1 gp gc pv => ?_⟩
  have pf := pv.free
  refine ⟨t1, _, rfl, sqT g1, rfl, _, _, rfl, _, _, rfl, rfl, ?_⟩
  have hX1 := hX.ext x1
  have hl1 : (sts.length : Nat) = svs.length := hX.ss.len.symm
  dsimp only [tSeq]
  refine ⟨_, rfl, p, S.C_Store, dx, _, _, rfl, hX1.ins, S.cl_Store, S.n_Store_states, rfl, .inl ⟨rfl, _, sqL hX1.gs⟩, ?_⟩
  refine ⟨_, rfl, _, rfl, p, dx, _, rfl, hX1.ins, rfl, p, ls, le, sts, evs, _, rfl, ⟨dx, svs, es, hX1⟩, hl, fun t2 h2 => ?_⟩
  refine ⟨_, rfl, c, _, rfl, .inl ⟨sqL gc, fun l hnl => ?_⟩⟩
  have s2 := same_upd (o := .tup (qs.map V.int)) hnl
  refine catA_to (ExtN.tup (ext_same s2) h2) (sqT upd_same) ?_ fun t3 H3 s3 h3 => ?_
  · have fle : freN ys ≤ ys.length := List.length_filter_le _ _
    rw [List.length_map, List.length_map]
    refine Nat.le_of_lt (line_ok ?_)
    show q0.length + qs.length ≤ _
    omega
  refine ⟨(by show 2 ≤ sizeLine; decide), fun p4 hp4 => ?_⟩
  have s4 := same_upd (o := .tup [.ref p1, .ref t3]) hp4
  have s14 := (s2.trans s3).trans s4
  have hX4 := hX1.ext (ext_same s14)
  have T4 := T1.ext s14
  have g4 : (upd H3 p4 (.tup [.ref p1, .ref t3])) p4 = some (.tup [.ref p1, .ref t3]) := upd_same
  have h4 := ExtN.tup (ext_same s4) h3
  have gp4 := s14 _ _ gp
  have gc4 := s14 _ _ gc
  have x4 := LamX.ExtN.trans x1 (ext_same s14)
  generalize upd H3 p4 (.tup [.ref p1, .ref t3]) = H4 at s4 s14 hX4 T4 g4 h4 gp4 gc4 x4
  refine ⟨ls, svs, .ref p4, rfl, rfl, hX4.gs, small1000 (by omega), ?_⟩
  have hP := hX4.pushS (v := .ref p4) (s := (zs, q0 ++ qs)) ⟨p4, p1, t3, rfl, sqT g4, sqT gp4, by rw [List.map_append]; exact h4⟩
  refine ⟨_, rfl, q c zs qs _ ((StayS.of x4).trans (.atS _)) (tabs_upd T4 hX4.gs) ⟨dx, _, es, hP⟩ nc ?_ pv⟩
  rw [upd_ne (fun z => by rw [z, hX.gs] at nc; cases nc)]
  exact gc4
def spSPut (K : PySem.W.Frag) (Ps : List Addr) (C CF : Addr) : Sp := fun vs H Q E => ∃ (p ls le : Addr) (sts : List SSt) (evs : List (Str × Str)) (ys : List V) (q : List Int) (h : Int), vs = [.ref p, .int h] ∧ SAt K C H p ls le sts evs ∧ sts.getLast? = some (ys, q) ∧ sts.length ≤ 900 ∧ evs.length ≤ 900 ∧ ys.length ≤ 100 ∧ q.length ≤ 100 ∧ TabsOk Ps nmL H ∧
  (freN ys = 0 → ∀ d H', StayS ls le H H' → TabsOk Ps nmL H' → SAt K C H' p ls le sts (evs ++ evP "put") → H' d = some (.xd [("many", .int (ys.length : Int))]) → E (.ref CF) (some d) H') ∧
  ∀ (c : Nat) H', StayS ls le H H' → TabsOk Ps nmL H' → SAt K C H' p ls le (sts ++ [(ys.set c (.int h), q ++ [(c : Int)])]) (evs ++ evP "put") → NSpot ys h c → Q (.int (c : Int)) H'
theorem ok_Store_put (T : Bt mg) (R : Er K mg) (S : St K mg) {Ps : List Addr} (k_Store_put_in : KnMX P w K mg base 6 S.C_Store "put_in" "Store.put_in" s_Store_put_in ["self", "wishes"] (spSPutIn K Ps S.C_Store R.C_Full) S.f_Store_put_in S.fd_Store_put_in) : KnMX P w K mg base 7 S.C_Store "put" "Store.put" s_Store_put ["self", "wish"] (spSPut K Ps S.C_Store R.C_Full) S.f_Store_put S.fd_Store_put := by
  refine ⟨S.D_Store_put, S.D_Store_put.F.okX sc_Store_put (fun vs H Q E h => ?_) (fun cdv A outer s H vs Q E hr h => ?_)⟩
  · obtain ⟨p, ls, le, sts, evs, ys, q0, h, rfl, _⟩ := h
    rfl
  obtain ⟨p, ls, le, sts, evs, ys, q0, h, rfl, hS, hl, hz, he, hy, hq, hT, hE, q⟩ := h
  refine ⟨_, (pss_cons (ps_expr (pe_bm PySem.F.plainAttrs_list PySem.F.slot_list_append PySem.F.type_list_append mt_append (pe_fld (pv 0) rfl) (pa_cons (pe_tup (pa_cons pe_str (pa_cons pe_str pa_nil))) pa_nil)))
      (pss_one (ps_finR rfl rfl rfl takesE (fun W pn xe tk _ => (pr_ret (pe_ix (ix_listK (K := K) rfl) (pe_methW (pv 0) S.cl_Store k_Store_put_in.D.m k_Store_put_in.G (hr.mono (by omega)) k_Store_put_in.D.b tk (pa_cons (pe_lst (pa_cons (pv 1) pa_nil)) pa_nil)) pe_int (fun _ _ => rfl)))) (pss_one (ps_expr (pe_bmK (K := K) rfl PySem.F.plainAttrs_list PySem.F.slot_list_append PySem.F.type_list_append mt_append (pe_fldK (K := K) rfl (pv 0) rfl) (pa_cons (pe_tup (pa_cons pe_str (pa_cons pe_str pa_nil))) pa_nil)))) (fun a pn => (pss_one (ps_expr (pe_bmK (K := K) rfl PySem.F.plainAttrs_list PySem.F.slot_list_append PySem.F.type_list_append mt_append (pe_fldK (K := K) rfl (pv 0) rfl) (pa_cons (pe_tup (pa_cons pe_str (pa_cons pe_str pa_nil))) pa_nil)))))))), ?_⟩
  refine evt_to S (Ps := Ps) rfl hS hT (by omega) fun H1 z1 T1 S1 => ?_
  obtain ⟨dx, svs, es, hX1⟩ := id S1
  refine ⟨_, rfl, p, dx, _, rfl, hX1.ins, rfl, _, rfl, (by show 1 ≤ sizeLine; decide), fun b nb => ?_⟩
  have s2 := same_upd (o := .lst [.int h]) nb
  have x2 := ext_same s2
  refine ⟨p, ls, le, b, sts, _, ys, q0, [h], rfl, S1.ext x2, hl, hz, hy, hq, sq_lst upd_same, trk_l upd_same, T1.ext s2, fun hf d H2 x3 T3 nd => ?_, fun c zs qs H3 z3 T3 S3 nc gc pv => ?_⟩
  · have hf0 : freN ys = 0 := by
      have : freN ys < 1 := hf
      omega
    have x4 := LamX.ExtN.trans (LamX.ExtN.trans x2 x3) (ext_same (same_upd (o := .xd [("many", .int (ys.length : Int))]) nd))
    refine evt_to S (Ps := Ps) rfl (S1.ext x4) (T3.ext (same_upd nd)) (by simp; omega) fun H5 z5 T5 S5 => ?_
    have nn := (S1.ext (LamX.ExtN.trans x2 x3)).nls nd
    refine hE hf0 d H5 ((z1.trans (.of x4)).trans z5) T5 ?_ (z5 _ _ nn.1 nn.2 upd_same fun ps z => nomatch z)
    rw [List.append_assoc] at S5
    exact S5
  · obtain ⟨c0, rfl, rfl, sp⟩ := putV_one1 pv
    refine ⟨c, _, 0, _, rfl, rfl, sqL gc, rfl, ?_⟩
    refine evt_to S (Ps := Ps) rfl S3 T3 (by simp; omega) fun H5 z5 T5 S5 => ?_
    refine q c0 H5 (((z1.trans (.of x2)).trans z3).trans z5) T5 ?_ sp
    rw [List.append_assoc] at S5
    exact S5

/-! ### Store: put_all, take_out, forget, undo -/
/-- nothing but a table was there -/
def NewT (H : Hp) (c : Addr) : Prop := ∀ o, H c = some o → ∃ ps, o = .tbl ps
theorem NewT.ne {H : Hp} {b c : Addr} {o : HO} (n : NewT H c) (h : H b = some o) (t : ∀ ps, o ≠ .tbl ps) : c ≠ b := fun z => by
  rw [← z] at h
  obtain ⟨ps, e⟩ := n o h
  exact t ps e
theorem NewT.of {H : Hp} {c : Addr} (n : H c = none) : NewT H c := fun o h => by rw [n] at h; cases h
theorem NewT.back {H H1 : Hp} {c ls le : Addr} (n : H1 c = none) (z : StayS ls le H H1) (n1 : c ≠ ls) (n2 : c ≠ le) : NewT H c := fun o h => by
  false_or_by_contra
  rename_i hh
  have := z c o n1 n2 h fun ps e => hh ⟨ps, e⟩
  rw [n] at this
  cases this
/-- what is wanted of an error of a store's method -/
def ErrS (E : XK) (K : PySem.W.Frag) (Ps : List Addr) (C p ls le : Addr) (sts : List SSt) (evs : List (Str × Str)) (D : Addr) (f : Str) (v : V) (H : Hp) : Prop := ∀ (d : Addr) (H' : Hp), StayS ls le H H' → TabsOk Ps nmL H' → SAt K C H' p ls le sts evs → H' d = some (.xd [(f, v)]) → E (.ref D) (some d) H'
abbrev tEnd (K : PySem.W.Frag) (m : Str) : TS := tDrop (tBM K "list" rAppend (tFld K (tVar 0) "events") (tCons (tTup (tCons (tC (.str "end")) (tCons (tC (.str m)) tNil))) tNil))
/-- the error meets the finally -/
theorem fin_errd (S : St K mg) {Ps : List Addr} {σ : L2.St} {H H1 : Hp} {p ls le D : Addr} {sts : List SSt} {evs : List (Str × Str)} {m f : Str} {v : V} {E : XK} (h0 : σ[0]? = some (some (.ref p))) (S1 : SAt K S.C_Store H1 p ls le sts evs) (T1 : TabsOk Ps nmL H1) (he : evs.length ≤ 950) (z1 : StayS ls le H H1)
    (hE : ErrS E K Ps S.C_Store p ls le sts (evs ++ [(("end" : Str), m)]) D f v H) : Errd (fun cls d H' => wFin (tEnd K m) (fun cls d _ H' => E cls d H') cls d σ H') D f v H1 := fun d H2 s2 nd => by
  have x4 : LamX.ExtN H1 (upd H2 d (.xd [(f, v)])) := ext_same (s2.trans (same_upd nd))
  refine evt_to S (Ps := Ps) h0 (S1.ext x4) ((T1.ext s2).ext (same_upd nd)) he fun H5 z5 T5 S5 => ?_
  have nn := (S1.ext (ext_same s2)).nls nd
  exact hE d H5 ((z1.trans (.of x4)).trans z5) T5 S5 (z5 _ _ nn.1 nn.2 upd_same fun ps z => nomatch z)
def spSPutAll (K : PySem.W.Frag) (Ps : List Addr) (C CF : Addr) : Sp := fun vs H Q E => ∃ (p ls le b : Addr) (sts : List SSt) (evs : List (Str × Str)) (ys : List V) (q hs : List Int), vs = [.ref p, .ref b] ∧ SAt K C H p ls le sts evs ∧ sts.getLast? = some (ys, q) ∧ sts.length ≤ 900 ∧ evs.length ≤ 900 ∧ ys.length ≤ 100 ∧ q.length ≤ 100 ∧ Sq K H b (hs.map V.int) ∧ b ≠ ls ∧ b ≠ le ∧ TrkN H b ∧ TabsOk Ps nmL H ∧
  (freN ys < hs.length → ErrS E K Ps C p ls le sts (evs ++ evP "put_all") CF "many" (.int (ys.length : Int)) H) ∧
  ∀ c zs qs H', StayS ls le H H' → TabsOk Ps nmL H' → SAt K C H' p ls le (sts ++ [(zs, q ++ qs)]) (evs ++ evP "put_all") → NewT H c → c ≠ ls → c ≠ le → H' c = some (.lst (qs.map V.int)) → PutV ys hs zs qs → Q (.ref c) H'
theorem stayS_sq {H H' : Hp} {ls le b : Addr} {xs : List V} (z : StayS ls le H H') (h : Sq K H b xs) (n1 : b ≠ ls) (n2 : b ≠ le) : Sq K H' b xs := by
  rcases h with ((h | ⟨o, h⟩) | h) | ((h | ⟨o, h⟩) | h)
  · exact .inl (.inl (.inl (z _ _ n1 n2 h fun ps z => nomatch z)))
  · exact .inl (.inl (.inr ⟨o, z _ _ n1 n2 h fun ps z => nomatch z⟩))
  · exact .inl (.inr h)
  · exact .inr (.inl (.inl (z _ _ n1 n2 h fun ps z => nomatch z)))
  · exact .inr (.inl (.inr ⟨o, z _ _ n1 n2 h fun ps z => nomatch z⟩))
  · exact .inr (.inr h)
theorem stayS_trk {H H' : Hp} {ls le b : Addr} (z : StayS ls le H H') (h : TrkN H b) (n1 : b ≠ ls) (n2 : b ≠ le) : TrkN H' b := by
  obtain ⟨o, h1, h2⟩ := h
  exact ⟨o, z b o n1 n2 h1 h2, h2⟩
theorem ok_Store_put_all (T : Bt mg) (R : Er K mg) (S : St K mg) {Ps : List Addr} (k_Store_put_in : KnMX P w K mg base 6 S.C_Store "put_in" "Store.put_in" s_Store_put_in ["self", "wishes"] (spSPutIn K Ps S.C_Store R.C_Full) S.f_Store_put_in S.fd_Store_put_in) : KnMX P w K mg base 7 S.C_Store "put_all" "Store.put_all" s_Store_put_all ["self", "wishes"] (spSPutAll K Ps S.C_Store R.C_Full) S.f_Store_put_all S.fd_Store_put_all := by
  refine ⟨S.D_Store_put_all, S.D_Store_put_all.F.okX sc_Store_put_all (fun vs H Q E h => ?_) (fun cdv A outer s H vs Q E hr h => ?_)⟩
  · obtain ⟨p, ls, le, b, sts, evs, ys, q0, hs, rfl, _⟩ := h
    rfl
  obtain ⟨p, ls, le, b, sts, evs, ys, q0, hs, rfl, hS, hl, hz, he, hy, hq, hB, n1, n2, nB, hT, hE, q⟩ := h
  refine ⟨_, (pss_cons (ps_expr (pe_bm PySem.F.plainAttrs_list PySem.F.slot_list_append PySem.F.type_list_append mt_append (pe_fld (pv 0) rfl) (pa_cons (pe_tup (pa_cons pe_str (pa_cons pe_str pa_nil))) pa_nil)))
      (pss_one (ps_finR rfl rfl rfl takesE (fun W pn xe tk _ => (pr_ret (pe_methW (pv 0) S.cl_Store k_Store_put_in.D.m k_Store_put_in.G (hr.mono (by omega)) k_Store_put_in.D.b tk (pa_cons (pv 1) pa_nil)))) (pss_one (ps_expr (pe_bmK (K := K) rfl PySem.F.plainAttrs_list PySem.F.slot_list_append PySem.F.type_list_append mt_append (pe_fldK (K := K) rfl (pv 0) rfl) (pa_cons (pe_tup (pa_cons pe_str (pa_cons pe_str pa_nil))) pa_nil)))) (fun a pn => (pss_one (ps_expr (pe_bmK (K := K) rfl PySem.F.plainAttrs_list PySem.F.slot_list_append PySem.F.type_list_append mt_append (pe_fldK (K := K) rfl (pv 0) rfl) (pa_cons (pe_tup (pa_cons pe_str (pa_cons pe_str pa_nil))) pa_nil)))))))), ?_⟩
  refine evt_to S (Ps := Ps) rfl hS hT (by omega) fun H1 z1 T1 S1 => ?_
  obtain ⟨dx, svs, es, hX1⟩ := id S1
  refine ⟨_, rfl, p, dx, _, rfl, hX1.ins, rfl, _, rfl, ?_⟩
  refine ⟨p, ls, le, b, sts, _, ys, q0, hs, rfl, S1, hl, hz, hy, hq, stayS_sq z1 hB n1 n2, stayS_trk z1 nB n1 n2, T1, fun hf d H2 x3 T3 nd => ?_, fun c zs qs H3 z3 T3 S3 nc gc pv => ?_⟩
  · have x4 := LamX.ExtN.trans x3 (ext_same (same_upd (o := .xd [("many", .int (ys.length : Int))]) nd))
    refine evt_to S (Ps := Ps) rfl (S1.ext x4) (T3.ext (same_upd nd)) (by simp; omega) fun H5 z5 T5 S5 => ?_
    have nn := (S1.ext x3).nls nd
    refine hE hf d H5 ((z1.trans (.of x4)).trans z5) T5 ?_ (z5 _ _ nn.1 nn.2 upd_same fun ps z => nomatch z)
    rw [List.append_assoc] at S5
    exact S5
  · have nn := S1.nls nc
    refine evt_to S (Ps := Ps) rfl S3 T3 (by simp; omega) fun H5 z5 T5 S5 => ?_
    refine q c zs qs H5 ((z1.trans z3).trans z5) T5 ?_ (.back nc z1 nn.1 nn.2) nn.1 nn.2 (z5 _ _ nn.1 nn.2 gc fun ps z => nomatch z) pv
    rw [List.append_assoc] at S5
    exact S5
def spSTake (K : PySem.W.Frag) (Ps : List Addr) (C CO CN : Addr) : Sp := fun vs H Q E => ∃ (p ls le : Addr) (sts : List SSt) (evs : List (Str × Str)) (ys : List V) (q : List Int) (z : Int), vs = [.ref p, .int z] ∧ SAt K C H p ls le sts evs ∧ sts.getLast? = some (ys, q) ∧ sts.length ≤ 900 ∧ evs.length ≤ 900 ∧ ys.length ≤ 100 ∧ q.length ≤ 100 ∧ (∀ y ∈ ys, TabV ys.length y) ∧ TabsOk Ps nmL H ∧
  (z ∉ fullL ys → ErrS E K Ps C p ls le sts (evs ++ evP "take_out") CO "cell" (.int z) H) ∧ (z ∈ fullL ys → nbL ys z ≠ [] → ErrS E K Ps C p ls le sts (evs ++ evP "take_out") CN "cell" (.int z) H) ∧
  (z ∈ fullL ys → nbL ys z = [] → ∀ H', StayS ls le H H' → TabsOk Ps nmL H' → SAt K C H' p ls le (sts ++ [(ys.set z.toNat .non, q.filter fun x => decide (x ≠ z))]) (evs ++ evP "take_out") → Q (.int ((q.filter fun x => decide (x ≠ z)).length : Nat)) H')
theorem ok_Store_take_out (T : Bt mg) (R : Er K mg) (S : St K mg) {Ps : List Addr} {g2 : Addr} {gd2 : FuncData} (k_Store_table : KnM P w K mg base 1 S.C_Store "table" "Store.table" s_Store_table ["self"] (spSTable K S.C_Store) S.f_Store_table S.fd_Store_table) (k_Store_order : KnM P w K mg base 1 S.C_Store "order" "Store.order" s_Store_order ["self"] (spSOrder K S.C_Store) S.f_Store_order S.fd_Store_order) (k_left : KnX P w K mg base 5 "left" s_left ["table", "cell"] (spLeft K R.C_NoObject R.C_Needed) g2 gd2) : KnMX P w K mg base 6 S.C_Store "take_out" "Store.take_out" s_Store_take_out ["self", "cell"] (spSTake K Ps S.C_Store R.C_NoObject R.C_Needed) S.f_Store_take_out S.fd_Store_take_out := by
  refine ⟨S.D_Store_take_out, S.D_Store_take_out.F.okX sc_Store_take_out (fun vs H Q E h => ?_) (fun cdv A outer s H vs Q E hr h => ?_)⟩
  · obtain ⟨p, ls, le, sts, evs, ys, q0, z, rfl, _⟩ := h
    rfl
  obtain ⟨p, ls, le, sts, evs, ys, q0, z, rfl, hS, hl, hz, he, hy, hq, tab, hT, hO, hN, q⟩ := h
  refine ⟨_, (pss_cons (ps_expr (pe_bm PySem.F.plainAttrs_list PySem.F.slot_list_append PySem.F.type_list_append mt_append (pe_fld (pv 0) rfl) (pa_cons (pe_tup (pa_cons pe_str (pa_cons pe_str pa_nil))) pa_nil)))
      (pss_one (ps_finR rfl rfl rfl takesE (fun W pn xe tk _ => (pr_cons (ps_set (i := 2) sc_Store_take_out.nd rfl (.inl rfl) (pe_callW k_left.G (hr.mono (by omega)) (by rfl) k_left.D.g k_left.D.F.kp k_left.D.b tk (pa_cons (pe_meth0 (pv 0) S.cl_Store k_Store_table.D.m k_Store_table.G (hr.mono (by omega)) k_Store_table.D.b .nil pass0) (pa_cons (pv 1) pa_nil))))
      (pr_cons (ps_expr (pe_bmK (K := K) rfl PySem.F.plainAttrs_list PySem.F.slot_list_append PySem.F.type_list_append mt_append (pe_fldK (K := K) rfl (pv 0) rfl) (pa_cons (pe_tup (pa_cons (pv 2) (pa_cons (pe_callTy (call_tupleK (K := K) rfl) (by rfl) T.tuple (by decide +kernel) (pa_cons (pe_lc (own := [("other", 3)]) (by rfl) sc_Store_take_out.nd (pi_tupK (K := K) rfl (pe_meth0 (pv 0) S.cl_Store k_Store_order.D.m k_Store_order.G (hr.mono (by omega)) k_Store_order.D.b .nil pass0)) (blkOk_by (own := [("other", 3)]) (N := ["self", "cell", "table", "other"]) (sc := defScope s_Store_take_out) (by decide +kernel)) (fun _ _ _ _ _ => (pg_name (i := 3) sc_Store_take_out.nd rfl (.inl rfl))) (fun _ _ _ _ _ => (pts_one (pt_cmpR op_ne (pv 3) (pv 1) (nomark _)))) (fun _ _ _ _ _ => (pv 3))) pa_nil)) pa_nil))) pa_nil)))
      (pr_ret (pe_callB (call_lenK (K := K) rfl) (by rfl) T.len (by decide +kernel) (pa_cons (pe_meth0 (pv 0) S.cl_Store k_Store_order.D.m k_Store_order.G (hr.mono (by omega)) k_Store_order.D.b .nil pass0) pa_nil)))))) (pss_one (ps_expr (pe_bmK (K := K) rfl PySem.F.plainAttrs_list PySem.F.slot_list_append PySem.F.type_list_append mt_append (pe_fldK (K := K) rfl (pv 0) rfl) (pa_cons (pe_tup (pa_cons pe_str (pa_cons pe_str pa_nil))) pa_nil)))) (fun a pn => (pss_one (ps_expr (pe_bmK (K := K) rfl PySem.F.plainAttrs_list PySem.F.slot_list_append PySem.F.type_list_append mt_append (pe_fldK (K := K) rfl (pv 0) rfl) (pa_cons (pe_tup (pa_cons pe_str (pa_cons pe_str pa_nil))) pa_nil)))))))), ?_⟩
  refine evt_to S (Ps := Ps) rfl hS hT (by omega) fun H1 z1 T1 S1 => ?_
  obtain ⟨dx, svs, es, hX1⟩ := id S1
  have errN : ∀ D, ErrS E K Ps S.C_Store p ls le sts (evs ++ evP "take_out") D "cell" (.int z) H → ErrS E K Ps S.C_Store p ls le sts ((evs ++ [(("begin" : Str), ("take_out" : Str))]) ++ [(("end" : Str), ("take_out" : Str))]) D "cell" (.int z) H := fun D h => by
    rw [List.append_assoc]
    exact h
  refine ⟨_, rfl, p, dx, _, rfl, hX1.ins, rfl, p, ls, le, sts, _, _, rfl, S1, hl, fun t ht => ?_⟩
  refine ⟨_, rfl, t, ys, z, rfl, .inr ht, hy, tab, fun hc => fin_errd S (Ps := Ps) rfl S1 T1 (by simp; omega) z1 (errN _ (hO hc)), fun hc hn => fin_errd S (Ps := Ps) rfl S1 T1 (by simp; omega) z1 (errN _ (hN hc hn)), fun hc hn p2 H2 s2 g2 => ?_⟩
  have hX2 := hX1.ext (ext_same s2)
  have S2 : SAt K S.C_Store H2 p ls le sts (evs ++ [(("begin" : Str), ("take_out" : Str))]) := ⟨_, _, _, hX2⟩
  refine ⟨_, rfl, p, S.C_Store, dx, _, _, rfl, hX2.ins, S.cl_Store, S.n_Store_states, rfl, .inl ⟨rfl, _, sqL hX2.gs⟩, ?_⟩
  refine ⟨_, rfl, _, rfl, p, dx, _, rfl, hX2.ins, rfl, p, ls, le, sts, _, _, rfl, S2, hl, fun t2 h2 => ?_⟩
  refine ⟨t2, rfl, ⟨_, h2⟩, fun D1 hD1 => ?_⟩
  have hq0 : q0.length ≤ 100 := hq
  refine lc_tup (xs := q0.map V.int) (fun i H3 => Same H2 H3 ∧ H3 D1 = some (.lst (((q0.take i).filter fun x => decide (x ≠ z)).map V.int))) ⟨same_upd hD1, upd_same⟩ (fun i H3 _ hP => ExtN.tup (ext_same hP.1) h2) (fun i x H3 gx hP => ?_) (fun H3 hP => ?_)
  · obtain ⟨s3, e3⟩ := hP
    rw [List.getElem?_map, Option.map_eq_some_iff] at gx
    obtain ⟨d, gd, rfl⟩ := gx
    refine ⟨rfl, _, rfl, _, rfl, rfl, _, rfl, ?_⟩
    have ed : (!decide (V.int d = V.int z)) = decide (d ≠ z) := by
      by_cases e : d = z
      · subst e
        simp
      · rw [decide_eq_false (fun h => e (V.int.inj h)), decide_eq_true e]
        rfl
    rw [ed, filter_take (g := fun x => decide (x ≠ z)) gd]
    have hsz : (((q0.take i).filter fun x => decide (x ≠ z)).map V.int).length < sizeLine := by
      rw [List.length_map]
      refine line_ok (Nat.le_trans (List.length_filter_le _ _) ?_)
      rw [List.length_take]
      omega
    refine ite2 (fun hc => ?_) (fun hc => ?_)
    · refine ⟨_, rfl, _, e3, hsz, Same.mut s3 hD1, ?_⟩
      rw [upd_same, if_pos hc, List.map_append]
      rfl
    · refine ⟨s3, ?_⟩
      rw [if_neg hc, List.append_nil]
      exact e3
  · obtain ⟨s3, e3⟩ := hP
    rw [List.length_map, List.take_length] at e3
    refine ⟨D1, _, rfl, .inl ⟨sqL e3, fun l hnl => ?_⟩⟩
    have s4 := same_upd (o := .tup ((q0.filter fun x => decide (x ≠ z)).map V.int)) hnl
    refine ⟨(by show 2 ≤ sizeLine; decide), fun p5 hp5 => ?_⟩
    have s5 := same_upd (o := .tup [.ref p2, .ref l]) hp5
    have s25 := (s3.trans s4).trans s5
    have hX5 := hX2.ext (ext_same s25)
    have T5 := (T1.ext s2).ext s25
    have g5 : (upd (upd H3 l (.tup ((q0.filter fun x => decide (x ≠ z)).map V.int))) p5 (.tup [.ref p2, .ref l])) p5 = some (.tup [.ref p2, .ref l]) := upd_same
    have gl := s5 l _ upd_same
    have gp := s25 _ _ g2
    have x5 := LamX.ExtN.trans (ext_same s2) (ext_same s25)
    generalize upd (upd H3 l (.tup ((q0.filter fun x => decide (x ≠ z)).map V.int))) p5 (.tup [.ref p2, .ref l]) = H5 at s5 s25 hX5 T5 g5 gl gp x5
    refine ⟨ls, svs, .ref p5, rfl, rfl, hX5.gs, small1000 (by rw [hX5.ss.len]; omega), ?_⟩
    have hP := hX5.pushS (v := .ref p5) (s := (ys.set z.toNat .non, q0.filter fun x => decide (x ≠ z))) ⟨p5, p2, l, rfl, sqT g5, sqT gp, sqT gl⟩
    have z6 := (z1.trans (.of x5)).trans (.atS (ls := ls) (le := le) (H := H5) (.lst (svs ++ [.ref p5])))
    have T6 := tabs_upd (o := .lst (svs ++ [.ref p5])) T5 hX5.gs
    generalize upd H5 ls (.lst (svs ++ [.ref p5])) = H6 at hP z6 T6
    refine ⟨_, rfl, p, dx, _, rfl, hP.ins, rfl, p, ls, le, _, _, _, rfl, ⟨_, _, _, hP⟩, List.getLast?_concat, fun t6 h6 => ?_⟩
    refine ⟨t6, _, rfl, .inr h6, ?_⟩
    rw [List.length_map]
    refine evt_to S (Ps := Ps) rfl ⟨_, _, _, hP⟩ T6 (by simp; omega) fun H7 z7 T7 S7 => ?_
    refine q hc hn H7 (z6.trans z7) T7 ?_
    rw [List.append_assoc] at S7
    exact S7
theorem tab_setU {ys : List V} {i : Nat} (h : ∀ y ∈ ys, TabV ys.length y) : ∀ y ∈ ys.set i (.str "?"), TabV (ys.set i (.str "?")).length y := fun y hy => by
  rw [List.length_set]
  rcases List.mem_or_eq_of_mem_set hy with h1 | h1
  · exact h y h1
  · rw [h1]
    exact .inr (.inl rfl)
def spSForget (K : PySem.W.Frag) (Ps : List Addr) (C CO : Addr) : Sp := fun vs H Q E => ∃ (p ls le : Addr) (sts : List SSt) (evs : List (Str × Str)) (ys : List V) (q : List Int) (z : Int), vs = [.ref p, .int z] ∧ SAt K C H p ls le sts evs ∧ sts.getLast? = some (ys, q) ∧ sts.length ≤ 900 ∧ evs.length ≤ 900 ∧ ys.length ≤ 12 ∧ q.length ≤ 100 ∧ (∀ y ∈ ys, TabV ys.length y) ∧ TabsOk Ps nmL H ∧
  (z ∉ fullL ys → ErrS E K Ps C p ls le sts (evs ++ evP "forget") CO "cell" (.int z) H) ∧
  (z ∈ fullL ys → ∀ H', StayS ls le H H' → TabsOk Ps nmL H' → SAt K C H' p ls le (sts ++ [(ys.set z.toNat (.str "?"), q)]) (evs ++ evP "forget") → Q (.int ((fitL (ys.set z.toNat (.str "?"))).length : Nat)) H')
theorem ok_Store_forget (T : Bt mg) (R : Er K mg) (S : St K mg) {Ps : List Addr} {g2 g3 : Addr} {gd2 gd3 : FuncData} (k_Store_table : KnM P w K mg base 1 S.C_Store "table" "Store.table" s_Store_table ["self"] (spSTable K S.C_Store) S.f_Store_table S.fd_Store_table) (k_Store_order : KnM P w K mg base 1 S.C_Store "order" "Store.order" s_Store_order ["self"] (spSOrder K S.C_Store) S.f_Store_order S.fd_Store_order) (k_with_wish : KnX P w K mg base 4 "with_wish" s_with_wish ["table", "cell", "wish"] (spWithWishX K R.C_NoObject) g2 gd2) (k_count_orders : Kn P w K mg base 9 "count_orders" s_count_orders ["table"] (spCountAll K) g3 gd3) : KnMX P w K mg base 10 S.C_Store "forget" "Store.forget" s_Store_forget ["self", "cell"] (spSForget K Ps S.C_Store R.C_NoObject) S.f_Store_forget S.fd_Store_forget := by
  refine ⟨S.D_Store_forget, S.D_Store_forget.F.okX sc_Store_forget (fun vs H Q E h => ?_) (fun cdv A outer s H vs Q E hr h => ?_)⟩
  · obtain ⟨p, ls, le, sts, evs, ys, q0, z, rfl, _⟩ := h
    rfl
  obtain ⟨p, ls, le, sts, evs, ys, q0, z, rfl, hS, hl, hz, he, hy, hq, tab, hT, hO, q⟩ := h
  obtain ⟨_, gc_UNKNOWN⟩ := T.c_UNKNOWN
  refine ⟨_, (pss_cons (ps_expr (pe_bm PySem.F.plainAttrs_list PySem.F.slot_list_append PySem.F.type_list_append mt_append (pe_fld (pv 0) rfl) (pa_cons (pe_tup (pa_cons pe_str (pa_cons pe_str pa_nil))) pa_nil)))
      (pss_one (ps_finR rfl rfl rfl takesE (fun W pn xe tk _ => (pr_cons (ps_set (i := 2) sc_Store_forget.nd rfl (.inl rfl) (pe_callW k_with_wish.G (hr.mono (by omega)) (by rfl) k_with_wish.D.g k_with_wish.D.F.kp k_with_wish.D.b tk (pa_cons (pe_meth0 (pv 0) S.cl_Store k_Store_table.D.m k_Store_table.G (hr.mono (by omega)) k_Store_table.D.b .nil pass0) (pa_cons (pv 1) (pa_cons (pe_glob (v := .str "?") (by rfl) gc_UNKNOWN ⟨_, rfl⟩) pa_nil)))))
      (pr_cons (ps_expr (pe_bmK (K := K) rfl PySem.F.plainAttrs_list PySem.F.slot_list_append PySem.F.type_list_append mt_append (pe_fldK (K := K) rfl (pv 0) rfl) (pa_cons (pe_tup (pa_cons (pv 2) (pa_cons (pe_meth0 (pv 0) S.cl_Store k_Store_order.D.m k_Store_order.G (hr.mono (by omega)) k_Store_order.D.b .nil pass0) pa_nil))) pa_nil)))
      (pr_ret (pe_call k_count_orders.G (hr.mono (by omega)) (by rfl) k_count_orders.D.g k_count_orders.D.F.kp k_count_orders.D.b .nil pass0 (pa_cons (pv 2) pa_nil)))))) (pss_one (ps_expr (pe_bmK (K := K) rfl PySem.F.plainAttrs_list PySem.F.slot_list_append PySem.F.type_list_append mt_append (pe_fldK (K := K) rfl (pv 0) rfl) (pa_cons (pe_tup (pa_cons pe_str (pa_cons pe_str pa_nil))) pa_nil)))) (fun a pn => (pss_one (ps_expr (pe_bmK (K := K) rfl PySem.F.plainAttrs_list PySem.F.slot_list_append PySem.F.type_list_append mt_append (pe_fldK (K := K) rfl (pv 0) rfl) (pa_cons (pe_tup (pa_cons pe_str (pa_cons pe_str pa_nil))) pa_nil)))))))), ?_⟩
  refine evt_to S (Ps := Ps) rfl hS hT (by omega) fun H1 z1 T1 S1 => ?_
  obtain ⟨dx, svs, es, hX1⟩ := id S1
  have errN : ∀ D, ErrS E K Ps S.C_Store p ls le sts (evs ++ evP "forget") D "cell" (.int z) H → ErrS E K Ps S.C_Store p ls le sts ((evs ++ [(("begin" : Str), ("forget" : Str))]) ++ [(("end" : Str), ("forget" : Str))]) D "cell" (.int z) H := fun D h => by
    rw [List.append_assoc]
    exact h
  refine ⟨_, rfl, p, dx, _, rfl, hX1.ins, rfl, p, ls, le, sts, _, _, rfl, S1, hl, fun t ht => ?_⟩
  refine ⟨_, rfl, t, ys, z, _, rfl, .inr ht, by show ys.length ≤ 100; omega, fun hc => fin_errd S (Ps := Ps) rfl S1 T1 (by simp; omega) z1 (errN _ (hO hc)), fun c ez hc p2 H2 s2 n2 g2 => ?_⟩
  have hX2 := hX1.ext (ext_same s2)
  have S2 : SAt K S.C_Store H2 p ls le sts (evs ++ [(("begin" : Str), ("forget" : Str))]) := ⟨_, _, _, hX2⟩
  have ez2 : z.toNat = c := by omega
  rw [ez2] at q
  have hcz : z ∈ fullL ys := by rw [ez]; exact hc
  have q := q hcz
  obtain ⟨c', ec', hcl, hcn⟩ := fullL_mem.mp hc
  obtain rfl : c = c' := by omega
  refine ⟨_, rfl, p, S.C_Store, dx, _, _, rfl, hX2.ins, S.cl_Store, S.n_Store_states, rfl, .inl ⟨rfl, _, sqL hX2.gs⟩, ?_⟩
  refine ⟨_, rfl, _, rfl, p, dx, _, rfl, hX2.ins, rfl, p, ls, le, sts, _, _, rfl, S2, hl, fun t2 h2 => ?_⟩
  refine ⟨(by show 2 ≤ sizeLine; decide), fun p5 hp5 => ?_⟩
  have s5 := same_upd (o := .tup [.ref p2, .ref t2]) hp5
  have hX5 := hX2.ext (ext_same s5)
  have T5 := (T1.ext s2).ext s5
  have g5 : (upd H2 p5 (.tup [.ref p2, .ref t2])) p5 = some (.tup [.ref p2, .ref t2]) := upd_same
  have gp := s5 _ _ g2
  have h5 := ExtN.tup (ext_same s5) h2
  have x5 := LamX.ExtN.trans (ext_same s2) (ext_same s5)
  generalize upd H2 p5 (.tup [.ref p2, .ref t2]) = H5 at s5 hX5 T5 g5 gp h5 x5
  refine ⟨ls, svs, .ref p5, rfl, rfl, hX5.gs, small1000 (by rw [hX5.ss.len]; omega), ?_⟩
  have hP := hX5.pushS (v := .ref p5) (s := (ys.set c (.str "?"), q0)) ⟨p5, p2, t2, rfl, sqT g5, sqT gp, h5⟩
  have z6 := (z1.trans (.of x5)).trans (.atS (ls := ls) (le := le) (H := H5) (.lst (svs ++ [.ref p5])))
  have T6 := tabs_upd (o := .lst (svs ++ [.ref p5])) T5 hX5.gs
  have gp6 : (upd H5 ls (.lst (svs ++ [.ref p5]))) p2 = some (.tup (ys.set c (.str "?"))) := by
    rw [upd_ne (fun z => by rw [z, hX5.gs] at gp; cases gp)]
    exact gp
  generalize upd H5 ls (.lst (svs ++ [.ref p5])) = H6 at hP z6 T6 gp6
  refine ⟨_, rfl, p2, _, rfl, .inr (sqT gp6), by rw [List.length_set]; exact hy, tab_setU tab, fun H7 s7 => ?_⟩
  refine evt_to S (Ps := Ps) rfl ⟨_, _, _, hP.ext (ext_same s7)⟩ (T6.ext s7) (by simp; omega) fun H8 z8 T8 S8 => ?_
  refine q H8 ((z6.trans (.of (ext_same s7))).trans z8) T8 ?_
  rw [List.append_assoc] at S8
  exact S8
def spSUndo (K : PySem.W.Frag) (Ps : List Addr) (C : Addr) : Sp := fun vs H Q _ => ∃ (p ls le : Addr) (sts : List SSt) (evs : List (Str × Str)), vs = [.ref p] ∧ SAt K C H p ls le sts evs ∧ 1 ≤ sts.length ∧ sts.length ≤ 900 ∧ evs.length ≤ 900 ∧ TabsOk Ps nmL H ∧
  ∀ H', StayS ls le H H' → TabsOk Ps nmL H' → SAt K C H' p ls le (if sts.length = 1 then sts else sts.dropLast) (evs ++ evP "undo") → Q (.bl (decide (sts.length ≠ 1))) H'
theorem ok_Store_undo (T : Bt mg) (R : Er K mg) (S : St K mg) {Ps : List Addr} (k_Store_operations : KnM P w K mg base 1 S.C_Store "operations" "Store.operations" s_Store_operations ["self"] (spSOps K S.C_Store) S.f_Store_operations S.fd_Store_operations) : KnMX P w K mg base 2 S.C_Store "undo" "Store.undo" s_Store_undo ["self"] (spSUndo K Ps S.C_Store) S.f_Store_undo S.fd_Store_undo := by
  refine ⟨S.D_Store_undo, S.D_Store_undo.F.okX sc_Store_undo (fun vs H Q E h => ?_) (fun cdv A outer s H vs Q E hr h => ?_)⟩
  · obtain ⟨p, ls, le, sts, evs, rfl, _⟩ := h
    rfl
  obtain ⟨p, ls, le, sts, evs, rfl, hS, h1, hz, he, hT, q⟩ := h
  refine ⟨_, (pss_cons (ps_expr (pe_bm PySem.F.plainAttrs_list PySem.F.slot_list_append PySem.F.type_list_append mt_append (pe_fld (pv 0) rfl) (pa_cons (pe_tup (pa_cons pe_str (pa_cons pe_str pa_nil))) pa_nil)))
      (pss_one (ps_finR rfl rfl rfl takesE (fun W pn xe tk _ => (pr_if (pt_cmpR op_eq (pe_meth0 (pv 0) S.cl_Store k_Store_operations.D.m k_Store_operations.G (hr.mono (by omega)) k_Store_operations.D.b .nil pass0) pe_int (nomark _)) (pr_ret pe_bl)
      (pr_cons (ps_expr (pe_bm0K (K := K) rfl PySem.F.plainAttrs_list PySem.F.slot_list_pop PySem.F.type_list_pop mt_pop (pe_fldK (K := K) rfl (pv 0) rfl)))
      (pr_ret pe_bl)))) (pss_one (ps_expr (pe_bmK (K := K) rfl PySem.F.plainAttrs_list PySem.F.slot_list_append PySem.F.type_list_append mt_append (pe_fldK (K := K) rfl (pv 0) rfl) (pa_cons (pe_tup (pa_cons pe_str (pa_cons pe_str pa_nil))) pa_nil)))) (fun a pn => (pss_one (ps_expr (pe_bmK (K := K) rfl PySem.F.plainAttrs_list PySem.F.slot_list_append PySem.F.type_list_append mt_append (pe_fldK (K := K) rfl (pv 0) rfl) (pa_cons (pe_tup (pa_cons pe_str (pa_cons pe_str pa_nil))) pa_nil)))))))), ?_⟩
  refine evt_to S (Ps := Ps) rfl hS hT (by omega) fun H1 z1 T1 S1 => ?_
  obtain ⟨dx, svs, es, hX1⟩ := id S1
  refine ⟨_, rfl, p, dx, _, rfl, hX1.ins, rfl, p, ls, le, sts, _, rfl, S1, ?_⟩
  refine ⟨rfl, _, rfl, ?_⟩
  have ec : decide (V.int ((sts.length : Int) - 1) = V.int 0) = decide (sts.length = 1) := by
    rw [Bool.eq_iff_iff, decide_eq_true_eq, decide_eq_true_eq]
    constructor
    · intro h
      have := V.int.inj h
      omega
    · intro h
      rw [h]
      rfl
  rw [ec]
  by_cases hn : sts.length = 1
  · rw [decide_eq_true hn]
    refine iteT ?_
    refine evt_to S (Ps := Ps) rfl S1 T1 (by simp; omega) fun H7 z7 T7 S7 => ?_
    have q := q H7 (z1.trans z7) T7
    rw [if_pos hn, decide_eq_false (fun h => h hn)] at q
    refine q ?_
    rw [List.append_assoc] at S7
    exact S7
  · rw [decide_eq_false hn]
    refine iteF ?_
    have hl := hX1.ss.len
    have hp : svs.length - 1 < svs.length := by omega
    refine ⟨_, rfl, p, S.C_Store, dx, _, _, rfl, hX1.ins, S.cl_Store, S.n_Store_states, rfl, .inl ⟨rfl, _, sqL hX1.gs⟩, ls, svs, _, rfl, rfl, hX1.gs, List.getElem?_eq_getElem hp, ?_⟩
    have hP := hX1.popS
    refine evt_to S (Ps := Ps) rfl ⟨_, _, _, hP⟩ (tabs_upd T1 hX1.gs) (by simp; omega) fun H7 z7 T7 S7 => ?_
    have q := q H7 ((z1.trans (.atS _)).trans z7) T7
    rw [if_neg hn, decide_eq_true hn] at q
    refine q ?_
    rw [List.append_assoc] at S7
    exact S7

/-! ### Store: as_of, count, histories, journal, len, repr, == -/
def spSAsOf (K : PySem.W.Frag) (Ps : List Addr) (C CS : Addr) : Sp := fun vs H Q E => ∃ (p ls le : Addr) (sts : List SSt) (evs : List (Str × Str)) (ys : List V) (q : List Int) (m : Int), vs = [.ref p, .int m] ∧ SAt K C H p ls le sts evs ∧ sts.getLast? = some (ys, q) ∧ sts.length ≤ 900 ∧ ys.length ≤ 100 ∧ TabsOk Ps nmL H ∧
  (m < 0 ∨ (sts.length : Int) ≤ m → ErrT E Ps CS "many" (.int m) H) ∧
  ∀ n : Nat, m = (n : Int) → n < sts.length → ∀ x l1 l2 H', LamX.ExtN H H' → TabsOk Ps nmL H' → H x = none → H l1 = none → H l2 = none → SAt K C H' x l1 l2 (sts.take (n + 1)) [] → Q (.ref x) H'
theorem ok_Store_as_of (T : Bt mg) (R : Er K mg) (S : St K mg) {Ps : List Addr} (k_Store_operations : KnM P w K mg base 1 S.C_Store "operations" "Store.operations" s_Store_operations ["self"] (spSOps K S.C_Store) S.f_Store_operations S.fd_Store_operations) (k_Store_table : KnM P w K mg base 1 S.C_Store "table" "Store.table" s_Store_table ["self"] (spSTable K S.C_Store) S.f_Store_table S.fd_Store_table) (k_Store___init__ : KnM P w K mg base 1 S.C_Store "__init__" "Store.__init__" s_Store___init__ ["self", "size"] (spSInit K S.C_Store) S.f_Store___init__ S.fd_Store___init__) : KnMX P w K mg base 3 S.C_Store "as_of" "Store.as_of" s_Store_as_of ["self", "many"] (spSAsOf K Ps S.C_Store R.C_NoState) S.f_Store_as_of S.fd_Store_as_of := by
  refine ⟨S.D_Store_as_of, S.D_Store_as_of.F.okX sc_Store_as_of (fun vs H Q E h => ?_) (fun cdv A outer s H vs Q E hr h => ?_)⟩
  · obtain ⟨p, ls, le, sts, evs, ys, q0, m, rfl, _⟩ := h
    rfl
  obtain ⟨p, ls, le, sts, evs, ys, q0, m, rfl, hS, hl, hz, hy, hT, hE, q⟩ := h
  refine ⟨_, (pss_cons (ps_if (pt_not (pt_chain op_le op_le pe_int (pv 1) (pe_meth0 (pv 0) S.cl_Store k_Store_operations.D.m k_Store_operations.G (hr.mono (by omega)) k_Store_operations.D.b .nil pass0))) (pss_one (ps_raise rfl takesE (pmk_b bas_L R.E_NoState.o R.I_NoState.iC R.I_NoState.tI (ok_init_NoState T R.I_NoState) (hr.mono (by omega)) R.I_NoState.b pass0 (by rfl) R.E_NoState.g (pa_cons (pv 1) pa_nil)))) pss_nil)
      (pss_cons (ps_set (i := 2) sc_Store_as_of.nd rfl (.inl rfl) (pe_make S.M_Store k_Store___init__.G (hr.mono (by omega)) (by rfl) S.g_Store k_Store___init__.D.b .nil pass0 (pa_cons (pe_callB (call_lenK (K := K) rfl) (by rfl) T.len (by decide +kernel) (pa_cons (pe_meth0 (pv 0) S.cl_Store k_Store_table.D.m k_Store_table.G (hr.mono (by omega)) k_Store_table.D.b .nil pass0) pa_nil)) pa_nil)))
      (pss_cons (ps_fld (pv 2) (pe_slice sl_list (pe_fld (pv 0) rfl) po_none (po_some (pe_op op_add (pv 1) pe_int))) rfl)
      (pss_one (ps_ret (pv 2)))))), ?_⟩
  obtain ⟨dx, svs, es, hX⟩ := id hS
  have hlen : 1 ≤ sts.length := by
    cases sts with
    | nil => cases hl
    | cons => exact Nat.succ_le_succ (Nat.zero_le _)
  by_cases h0 : 0 ≤ m
  rotate_left
  · refine ⟨_, rfl, _, _, rfl, rfl, _, rfl, ?_⟩
    rw [decide_eq_false h0]
    refine iteF ⟨_, rfl, iteT ?_⟩
    exact ⟨_, rfl, made_of R.E_NoState.o R.E_NoState.nof fun d hd => hE (.inl (by omega)) d H (LamX.ExtN.refl _) hT hd⟩
  by_cases h1 : (sts.length : Int) ≤ m
  · refine ⟨_, rfl, _, _, rfl, rfl, _, rfl, ?_⟩
    rw [decide_eq_true h0]
    refine iteT ⟨_, rfl, p, dx, _, rfl, hX.ins, rfl, p, ls, le, sts, evs, rfl, hS, _, _, rfl, rfl, _, rfl, ?_⟩
    rw [decide_eq_false (show ¬ m ≤ (sts.length : Int) - 1 by omega)]
    refine iteT ?_
    exact ⟨_, rfl, made_of R.E_NoState.o R.E_NoState.nof fun d hd => hE (.inr h1) d H (LamX.ExtN.refl _) hT hd⟩
  obtain ⟨n, rfl⟩ : ∃ n : Nat, m = (n : Int) := ⟨m.toNat, by omega⟩
  refine ⟨_, rfl, _, _, rfl, rfl, _, rfl, ?_⟩
  rw [decide_eq_true h0]
  refine iteT ⟨_, rfl, p, dx, _, rfl, hX.ins, rfl, p, ls, le, sts, evs, rfl, hS, _, _, rfl, rfl, _, rfl, ?_⟩
  rw [decide_eq_true (show (n : Int) ≤ (sts.length : Int) - 1 by omega)]
  refine iteF ?_
  dsimp only [tNext, tSeq]
  refine ⟨_, rfl, p, dx, _, rfl, hX.ins, rfl, p, ls, le, sts, evs, _, rfl, hS, hl, fun t ht => ⟨t, _, rfl, .inr ht, fun x dx2 nx nd ne => ?_⟩⟩
  refine ⟨x, dx2, ys.length, rfl, upd_same, by omega, fun l1 l2 H2 k n1 n2 S2 => ⟨rfl, ?_⟩⟩
  have s2 : Same H H2 := fun b o hb => k b o (ne_of_none hb nx) (by rw [upd_ne (ne_of_none hb nx), upd_ne (ne_of_none hb nd)]; exact hb)
  have hX2 := hX.ext (ext_same s2)
  have back : ∀ {l : Addr}, (upd (upd H dx2 (.own x)) x (.ins S.C_Store dx2 [])) l = none → H l = none := fun {l} h => by
    by_cases e1 : l = x
    · rw [e1, upd_same] at h
      cases h
    · rw [upd_ne e1] at h
      by_cases e2 : l = dx2
      · rw [e2, upd_same] at h
        cases h
      · rw [upd_ne e2] at h
        exact h
  refine ⟨_, rfl, p, S.C_Store, dx, _, _, rfl, hX2.ins, S.cl_Store, S.n_Store_states, rfl, ?_⟩
  refine ⟨_, rfl, _, _, rfl, rfl, _, rfl, ?_⟩
  refine ⟨ls, svs, rfl, sqL hX2.gs, fun l hnl => ?_⟩
  have s3 := same_upd (o := .lst (cutV svs none (some ((n : Int) + 1)))) hnl
  have hX3 := hX2.ext (ext_same s3)
  obtain ⟨dx3, svs3, es3, Y2⟩ := S2
  have Y3 := Y2.ext (ext_same s3)
  have e0 : es3 = [] := by
    have := Y3.ee.len
    exact List.eq_nil_of_length_eq_zero this
  subst e0
  refine ⟨_, rfl, x, S.C_Store, dx3, _, rfl, Y3.ins, S.cl_Store, S.n_Store_states, (by show 2 < 1000; decide), ?_⟩
  have g3 : (upd H2 l (.lst (cutV svs none (some ((n : Int) + 1))))) l = some (.lst (svs.take (n + 1))) := by
    rw [upd_same, show ((n : Int) + 1) = ((n + 1 : Nat) : Int) from rfl, cut_to (by rw [hX.ss.len]; omega)]
  have T3 := (hT.ext s2).ext s3
  have nl : H l = none := s2.free hnl
  have s13 := s2.trans s3
  generalize upd H2 l (.lst (cutV svs none (some ((n : Int) + 1)))) = H3 at s3 hX3 Y3 g3 T3 s13
  have keep : ∀ b o, b ≠ x → H3 b = some o → (upd H3 x (.ins S.C_Store dx3 (putF "states" (.ref l) (stF l1 l2)))) b = some o := fun b o nb hb => (upd_ne nb).trans hb
  have x3 : LamX.ExtN H (upd H3 x (.ins S.C_Store dx3 (putF "states" (.ref l) (stF l1 l2)))) := fun b o hb _ => keep b o (ne_of_none hb nx) (s13 _ _ hb)
  have T4 : TabsOk Ps nmL (upd H3 x (.ins S.C_Store dx3 (putF "states" (.ref l) (stF l1 l2)))) := hT.ext fun b o hb => keep b o (ne_of_none hb nx) (s13 _ _ hb)
  have nlx : l ≠ x := fun z => by rw [z, Y3.ins] at g3; cases g3
  refine ⟨_, rfl, q n rfl (by omega) x l l2 _ x3 T4 nx nl (back n2) ⟨dx3, svs.take (n + 1), [], upd_same, keep _ _ nlx g3, keep _ _ Y3.ple.symm Y3.ge, fun z => ?_, ((hX3.ss).take _).imp fun v s h => ?_, .nil⟩⟩
  · rw [z, Y3.ge] at g3
    have h := congrArg List.length (HO.lst.inj (Option.some.inj g3))
    rw [List.length_take, hX.ss.len, List.length_nil] at h
    omega
  · obtain ⟨t, p, q, rfl, a1, a2, a3⟩ := h
    exact ⟨t, p, q, rfl, ins_tup keep Y3.ins a1, ins_tup keep Y3.ins a2, ins_tup keep Y3.ins a3⟩
def spSCount (K : PySem.W.Frag) (C : Addr) : Sp := fun vs H Q _ => ∃ (p ls le : Addr) (sts : List SSt) (evs : List (Str × Str)) (s : SSt), vs = [.ref p] ∧ SAt K C H p ls le sts evs ∧ sts.getLast? = some s ∧ s.1.length ≤ 12 ∧ (∀ y ∈ s.1, TabV s.1.length y) ∧ ∀ H', Same H H' → Q (.int ((fitL s.1).length : Nat)) H'
def spSHist (K : PySem.W.Frag) (C : Addr) : Sp := fun vs H Q _ => ∃ (p ls le : Addr) (sts : List SSt) (evs : List (Str × Str)) (s : SSt), vs = [.ref p] ∧ SAt K C H p ls le sts evs ∧ sts.getLast? = some s ∧ s.1.length ≤ 12 ∧ (∀ y ∈ s.1, TabV s.1.length y) ∧ ∀ H', Same H H' → Q (.int (histT s.1 : Nat)) H'
theorem ok_Store_count (T : Bt mg) (S : St K mg) {g1 : Addr} {gd1 : FuncData} (k_Store_table : KnM P w K mg base 1 S.C_Store "table" "Store.table" s_Store_table ["self"] (spSTable K S.C_Store) S.f_Store_table S.fd_Store_table) (k_count_orders : Kn P w K mg base 9 "count_orders" s_count_orders ["table"] (spCountAll K) g1 gd1) : KnM P w K mg base 10 S.C_Store "count" "Store.count" s_Store_count ["self"] (spSCount K S.C_Store) S.f_Store_count S.fd_Store_count := by
  refine ⟨S.D_Store_count, S.D_Store_count.F.ok sc_Store_count (fun vs H Q E h => ?_) (fun cdv A outer s H vs Q E hr h => ?_)⟩
  · obtain ⟨p, ls, le, sts, evs, s, rfl, _⟩ := h
    rfl
  obtain ⟨p, ls, le, sts, evs, s, rfl, hS, hl, h12, tab, q⟩ := h
  refine ⟨_, (pss_one (ps_ret (pe_call k_count_orders.G (hr.mono (by omega)) (by rfl) k_count_orders.D.g k_count_orders.D.F.kp k_count_orders.D.b .nil pass0 (pa_cons (pe_meth0 (pv 0) S.cl_Store k_Store_table.D.m k_Store_table.G (hr.mono (by omega)) k_Store_table.D.b .nil pass0) pa_nil)))), ?_⟩
  obtain ⟨dx, svs, es, hX⟩ := id hS
  exact ⟨_, rfl, p, dx, _, rfl, hX.ins, rfl, p, ls, le, sts, _, _, rfl, hS, hl, fun t ht => ⟨t, _, rfl, .inr ht, h12, tab, q⟩⟩
theorem ok_Store_histories (T : Bt mg) (S : St K mg) {g1 : Addr} {gd1 : FuncData} (k_Store_table : KnM P w K mg base 1 S.C_Store "table" "Store.table" s_Store_table ["self"] (spSTable K S.C_Store) S.f_Store_table S.fd_Store_table) (k_count_histories : Kn P w K mg base 6 "count_histories" s_count_histories ["table"] (spCountHist K) g1 gd1) : KnM P w K mg base 7 S.C_Store "histories" "Store.histories" s_Store_histories ["self"] (spSHist K S.C_Store) S.f_Store_histories S.fd_Store_histories := by
  refine ⟨S.D_Store_histories, S.D_Store_histories.F.ok sc_Store_histories (fun vs H Q E h => ?_) (fun cdv A outer s H vs Q E hr h => ?_)⟩
  · obtain ⟨p, ls, le, sts, evs, s, rfl, _⟩ := h
    rfl
  obtain ⟨p, ls, le, sts, evs, s, rfl, hS, hl, h12, tab, q⟩ := h
  refine ⟨_, (pss_one (ps_ret (pe_call k_count_histories.G (hr.mono (by omega)) (by rfl) k_count_histories.D.g k_count_histories.D.F.kp k_count_histories.D.b .nil pass0 (pa_cons (pe_meth0 (pv 0) S.cl_Store k_Store_table.D.m k_Store_table.G (hr.mono (by omega)) k_Store_table.D.b .nil pass0) pa_nil)))), ?_⟩
  obtain ⟨dx, svs, es, hX⟩ := id hS
  exact ⟨_, rfl, p, dx, _, rfl, hX.ins, rfl, p, ls, le, sts, _, _, rfl, hS, hl, fun t ht => ⟨t, _, rfl, .inr ht, h12, tab, q⟩⟩
def spSJournal (K : PySem.W.Frag) (C : Addr) : Sp := fun vs H Q _ => ∃ (p ls le : Addr) (sts : List SSt) (evs : List (Str × Str)), vs = [.ref p] ∧ SAt K C H p ls le sts evs ∧ ∀ l vs H', Same H H' → H l = none → H' l = some (.lst vs) → All2 (EvT K H') vs evs → Q (.ref l) H'
theorem ok_Store_journal (T : Bt mg) (S : St K mg) : KnM P w K mg base 1 S.C_Store "journal" "Store.journal" s_Store_journal ["self"] (spSJournal K S.C_Store) S.f_Store_journal S.fd_Store_journal := by
  refine ⟨S.D_Store_journal, S.D_Store_journal.F.ok sc_Store_journal (fun vs H Q E h => ?_) (fun cdv A outer s H vs Q E hr h => ?_)⟩
  · obtain ⟨p, ls, le, sts, evs, rfl, _⟩ := h
    rfl
  obtain ⟨p, ls, le, sts, evs, rfl, ⟨dx, svs, es, hX⟩, q⟩ := h
  refine ⟨_, (pss_one (ps_ret (pe_callTy (call_listK (K := K) rfl) (by rfl) T.list (by decide +kernel) (pa_cons (pe_fld (pv 0) rfl) pa_nil)))), ?_⟩
  refine ⟨_, rfl, p, _, dx, _, _, rfl, hX.ins, S.cl_Store, S.n_Store_events, rfl, ?_⟩
  refine ⟨le, es, rfl, .inl (sqL hX.ge), fun l hnl => ?_⟩
  exact q l es _ (same_upd hnl) hnl upd_same (hX.ee.imp fun _ _ => EvT.ext (ext_same (same_upd hnl)))
def spSLen (K : PySem.W.Frag) (C : Addr) : Sp := fun vs H Q _ => ∃ (p ls le : Addr) (sts : List SSt) (evs : List (Str × Str)) (s : SSt), vs = [.ref p] ∧ SAt K C H p ls le sts evs ∧ sts.getLast? = some s ∧ Q (.int (s.2.length : Nat)) H
theorem ok_Store_len (T : Bt mg) (S : St K mg) (k_Store_order : KnM P w K mg base 1 S.C_Store "order" "Store.order" s_Store_order ["self"] (spSOrder K S.C_Store) S.f_Store_order S.fd_Store_order) : KnM P w K mg base 2 S.C_Store "__len__" "Store.__len__" s_Store___len__ ["self"] (spSLen K S.C_Store) S.f_Store___len__ S.fd_Store___len__ := by
  refine ⟨S.D_Store___len__, S.D_Store___len__.F.ok sc_Store___len__ (fun vs H Q E h => ?_) (fun cdv A outer s H vs Q E hr h => ?_)⟩
  · obtain ⟨p, ls, le, sts, evs, s, rfl, _⟩ := h
    rfl
  obtain ⟨p, ls, le, sts, evs, s, rfl, hS, hl, q⟩ := h
  refine ⟨_, (pss_one (ps_ret (pe_callB (call_lenK (K := K) rfl) (by rfl) T.len (by decide +kernel) (pa_cons (pe_meth0 (pv 0) S.cl_Store k_Store_order.D.m k_Store_order.G (hr.mono (by omega)) k_Store_order.D.b .nil pass0) pa_nil)))), ?_⟩
  obtain ⟨dx, svs, es, hX⟩ := id hS
  refine ⟨_, rfl, p, dx, _, rfl, hX.ins, rfl, p, ls, le, sts, _, _, rfl, hS, hl, fun t ht => ⟨t, _, rfl, .inr ht, ?_⟩⟩
  rw [List.length_map]
  exact q
def reprN (a b : Nat) : Str := Str.empty ++ ("Store(" : Str) ++ (toString ((a : Nat) : Int) : Str) ++ (" of " : Str) ++ (toString ((b : Nat) : Int) : Str) ++ (" cells)" : Str)
abbrev reprS (s : SSt) : Str := reprN s.2.length s.1.length
theorem dig_len : ∀ n : Nat, n ≤ 100 → ((toString ((n : Nat) : Int) : Str)).length ≤ 3 := by
  have h : ∀ n : Fin 101, ((toString ((n.val : Nat) : Int) : Str)).length ≤ 3 := by decide +kernel
  exact fun n hn => h ⟨n, by omega⟩
theorem dig_log (n : Nat) (h : n ≤ 100) : ((n : Int)).natAbs.log2 < 1920 := by
  have h2 : ∀ n : Fin 101, ((n.val : Int)).natAbs.log2 < 1920 := by decide +kernel
  exact h2 ⟨n, by omega⟩
def spSRepr (K : PySem.W.Frag) (C : Addr) : Sp := fun vs H Q _ => ∃ (p ls le : Addr) (sts : List SSt) (evs : List (Str × Str)) (s : SSt), vs = [.ref p] ∧ SAt K C H p ls le sts evs ∧ sts.getLast? = some s ∧ s.1.length ≤ 100 ∧ s.2.length ≤ 100 ∧ Q (.str (reprS s)) H
theorem ok_Store_repr (T : Bt mg) (S : St K mg) (k_Store_order : KnM P w K mg base 1 S.C_Store "order" "Store.order" s_Store_order ["self"] (spSOrder K S.C_Store) S.f_Store_order S.fd_Store_order) (k_Store_table : KnM P w K mg base 1 S.C_Store "table" "Store.table" s_Store_table ["self"] (spSTable K S.C_Store) S.f_Store_table S.fd_Store_table) : KnM P w K mg base 2 S.C_Store "__repr__" "Store.__repr__" s_Store___repr__ ["self"] (spSRepr K S.C_Store) S.f_Store___repr__ S.fd_Store___repr__ := by
  refine ⟨S.D_Store___repr__, S.D_Store___repr__.F.ok sc_Store___repr__ (fun vs H Q E h => ?_) (fun cdv A outer s H vs Q E hr h => ?_)⟩
  · obtain ⟨p, ls, le, sts, evs, s, rfl, _⟩ := h
    rfl
  obtain ⟨p, ls, le, sts, evs, s, rfl, hS, hl, h1, h2, q⟩ := h
  refine ⟨_, (pss_one (ps_ret (pe_joined (PJ.cons pe_str (PJ.cons (pe_fmt (pe_callB (call_lenK (K := K) rfl) (by rfl) T.len (by decide +kernel) (pa_cons (pe_meth0 (pv 0) S.cl_Store k_Store_order.D.m k_Store_order.G (hr.mono (by omega)) k_Store_order.D.b .nil pass0) pa_nil))) (PJ.cons pe_str (PJ.cons (pe_fmt (pe_callB (call_lenK (K := K) rfl) (by rfl) T.len (by decide +kernel) (pa_cons (pe_meth0 (pv 0) S.cl_Store k_Store_table.D.m k_Store_table.G (hr.mono (by omega)) k_Store_table.D.b .nil pass0) pa_nil))) (PJ.cons pe_str PJ.nil)))))))), ?_⟩
  obtain ⟨dx, svs, es, hX⟩ := id hS
  have d1 := dig_len _ h1
  have d2 := dig_len _ h2
  have sl : ∀ n : Nat, n ≤ 100 → n ≤ sizeLine := fun n hn => Nat.le_of_lt (line_ok (by omega))
  have e0 : (Str.empty : Str).length = 0 := rfl
  have e1 : ("Store(" : Str).length = 6 := by decide +kernel
  have e2 : (" of " : Str).length = 4 := by decide +kernel
  have e3 : (" cells)" : Str).length = 7 := by decide +kernel
  refine ⟨_, rfl, sl _ (by rw [PySem.Str.length_append]; omega), ?_⟩
  refine ⟨_, rfl, p, dx, _, rfl, hX.ins, rfl, p, ls, le, sts, evs, _, rfl, hS, hl, fun t ht => ⟨t, _, rfl, .inr ht, .inr ⟨_, rfl, by rw [List.length_map]; exact dig_log _ h2, ?_⟩⟩⟩
  rw [List.length_map]
  refine ⟨_, rfl, sl _ (by simp only [PySem.Str.length_append]; omega), ?_⟩
  refine ⟨_, rfl, sl _ (by simp only [PySem.Str.length_append]; omega), ?_⟩
  refine ⟨_, rfl, p, dx, _, rfl, hX.ins, rfl, p, ls, le, sts, evs, _, rfl, hS, hl, fun t2 ht2 => ⟨t2, _, rfl, .inr ht2, .inr ⟨_, rfl, dig_log _ h1, ?_⟩⟩⟩
  refine ⟨_, rfl, sl _ (by simp only [PySem.Str.length_append]; omega), ?_⟩
  refine ⟨_, rfl, sl _ (by simp only [PySem.Str.length_append]; omega), ?_⟩
  exact q

/-! ### _law_perform: an operation of a store, told by its effect -/
theorem asg_to {te : TE} {i : Nat} {D : Ends} {σ : L2.St} {H : Hp} (R : V → Hp → Prop) (k : ∀ v H', R v H' → gName i v σ H' D.nx) (h : ∀ Q : VK, (∀ v H', R v H' → Q v H') → te σ H Q) : tAsg te (gName i) D σ H := h _ k
inductive Work where
  | put (h : Int)
  | putAll (hs : List Int)
  | take (z : Int)
  | forget (z : Int)
  | undo
def Work.nm : Work → Str
  | .put _ => "put"
  | .putAll _ => "put_all"
  | .take _ => "take_out"
  | .forget _ => "forget"
  | .undo => "undo"
/-- what an operation returns, and the state after it -/
inductive EffR : SSt → Work → PyData → Option SSt → Prop
  | put {ys : List V} {q : List Int} {h : Int} {c : Nat} (sp : NSpot ys h c) : EffR (ys, q) (.put h) (.int c) (some (ys.set c (.int h), q ++ [(c : Int)]))
  | putF {ys : List V} {q : List Int} {h : Int} (f : freN ys = 0) : EffR (ys, q) (.put h) (.tuple [.str "Full", .int ys.length]) none
  | putAll {ys zs : List V} {q hs qs : List Int} (pv : PutV ys hs zs qs) : EffR (ys, q) (.putAll hs) (.list (qs.map PyData.int)) (some (zs, q ++ qs))
  | putAllF {ys : List V} {q hs : List Int} (f : freN ys < hs.length) : EffR (ys, q) (.putAll hs) (.tuple [.str "Full", .int ys.length]) none
  | take {ys : List V} {q : List Int} {z : Int} (h : z ∈ fullL ys) (n : nbL ys z = []) : EffR (ys, q) (.take z) (.int ((q.filter fun x => decide (x ≠ z)).length : Nat)) (some (ys.set z.toNat .non, q.filter fun x => decide (x ≠ z)))
  | takeO {ys : List V} {q : List Int} {z : Int} (h : z ∉ fullL ys) : EffR (ys, q) (.take z) (.tuple [.str "NoObject", .int z]) none
  | takeN {ys : List V} {q : List Int} {z : Int} (h : z ∈ fullL ys) (n : nbL ys z ≠ []) : EffR (ys, q) (.take z) (.tuple [.str "Needed", .int z]) none
  | forget {ys : List V} {q : List Int} {z : Int} (h : z ∈ fullL ys) : EffR (ys, q) (.forget z) (.int ((fitL (ys.set z.toNat (.str "?"))).length : Nat)) (some (ys.set z.toNat (.str "?"), q))
  | forgetO {ys : List V} {q : List Int} {z : Int} (h : z ∉ fullL ys) : EffR (ys, q) (.forget z) (.tuple [.str "NoObject", .int z]) none
inductive Eff : List SSt → Work → PyData → List SSt → Prop
  | op {sts : List SSt} {s : SSt} {w : Work} {d : PyData} {o : Option SSt} (l : sts.getLast? = some s) (e : EffR s w d o) : Eff sts w d (sts ++ o.toList)
  | undo {sts : List SSt} : Eff sts .undo (.bool (decide (sts.length ≠ 1))) (if sts.length = 1 then sts else sts.dropLast)
theorem EffR.one {s : SSt} {w : Work} {d d' : PyData} {o o' : Option SSt} (a : EffR s w d o) (b : EffR s w d' o') : d = d' ∧ o = o' := by
  cases a with
  | put sp =>
    cases b with
    | put sp' => rw [sp.one sp']; exact ⟨rfl, rfl⟩
    | putF f =>
      have := freN_set (h := 0) sp.at_
      omega
  | putF f =>
    cases b with
    | put sp' =>
      have := freN_set (h := 0) sp'.at_
      omega
    | putF f' => exact ⟨rfl, rfl⟩
  | putAll pv =>
    cases b with
    | putAll pv' =>
      obtain ⟨rfl, rfl⟩ := pv.one pv'
      exact ⟨rfl, rfl⟩
    | putAllF f =>
      have := pv.free.1
      omega
  | putAllF f =>
    cases b with
    | putAll pv =>
      have := pv.free.1
      omega
    | putAllF f' => exact ⟨rfl, rfl⟩
  | take h n =>
    cases b with
    | take h' n' => exact ⟨rfl, rfl⟩
    | takeO h' => exact absurd h h'
    | takeN h' n' => exact absurd n n'
  | takeO h =>
    cases b with
    | take h' n' => exact absurd h' h
    | takeO h' => exact ⟨rfl, rfl⟩
    | takeN h' n' => exact absurd h' h
  | takeN h n =>
    cases b with
    | take h' n' => exact absurd n' n
    | takeO h' => exact absurd h h'
    | takeN h' n' => exact ⟨rfl, rfl⟩
  | forget h =>
    cases b with
    | forget h' => exact ⟨rfl, rfl⟩
    | forgetO h' => exact absurd h h'
  | forgetO h =>
    cases b with
    | forget h' => exact absurd h' h
    | forgetO h' => exact ⟨rfl, rfl⟩
theorem EffR.noundo {s : SSt} {d : PyData} {o : Option SSt} (a : EffR s .undo d o) : False := nomatch a
theorem Eff.one {sts : List SSt} {w : Work} {d d' : PyData} {t t' : List SSt} (a : Eff sts w d t) (b : Eff sts w d' t') : d = d' ∧ t = t' := by
  cases a with
  | op l e =>
    cases b with
    | op l' e' =>
      rw [l] at l'
      cases l'
      obtain ⟨rfl, rfl⟩ := e.one e'
      exact ⟨rfl, rfl⟩
    | undo => exact e.noundo.elim
  | undo =>
    cases b with
    | op l' e' => exact e'.noundo.elim
    | undo => exact ⟨rfl, rfl⟩
/-- a work in the heap -/
def WkT (K : PySem.W.Frag) (H : Hp) (t : Addr) : Work → Prop
  | .put h => SqT K H t [.str "put", .int h]
  | .putAll hs => ∃ l, SqT K H t [.str "put_all", .ref l] ∧ H l = some (.lst (hs.map V.int)) ∧ hs.length ≤ 1000
  | .take z => SqT K H t [.str "take_out", .int z]
  | .forget z => SqT K H t [.str "forget", .int z]
  | .undo => SqT K H t [.str "undo"]
/-- a result: nothing of it stands at the addresses of no -/
inductive FlatR (K : PySem.W.Frag) (no : Addr → Prop) (H : Hp) : V → PyData → Prop
  | int (i : Int) : FlatR K no H (.int i) (.int i)
  | bl (b : Bool) : FlatR K no H (.bl b) (.bool b)
  | lst {c : Addr} {qs : List Int} (n : ¬ no c) (h : H c = some (.lst (qs.map V.int))) : FlatR K no H (.ref c) (.list (qs.map PyData.int))
  | tup {t : Addr} {m : Str} {x : Int} (h : SqT K H t [.str m, .int x]) : FlatR K no H (.ref t) (.tuple [.str m, .int x])
/-- all but the lists at the addresses of no, and the tables, stays -/
def StayP (no : Addr → Prop) (H H' : Hp) : Prop := (∀ a, no a → ∃ xs, H a = some (.lst xs)) ∧ ∀ b o, ¬ no b → H b = some o → (∀ ps, o ≠ .tbl ps) → H' b = some o
theorem stayP_tup {no : Addr → Prop} {H H' : Hp} {a : Addr} {zs : List V} (e : StayP no H H') (h : SqT K H a zs) : SqT K H' a zs := by
  rcases h with (h | ⟨o, h⟩) | h
  · exact .inl (.inl (e.2 _ _ (fun z => by obtain ⟨_, z⟩ := e.1 _ z; rw [z] at h; cases h) h (fun ps z => nomatch z)))
  · exact .inl (.inr ⟨o, e.2 _ _ (fun z => by obtain ⟨_, z⟩ := e.1 _ z; rw [z] at h; cases h) h (fun ps z => nomatch z)⟩)
  · exact .inr h
theorem FlatR.stay {no no' : Addr → Prop} {H H' : Hp} {v : V} {d : PyData} (h : FlatR K no H v d) (e : StayP no' H H') (hn : ∀ a, no' a → no a) : FlatR K no H' v d := by
  cases h with
  | int i => exact .int i
  | bl b => exact .bl b
  | lst n h => exact .lst n (e.2 _ _ (fun z => n (hn _ z)) h fun ps z => nomatch z)
  | tup h => exact .tup (stayP_tup e h)
theorem FlatR.dp {no : Addr → Prop} {H : Hp} {v : V} {d : PyData} (h : FlatR K no H v d) : Dp K H v d := by
  cases h with
  | int i => exact .int i
  | bl b => exact .bl b
  | lst n h => exact .lst (sqL h) (dp_ints _)
  | tup h => exact .tup h (.cons (.str _) (.cons (.int _) .nil))
theorem FlatR.imp {no no' : Addr → Prop} {H : Hp} {v : V} {d : PyData} (h : FlatR K no H v d) (hn : ∀ a, no' a → no a) : FlatR K no' H v d := by
  cases h with
  | int i => exact .int i
  | bl b => exact .bl b
  | lst n h => exact .lst (fun z => n (hn _ z)) h
  | tup h => exact .tup h
theorem Eff.no {sts : List SSt} {s : SSt} {w : Work} {d : PyData} (l : sts.getLast? = some s) (e : EffR s w d none) : Eff sts w d sts := by
  have := Eff.op l e
  rw [show (Option.toList (none : Option SSt)) = [] from rfl, List.append_nil] at this
  exact this
theorem Eff.yes {sts : List SSt} {s s' : SSt} {w : Work} {d : PyData} (l : sts.getLast? = some s) (e : EffR s w d (some s')) : Eff sts w d (sts ++ [s']) := Eff.op l e
def spPerform (K : PySem.W.Frag) (Ps : List Addr) (C : Addr) : Sp := fun vs H Q _ => ∃ (p ls le wk : Addr) (sts : List SSt) (evs : List (Str × Str)) (ys : List V) (q : List Int) (w : Work), vs = [.ref p, .ref wk] ∧ SAt K C H p ls le sts evs ∧ sts.getLast? = some (ys, q) ∧ sts.length ≤ 900 ∧ evs.length ≤ 900 ∧ ys.length ≤ 12 ∧ q.length ≤ 100 ∧ (∀ y ∈ ys, TabV ys.length y) ∧ TabsOk Ps nmL H ∧ WkT K H wk w ∧
  ∀ v d sts' H', StayS ls le H H' → TabsOk Ps nmL H' → Eff sts w d sts' → SAt K C H' p ls le sts' (evs ++ evP w.nm) → FlatR K (fun a => a = ls ∨ a = le ∨ ¬ NewT H a) H' v d → Q v H'
theorem ok_perform (T : Bt mg) (R : Er K mg) (S : St K mg) {Ps : List Addr} {f f2 c Pn : Addr} {fd fd2 : FuncData} (D : Df K mg "_law_perform" s_law_perform ["_law_store", "_law_work"] f fd) (L : DfC K "_law_perform" s_law_perform f fd c) (TB : LamX.TabB base mg c Pn) (hP : Pn ∈ Ps)
    (k_law_result : KnGv P w K mg base (20 + 1) "_law_result" s_law_result ["_law_work", "_law_found", "_law_caught", "error"] "_law_work" (TTres R) f2 fd2)
    (k_Store_put : KnMX P w K mg base 7 S.C_Store "put" "Store.put" s_Store_put ["self", "wish"] (spSPut K Ps S.C_Store R.C_Full) S.f_Store_put S.fd_Store_put) (k_Store_put_all : KnMX P w K mg base 7 S.C_Store "put_all" "Store.put_all" s_Store_put_all ["self", "wishes"] (spSPutAll K Ps S.C_Store R.C_Full) S.f_Store_put_all S.fd_Store_put_all)
    (k_Store_take_out : KnMX P w K mg base 6 S.C_Store "take_out" "Store.take_out" s_Store_take_out ["self", "cell"] (spSTake K Ps S.C_Store R.C_NoObject R.C_Needed) S.f_Store_take_out S.fd_Store_take_out) (k_Store_forget : KnMX P w K mg base 10 S.C_Store "forget" "Store.forget" s_Store_forget ["self", "cell"] (spSForget K Ps S.C_Store R.C_NoObject) S.f_Store_forget S.fd_Store_forget)
    (k_Store_undo : KnMX P w K mg base 2 S.C_Store "undo" "Store.undo" s_Store_undo ["self"] (spSUndo K Ps S.C_Store) S.f_Store_undo S.fd_Store_undo) : Kn P w K mg base 24 "_law_perform" s_law_perform ["_law_store", "_law_work"] (spPerform K Ps S.C_Store) f fd := by
  refine ⟨D, okC L sc_law_perform (fun vs H Q E h => ?_) (fun A outer s H vs Q E hr h => ?_)⟩
  · obtain ⟨p, ls, le, wk, sts, evs, ys, q0, w', rfl, _⟩ := h
    rfl
  obtain ⟨p, ls, le, wk, sts, evs, ys, q0, w', rfl, hS, hl, hz, he, hy, hq, tab, hT, hW, q⟩ := h
  refine ⟨_, (pss_cons (ps_if (pt_cmpR op_eq (pe_ix (ix_tupK (K := K) rfl) (pv 1) pe_int (fun _ _ => rfl)) pe_str (nomark _)) (pss_one (ps_ret (pe_giveL (Ps := Ps) (nm := nmL) (N := ["_law_store", "_law_work"]) (fr := ["_law_store", "_law_work"]) (js := [0, 1]) (k := 20) (a := "_law_work") k_law_result.D sc_law_result rfl (.inl rfl) (fun cdg => k_law_result.G _ _ cdg) (by rfl) TB rfl hP rfl rfl (NdefX.nscope_by (by decide +kernel)) (by show NdefX.ndefB (defScope s_law_perform) _ _ = true; decide +kernel) rfl (fun _ _ _ _ _ => rfl) (hr.mono (by omega)) (fun A outer s H E f c' hr => (pe_meth (pv 0) S.cl_Store k_Store_put.D.m k_Store_put.G (hr.mono (by omega)) k_Store_put.D.b .nil (passes_call takesN (fun _ _ _ _ h => h)) (pa_cons (pe_ix (ix_tupK (K := K) rfl) (pv 1) pe_int (fun _ _ => rfl)) pa_nil)))))) pss_nil)
      (pss_cons (ps_if (pt_cmpR op_eq (pe_ix (ix_tupK (K := K) rfl) (pv 1) pe_int (fun _ _ => rfl)) pe_str (nomark _)) (pss_cons (ps_set (i := 2) sc_law_perform.nd rfl (.inr rfl) (pe_ifExp (pt_cmpR op_eq (pe_op op_mod (pe_callB (call_lenK (K := K) rfl) (by rfl) T.len (by decide +kernel) (pa_cons (pe_ix (ix_tupK (K := K) rfl) (pv 1) pe_int (fun _ _ => rfl)) pa_nil)) pe_int) pe_int (nomark _)) (pe_callTy (call_listK (K := K) rfl) (by rfl) T.list (by decide +kernel) (pa_cons (pe_ix (ix_tupK (K := K) rfl) (pv 1) pe_int (fun _ _ => rfl)) pa_nil)) (pe_callTy (call_tupleK (K := K) rfl) (by rfl) T.tuple (by decide +kernel) (pa_cons (pe_ix (ix_tupK (K := K) rfl) (pv 1) pe_int (fun _ _ => rfl)) pa_nil))))
      (pss_one (ps_ret (pe_giveL (Ps := Ps) (nm := nmL) (N := ["_law_handed", "_law_store"]) (fr := ["_law_handed", "_law_store"]) (js := [2, 0]) (k := 20) (a := "_law_work") k_law_result.D sc_law_result rfl (.inl rfl) (fun cdg => k_law_result.G _ _ cdg) (by rfl) TB rfl hP rfl rfl (NdefX.nscope_by (by decide +kernel)) (by show NdefX.ndefB (defScope s_law_perform) _ _ = true; decide +kernel) rfl (fun _ _ _ _ _ => rfl) (hr.mono (by omega)) (fun A outer s H E f c' hr => (pe_meth (pv 1) S.cl_Store k_Store_put_all.D.m k_Store_put_all.G (hr.mono (by omega)) k_Store_put_all.D.b .nil (passes_call takesN (fun _ _ _ _ h => h)) (pa_cons (pv 0) pa_nil))))))) pss_nil)
      (pss_cons (ps_if (pt_cmpR op_eq (pe_ix (ix_tupK (K := K) rfl) (pv 1) pe_int (fun _ _ => rfl)) pe_str (nomark _)) (pss_one (ps_ret (pe_giveL (Ps := Ps) (nm := nmL) (N := ["_law_store", "_law_work"]) (fr := ["_law_store", "_law_work"]) (js := [0, 1]) (k := 20) (a := "_law_work") k_law_result.D sc_law_result rfl (.inl rfl) (fun cdg => k_law_result.G _ _ cdg) (by rfl) TB rfl hP rfl rfl (NdefX.nscope_by (by decide +kernel)) (by show NdefX.ndefB (defScope s_law_perform) _ _ = true; decide +kernel) rfl (fun _ _ _ _ _ => rfl) (hr.mono (by omega)) (fun A outer s H E f c' hr => (pe_meth (pv 0) S.cl_Store k_Store_take_out.D.m k_Store_take_out.G (hr.mono (by omega)) k_Store_take_out.D.b .nil (passes_call takesN (fun _ _ _ _ h => h)) (pa_cons (pe_ix (ix_tupK (K := K) rfl) (pv 1) pe_int (fun _ _ => rfl)) pa_nil)))))) pss_nil)
      (pss_one (ps_ret (pe_ifExp (pt_cmpR op_eq (pe_ix (ix_tupK (K := K) rfl) (pv 1) pe_int (fun _ _ => rfl)) pe_str (nomark _)) (pe_giveL (Ps := Ps) (nm := nmL) (N := ["_law_store", "_law_work"]) (fr := ["_law_store", "_law_work"]) (js := [0, 1]) (k := 20) (a := "_law_work") k_law_result.D sc_law_result rfl (.inl rfl) (fun cdg => k_law_result.G _ _ cdg) (by rfl) TB rfl hP rfl rfl (NdefX.nscope_by (by decide +kernel)) (by show NdefX.ndefB (defScope s_law_perform) _ _ = true; decide +kernel) rfl (fun _ _ _ _ _ => rfl) (hr.mono (by omega)) (fun A outer s H E f c' hr => (pe_meth (pv 0) S.cl_Store k_Store_forget.D.m k_Store_forget.G (hr.mono (by omega)) k_Store_forget.D.b .nil (passes_call takesN (fun _ _ _ _ h => h)) (pa_cons (pe_ix (ix_tupK (K := K) rfl) (pv 1) pe_int (fun _ _ => rfl)) pa_nil)))) (pe_meth0 (pv 0) S.cl_Store k_Store_undo.D.m k_Store_undo.G (hr.mono (by omega)) k_Store_undo.D.b .nil passL))))))), ?_⟩
  obtain ⟨dx, svs, es, hX⟩ := id hS
  cases w' with
  | put h =>
    refine ⟨_, rfl, wk, _, 0, _, rfl, rfl, hW, rfl, rfl, _, rfl, ite_yes (by decide +kernel) ?_⟩
    refine ⟨hT, fun H1 x1 T1 => fun H2 E Q' s2 hE hQ => ?_⟩
    have x2 := LamX.ExtN.trans x1 (ext_same s2)
    refine ⟨_, rfl, p, dx, _, rfl, (hX.ext x2).ins, rfl, _, rfl, wk, _, 1, _, rfl, rfl, ExtN.tup x2 hW, rfl, ?_⟩
    refine ⟨p, ls, le, sts, evs, ys, q0, h, rfl, hS.ext x2, hl, hz, he, by omega, hq, T1.ext s2, fun f0 d H3 z3 T3 S3 h3 => ?_, fun c H3 z3 T3 S3 sp => ?_⟩
    · exact hE _ _ _ ⟨R.C_Full, "Full", _, .int (ys.length : Int), rfl, (by unfold ErrK; first | exact .inl ⟨rfl, rfl, rfl⟩ | exact .inr (.inl ⟨rfl, rfl, rfl⟩) | exact .inr (.inr (.inl ⟨rfl, rfl, rfl⟩)) | exact .inr (.inr (.inr (.inl ⟨rfl, rfl, rfl⟩))) | exact .inr (.inr (.inr (.inr (.inl ⟨rfl, rfl, rfl⟩)))) | exact .inr (.inr (.inr (.inr (.inr (.inl ⟨rfl, rfl, rfl⟩))))) | exact .inr (.inr (.inr (.inr (.inr (.inr ⟨rfl, rfl, rfl⟩)))))), .inr ⟨d, rfl, h3⟩, fun p4 H4 s4 h4 => q (.ref p4) _ sts H4 (((StayS.of x2).trans z3).trans (.of (ext_same s4))) (T3.ext s4) (.no hl (.putF f0)) (S3.ext (ext_same s4)) (.tup (sqT h4))⟩
    · exact hQ _ _ (q _ _ _ H3 ((StayS.of x2).trans z3) T3 (.yes hl (.put sp)) S3 (.int _))
  | putAll hs =>
    obtain ⟨l, hW, hL, hl9⟩ := hW
    refine ⟨_, rfl, wk, _, 0, _, rfl, rfl, hW, rfl, rfl, _, rfl, ite_no (by decide +kernel) ?_⟩
    refine ⟨_, rfl, wk, _, 0, _, rfl, rfl, hW, rfl, rfl, _, rfl, ite_yes (by decide +kernel) ?_⟩
    refine asg_to (fun v H5 => Same H H5 ∧ ∃ b, v = .ref b ∧ H b = none ∧ Sq K H5 b (hs.map V.int) ∧ TrkN H5 b) (fun v H5 hv => ?_) (fun Q hQ => ?_)
    rotate_left
    · refine ⟨_, rfl, wk, _, 1, _, rfl, rfl, hW, rfl, l, _, rfl, .inl (sqL hL), _, _, rfl, rfl, (by show (0 : Int) < 2; decide), rfl, _, rfl, ?_⟩
      refine ite2 (fun hc => ?_) (fun hc => ?_)
      · refine ⟨_, rfl, wk, _, 1, _, rfl, rfl, hW, rfl, l, _, rfl, .inl (sqL hL), fun b nb => hQ _ _ ⟨same_upd nb, b, rfl, nb, sq_lst upd_same, trk_l upd_same⟩⟩
      · refine ⟨_, rfl, wk, _, 1, _, rfl, rfl, hW, rfl, l, _, rfl, .inl ⟨sqL hL, fun b nb => hQ _ _ ⟨same_upd nb, b, rfl, nb, .inr (sqT upd_same), trk_t upd_same⟩⟩⟩
    · obtain ⟨s0, b, rfl, nb, hB, tB⟩ := hv
      have nn := hS.nls nb
      refine ⟨hT.ext s0, fun H1 x1 T1 => fun H2 E Q' s2 hE hQ => ?_⟩
      have x12 := LamX.ExtN.trans x1 (ext_same s2)
      have x2 := LamX.ExtN.trans (ext_same s0) x12
      refine ⟨_, rfl, p, dx, _, rfl, (hX.ext x2).ins, rfl, _, rfl, ?_⟩
      refine ⟨p, ls, le, b, sts, evs, ys, q0, hs, rfl, hS.ext x2, hl, hz, he, by omega, hq, ext_sq x12 hB, nn.1, nn.2, trk_ext tB x12, T1.ext s2, fun f0 d H3 z3 T3 S3 h3 => ?_, fun c zs qs H3 z3 T3 S3 nc n1 n2 h3 pv => ?_⟩
      · exact hE _ _ _ ⟨R.C_Full, "Full", _, .int (ys.length : Int), rfl, (by unfold ErrK; first | exact .inl ⟨rfl, rfl, rfl⟩ | exact .inr (.inl ⟨rfl, rfl, rfl⟩) | exact .inr (.inr (.inl ⟨rfl, rfl, rfl⟩)) | exact .inr (.inr (.inr (.inl ⟨rfl, rfl, rfl⟩))) | exact .inr (.inr (.inr (.inr (.inl ⟨rfl, rfl, rfl⟩)))) | exact .inr (.inr (.inr (.inr (.inr (.inl ⟨rfl, rfl, rfl⟩))))) | exact .inr (.inr (.inr (.inr (.inr (.inr ⟨rfl, rfl, rfl⟩)))))), .inr ⟨d, rfl, h3⟩, fun p4 H4 s4 h4 => q (.ref p4) _ sts H4 (((StayS.of x2).trans z3).trans (.of (ext_same s4))) (T3.ext s4) (.no hl (.putAllF f0)) (S3.ext (ext_same s4)) (.tup (sqT h4))⟩
      · refine hQ _ _ (q _ _ _ H3 ((StayS.of x2).trans z3) T3 (.yes hl (.putAll pv)) S3 (.lst (fun z => ?_) h3))
        rcases z with z | z | z
        · exact n1 z
        · exact n2 z
        · exact z fun o ho => by
            false_or_by_contra
            rename_i hh
            obtain ⟨ps, e⟩ := nc o (x2 _ _ ho fun ps e => hh ⟨ps, e⟩)
            exact hh ⟨ps, e⟩
  | take z =>
    refine ⟨_, rfl, wk, _, 0, _, rfl, rfl, hW, rfl, rfl, _, rfl, ite_no (by decide +kernel) ?_⟩
    refine ⟨_, rfl, wk, _, 0, _, rfl, rfl, hW, rfl, rfl, _, rfl, ite_no (by decide +kernel) ?_⟩
    refine ⟨_, rfl, wk, _, 0, _, rfl, rfl, hW, rfl, rfl, _, rfl, ite_yes (by decide +kernel) ?_⟩
    refine ⟨hT, fun H1 x1 T1 => fun H2 E Q' s2 hE hQ => ?_⟩
    have x2 := LamX.ExtN.trans x1 (ext_same s2)
    refine ⟨_, rfl, p, dx, _, rfl, (hX.ext x2).ins, rfl, _, rfl, wk, _, 1, _, rfl, rfl, ExtN.tup x2 hW, rfl, ?_⟩
    refine ⟨p, ls, le, sts, evs, ys, q0, z, rfl, hS.ext x2, hl, hz, he, by omega, hq, tab, T1.ext s2, fun h0 d H3 z3 T3 S3 h3 => ?_, fun h0 h1 d H3 z3 T3 S3 h3 => ?_, fun h0 h1 H3 z3 T3 S3 => ?_⟩
    · exact hE _ _ _ ⟨R.C_NoObject, "NoObject", _, .int z, rfl, (by unfold ErrK; first | exact .inl ⟨rfl, rfl, rfl⟩ | exact .inr (.inl ⟨rfl, rfl, rfl⟩) | exact .inr (.inr (.inl ⟨rfl, rfl, rfl⟩)) | exact .inr (.inr (.inr (.inl ⟨rfl, rfl, rfl⟩))) | exact .inr (.inr (.inr (.inr (.inl ⟨rfl, rfl, rfl⟩)))) | exact .inr (.inr (.inr (.inr (.inr (.inl ⟨rfl, rfl, rfl⟩))))) | exact .inr (.inr (.inr (.inr (.inr (.inr ⟨rfl, rfl, rfl⟩)))))), .inr ⟨d, rfl, h3⟩, fun p4 H4 s4 h4 => q (.ref p4) _ sts H4 (((StayS.of x2).trans z3).trans (.of (ext_same s4))) (T3.ext s4) (.no hl (.takeO h0)) (S3.ext (ext_same s4)) (.tup (sqT h4))⟩
    · exact hE _ _ _ ⟨R.C_Needed, "Needed", _, .int z, rfl, (by unfold ErrK; first | exact .inl ⟨rfl, rfl, rfl⟩ | exact .inr (.inl ⟨rfl, rfl, rfl⟩) | exact .inr (.inr (.inl ⟨rfl, rfl, rfl⟩)) | exact .inr (.inr (.inr (.inl ⟨rfl, rfl, rfl⟩))) | exact .inr (.inr (.inr (.inr (.inl ⟨rfl, rfl, rfl⟩)))) | exact .inr (.inr (.inr (.inr (.inr (.inl ⟨rfl, rfl, rfl⟩))))) | exact .inr (.inr (.inr (.inr (.inr (.inr ⟨rfl, rfl, rfl⟩)))))), .inr ⟨d, rfl, h3⟩, fun p4 H4 s4 h4 => q (.ref p4) _ sts H4 (((StayS.of x2).trans z3).trans (.of (ext_same s4))) (T3.ext s4) (.no hl (.takeN h0 h1)) (S3.ext (ext_same s4)) (.tup (sqT h4))⟩
    · exact hQ _ _ (q _ _ _ H3 ((StayS.of x2).trans z3) T3 (.yes hl (.take h0 h1)) S3 (.int _))
  | forget z =>
    refine ⟨_, rfl, wk, _, 0, _, rfl, rfl, hW, rfl, rfl, _, rfl, ite_no (by decide +kernel) ?_⟩
    refine ⟨_, rfl, wk, _, 0, _, rfl, rfl, hW, rfl, rfl, _, rfl, ite_no (by decide +kernel) ?_⟩
    refine ⟨_, rfl, wk, _, 0, _, rfl, rfl, hW, rfl, rfl, _, rfl, ite_no (by decide +kernel) ?_⟩
    refine ⟨_, rfl, wk, _, 0, _, rfl, rfl, hW, rfl, rfl, _, rfl, ite_yes (by decide +kernel) ?_⟩
    refine ⟨hT, fun H1 x1 T1 => fun H2 E Q' s2 hE hQ => ?_⟩
    have x2 := LamX.ExtN.trans x1 (ext_same s2)
    refine ⟨_, rfl, p, dx, _, rfl, (hX.ext x2).ins, rfl, _, rfl, wk, _, 1, _, rfl, rfl, ExtN.tup x2 hW, rfl, ?_⟩
    refine ⟨p, ls, le, sts, evs, ys, q0, z, rfl, hS.ext x2, hl, hz, he, hy, hq, tab, T1.ext s2, fun h0 d H3 z3 T3 S3 h3 => ?_, fun h0 H3 z3 T3 S3 => ?_⟩
    · exact hE _ _ _ ⟨R.C_NoObject, "NoObject", _, .int z, rfl, (by unfold ErrK; first | exact .inl ⟨rfl, rfl, rfl⟩ | exact .inr (.inl ⟨rfl, rfl, rfl⟩) | exact .inr (.inr (.inl ⟨rfl, rfl, rfl⟩)) | exact .inr (.inr (.inr (.inl ⟨rfl, rfl, rfl⟩))) | exact .inr (.inr (.inr (.inr (.inl ⟨rfl, rfl, rfl⟩)))) | exact .inr (.inr (.inr (.inr (.inr (.inl ⟨rfl, rfl, rfl⟩))))) | exact .inr (.inr (.inr (.inr (.inr (.inr ⟨rfl, rfl, rfl⟩)))))), .inr ⟨d, rfl, h3⟩, fun p4 H4 s4 h4 => q (.ref p4) _ sts H4 (((StayS.of x2).trans z3).trans (.of (ext_same s4))) (T3.ext s4) (.no hl (.forgetO h0)) (S3.ext (ext_same s4)) (.tup (sqT h4))⟩
    · exact hQ _ _ (q _ _ _ H3 ((StayS.of x2).trans z3) T3 (.yes hl (.forget h0)) S3 (.int _))
  | undo =>
    refine ⟨_, rfl, wk, _, 0, _, rfl, rfl, hW, rfl, rfl, _, rfl, ite_no (by decide +kernel) ?_⟩
    refine ⟨_, rfl, wk, _, 0, _, rfl, rfl, hW, rfl, rfl, _, rfl, ite_no (by decide +kernel) ?_⟩
    refine ⟨_, rfl, wk, _, 0, _, rfl, rfl, hW, rfl, rfl, _, rfl, ite_no (by decide +kernel) ?_⟩
    refine ⟨_, rfl, wk, _, 0, _, rfl, rfl, hW, rfl, rfl, _, rfl, ite_no (by decide +kernel) ?_⟩
    refine ⟨_, rfl, p, dx, _, rfl, hX.ins, rfl, p, ls, le, sts, evs, rfl, hS, ?_, hz, he, hT, fun H3 z3 T3 S3 => ?_⟩
    · cases sts with
      | nil => cases hl
      | cons => exact Nat.succ_le_succ (Nat.zero_le _)
    · exact q _ _ _ H3 z3 T3 .undo S3 (.bl _)

/-! ### displays of written values; method calls of a store -/
mutual
inductive LitE : TE → PyData → Prop
  | int (i : Int) : LitE (tC (.int i)) (.int i)
  | str (x : Str) : LitE (tC (.str x)) (.str x)
  | non : LitE (tC .non) .none
  | bl (b : Bool) : LitE (tC (.bl b)) (.bool b)
  | lst {t : TA} {ds : List PyData} (h : LitA t ds) (hz : ds.length ≤ 1000) : LitE (tLst t) (.list ds)
  | tup {t : TA} {ds : List PyData} (h : LitA t ds) (hz : ds.length ≤ 1000) : LitE (tTup t) (.tuple ds)
inductive LitA : TA → List PyData → Prop
  | nil : LitA tNil []
  | cons {te : TE} {t : TA} {d : PyData} {ds : List PyData} (h : LitE te d) (r : LitA t ds) : LitA (tCons te t) (d :: ds)
end
theorem dpA_len {H : Hp} : ∀ {vs : List V} {ds : List PyData}, DpAll K H vs ds → vs.length = ds.length
  | _, _, .nil => rfl
  | _, _, .cons _ b => congrArg (· + 1) (dpA_len b)
mutual
theorem lit_to {te : TE} {d : PyData} (h : LitE te d) {σ : L2.St} {H : Hp} {Q : VK} (q : ∀ v H', Same H H' → Dp K H' v d → Q v H') : te σ H Q := by
  cases h with
  | int i => exact q _ _ (Same.refl _) (.int i)
  | str x => exact q _ _ (Same.refl _) (.str x)
  | non => exact q _ _ (Same.refl _) .non
  | bl b => exact q _ _ (Same.refl _) (.bl b)
  | lst h hz =>
    refine litA_to h fun vs H1 s1 d1 => ⟨small1000 (by rw [dpA_len d1]; omega) |> Nat.le_of_lt, fun p hp => ?_⟩
    have s2 := same_upd (o := .lst vs) hp
    exact q _ _ (s1.trans s2) (.lst (sqL upd_same) (dp_extA (ext_same s2) d1))
  | tup h hz =>
    refine litA_to h fun vs H1 s1 d1 => ⟨small1000 (by rw [dpA_len d1]; omega) |> Nat.le_of_lt, fun p hp => ?_⟩
    have s2 := same_upd (o := .tup vs) hp
    exact q _ _ (s1.trans s2) (.tup (sqT upd_same) (dp_extA (ext_same s2) d1))
theorem litA_to {t : TA} {ds : List PyData} (h : LitA t ds) {σ : L2.St} {H : Hp} {Q : List V → Hp → Prop} (q : ∀ vs H', Same H H' → DpAll K H' vs ds → Q vs H') : t σ H Q := by
  cases h with
  | nil => exact q [] H (Same.refl _) .nil
  | cons h r =>
    refine lit_to h fun v H1 s1 d1 => ?_
    refine litA_to r fun vs H2 s2 d2 => ?_
    exact q (v :: vs) H2 (s1.trans s2) (.cons (dp_ext (ext_same s2) d1) d2)
end
/-- a method of a store -/
theorem self_to {C x ls le : Addr} {sts : List SSt} {evs : List (Str × Str)} {m : Str} {sp : Sp} {E : XK} {t : TA} {i : Nat} {σ : L2.St} {H : Hp} {Q : VK} (h0 : σ[i]? = some (some (.ref x))) (hS : SAt K C H x ls le sts evs) (hm : (stF ls le).lookup m = none)
    (h : t σ H fun vs H2 => sp (.ref x :: (vs ++ [])) H2 Q E) : tMeth C m sp [] E (tVar i) t σ H Q := by
  obtain ⟨dx, svs, es, hX⟩ := hS
  exact ⟨_, h0, x, dx, _, rfl, hX.ins, hm, h⟩
theorem ext_stayS {ls le : Addr} {H H1 H2 : Hp} (e : LamX.ExtN H H1) (z : StayS ls le H1 H2) (n1 : H ls = none) (n2 : H le = none) : LamX.ExtN H H2 := fun b o hb t => z b o (ne_of_none hb n1) (ne_of_none hb n2) (e b o hb t) t
mutual
def noL : PyData → Bool
  | .list _ => false
  | .tuple ds => noLs ds
  | .none => true
  | .int _ => true
  | .str _ => true
  | .bool _ => true
  | _ => false
def noLs : List PyData → Bool
  | [] => true
  | d :: ds => noL d && noLs ds
end
mutual
theorem dp_noL {no : Addr → Prop} {H H' : Hp} (z : StayP no H H') : ∀ {v : V} {d : PyData}, Dp K H v d → noL d = true → Dp K H' v d
  | _, _, .non, _ => .non
  | _, _, .bl b, _ => .bl b
  | _, _, .int i, _ => .int i
  | _, _, .str x, _ => .str x
  | _, _, .lst h a, n => by
    rw [noL] at n
    cases n
  | _, _, .tup h a, n => .tup (stayP_tup z h) (dp_noLs z a (by rw [noL] at n; exact n))
theorem dp_noLs {no : Addr → Prop} {H H' : Hp} (z : StayP no H H') : ∀ {vs : List V} {ds : List PyData}, DpAll K H vs ds → noLs ds = true → DpAll K H' vs ds
  | _, _, .nil, _ => .nil
  | _, _, .cons a b, n => by
    rw [noLs, Bool.and_eq_true] at n
    exact .cons (dp_noL z a n.1) (dp_noLs z b n.2)
end
theorem SAt.stayP {C x ls le : Addr} {sts : List SSt} {evs : List (Str × Str)} {H H' : Hp} (h : SAt K C H x ls le sts evs) (z : StayS ls le H H') : StayP (fun a => a = ls ∨ a = le) H H' := by
  obtain ⟨dx, svs, es, hX⟩ := h
  refine ⟨fun a ha => ?_, fun b o nb hb ht => z b o (fun e => nb (.inl e)) (fun e => nb (.inr e)) hb ht⟩
  rcases ha with rfl | rfl
  · exact ⟨_, hX.gs⟩
  · exact ⟨_, hX.ge⟩
theorem stayP_upd {D : Addr} {xs : List V} {H : Hp} (h : H D = some (.lst xs)) (o : HO) : StayP (fun a => a = D) H (upd H D o) := ⟨fun a ha => ⟨xs, by rw [ha]; exact h⟩, fun b u nb hb _ => (upd_ne nb).trans hb⟩
/-- another list is changed -/
theorem SAt.upd {C x ls le D : Addr} {sts : List SSt} {evs : List (Str × Str)} {H : Hp} {xs : List V} {o : HO} (h : SAt K C H x ls le sts evs) (hD : H D = some (.lst xs)) (n1 : D ≠ ls) (n2 : D ≠ le) : SAt K C (upd H D o) x ls le sts evs := by
  obtain ⟨dx, svs, es, hX⟩ := h
  have z := stayP_upd hD o
  refine ⟨dx, svs, es, ?_, (upd_ne n1.symm).trans hX.gs, (upd_ne n2.symm).trans hX.ge, hX.ne, hX.ss.imp fun v s h => ?_, hX.ee.imp fun v e h => ?_⟩
  · rw [upd_ne (fun z => by have := hX.ins; rw [z, hD] at this; cases this)]
    exact hX.ins
  · obtain ⟨t, p, q, rfl, a1, a2, a3⟩ := h
    exact ⟨t, p, q, rfl, stayP_tup z a1, stayP_tup z a2, stayP_tup z a3⟩
  · obtain ⟨t, rfl, a1⟩ := h
    exact ⟨t, rfl, stayP_tup z a1⟩
/-- a work, nothing of it at the addresses of no -/
def WkN (K : PySem.W.Frag) (no : Addr → Prop) (H : Hp) (t : Addr) : Work → Prop
  | .putAll hs => ∃ l, ¬ no l ∧ SqT K H t [.str "put_all", .ref l] ∧ H l = some (.lst (hs.map V.int)) ∧ hs.length ≤ 1000
  | w => WkT K H t w
theorem WkN.t {no : Addr → Prop} {H : Hp} {t : Addr} {w : Work} (h : WkN K no H t w) : WkT K H t w := by
  cases w with
  | putAll hs =>
    obtain ⟨l, _, h⟩ := h
    exact ⟨l, h⟩
  | _ => exact h
theorem WkN.stay {no no' : Addr → Prop} {H H' : Hp} {t : Addr} {w : Work} (h : WkN K no H t w) (z : StayP no' H H') (hn : ∀ a, no' a → no a) : WkN K no H' t w := by
  cases w with
  | putAll hs =>
    obtain ⟨l, n, h1, h2, h3⟩ := h
    exact ⟨l, n, stayP_tup z h1, z.2 _ _ (fun e => n (hn _ e)) h2 fun ps z => (nomatch z), h3⟩
  | put h' => exact stayP_tup z h
  | take z' => exact stayP_tup z h
  | forget z' => exact stayP_tup z h
  | undo => exact stayP_tup z h
theorem WkN.new {no : Addr → Prop} {H : Hp} {t D : Addr} {w : Work} (h : WkN K no H t w) (nD : H D = none) : WkN K (fun a => no a ∨ a = D) H t w := by
  cases w with
  | putAll hs =>
    obtain ⟨l, n, h1, h2, h3⟩ := h
    refine ⟨l, ?_, h1, h2, h3⟩
    rintro (e | e)
    · exact n e
    · rw [e, nD] at h2
      cases h2
  | _ => exact h
theorem dp_bl {H : Hp} {a b : Bool} (h : a = b) : Dp K H (.bl a) (.bool b) := by
  subst h
  exact .bl _
/-- a list of written values -/
theorem lst_to {t : TA} {ds : List PyData} (h : LitA t ds) (hz : ds.length ≤ 1000) {σ : L2.St} {H : Hp} {Q : VK} (q : ∀ L vs H', Same H H' → H L = none → H' L = some (.lst vs) → DpAll K H' vs ds → Q (.ref L) H') : tLst t σ H Q := by
  refine litA_to (K := K) h fun vs H1 s1 d1 => ⟨Nat.le_of_lt (small1000 (by rw [dpA_len d1]; omega)), fun p hp => ?_⟩
  have s2 := same_upd (o := .lst vs) hp
  exact q _ vs _ (s1.trans s2) (s1.free hp) upd_same (dp_extA (ext_same s2) d1)
theorem dp_nat {H : Hp} {a b : Nat} (h : a = b) : Dp K H (.int ((a : Nat) : Int)) (.int ((b : Nat) : Int)) := by
  subst h
  exact .int _
theorem dp_str {H : Hp} {a b : Str} (h : a = b) : Dp K H (.str a) (.str b) := by
  subst h
  exact .str _
theorem made_same {C x dx : Addr} {H H2 : Hp} (nx : H x = none) (nd : H dx = none) (k : ∀ b o, b ≠ x → (upd (upd H dx (.own x)) x (.ins C dx [])) b = some o → H2 b = some o) : Same H H2 := fun b o hb =>
  k b o (ne_of_none hb nx) (by rw [upd_ne (ne_of_none hb nx), upd_ne (ne_of_none hb nd)]; exact hb)
theorem made_back {C x dx l : Addr} {H : Hp} (h : (upd (upd H dx (.own x)) x (.ins C dx [])) l = none) : H l = none := by
  by_cases e1 : l = x
  · rw [e1, upd_same] at h
    cases h
  · rw [upd_ne e1] at h
    by_cases e2 : l = dx
    · rw [e2, upd_same] at h
      cases h
    · rw [upd_ne e2] at h
      exact h
def evD (e : Str × Str) : PyData := .tuple [.str e.1, .str e.2]
theorem ev_dp {H : Hp} {vs : List V} {evs : List (Str × Str)} (h : All2 (EvT K H) vs evs) : DpAll K H vs (evs.map evD) := by
  induction h with
  | nil => exact .nil
  | cons h _ ih =>
    obtain ⟨t, rfl, ht⟩ := h
    exact .cons (.tup ht (.cons (.str _) (.cons (.str _) .nil))) ih
theorem flat_dp {no : Addr → Prop} {H : Hp} {vs : List V} {ds : List PyData} (h : All2 (FlatR K no H) vs ds) : DpAll K H vs ds := by
  induction h with
  | nil => exact .nil
  | cons h _ ih => exact .cons h.dp ih
/-- an undo -/
theorem undo_to {Ps : List Addr} {C x ls le : Addr} {sts : List SSt} {evs : List (Str × Str)} {i : Nat} {σ : L2.St} {H : Hp} {Q : VK} (h0 : σ[i]? = some (some (.ref x))) (hS : SAt K C H x ls le sts evs) (hT : TabsOk Ps nmL H) (h1 : 1 ≤ sts.length) (h2 : sts.length ≤ 900) (h3 : evs.length ≤ 900)
    (q : ∀ H', StayS ls le H H' → TabsOk Ps nmL H' → SAt K C H' x ls le (if sts.length = 1 then sts else sts.dropLast) (evs ++ evP "undo") → Q (.bl (decide (sts.length ≠ 1))) H') : tMeth C "undo" (spSUndo K Ps C) [] E0 (tVar i) tNil σ H Q :=
  self_to h0 hS rfl ⟨x, ls, le, sts, evs, rfl, hS, h1, h2, h3, hT, q⟩

/-! ### _law_holds (k38) -/
/-! ### entries of tables as data -/
def tabD : V → PyData
  | .non => .none
  | .int i => .int i
  | .str x => .str x
  | _ => .none
theorem tab_dp {K : PySem.W.Frag} {H : Hp} {n : Nat} : ∀ {ys : List V}, (∀ y ∈ ys, TabV n y) → DpAll K H ys (ys.map tabD)
  | [], _ => .nil
  | y :: ys, h => by
    refine .cons ?_ (tab_dp fun z hz => h z (List.mem_cons_of_mem _ hz))
    rcases h y (List.mem_cons_self ..) with rfl | rfl | ⟨i, rfl, _⟩
    · exact .non
    · exact .str _
    · exact .int _
theorem tab_sm {n : Nat} {y : V} (h : TabV n y) (hn : n ≤ 8) : Sm 0 4 8 (tabD y) := by
  rcases h with rfl | rfl | ⟨i, rfl, hi⟩
  · exact sm_of (by decide +kernel)
  · exact sm_of (by decide +kernel)
  · have h8 : ∀ j : Fin 8, smB 0 4 8 (.int ((j : Nat) : Int)) = true := by decide +kernel
    exact sm_of (h8 ⟨i, by omega⟩)

def t0_38 : List V := List.replicate 5 .non
def t1_38 : List V := [.non, .int 2, .int 2, .int 2, .non]
def t2_38 : List V := [.int 0, .int 2, .int 2, .int 2, .non]
def t3_38 : List V := [.int 0, .int 2, .int 2, .str "?", .non]
def t4_38 : List V := [.int 0, .int 2, .int 2, .non, .non]
def t5_38 : List V := [.int 0, .int 2, .int 2, .int 3, .non]
def tabC (n : Nat) : V → Bool
  | .non => true
  | .int i => decide (0 ≤ i) && decide (i < (n : Int))
  | v => decide (v = .str "?")
theorem tabC_all {ys : List V} (h : ys.all (tabC ys.length) = true) : ∀ y ∈ ys, TabV ys.length y := fun y hy => by
  have := List.all_eq_true.mp h y hy
  cases y with
  | non => exact .inl rfl
  | int i =>
    have h2 : 0 ≤ i ∧ i < (ys.length : Int) := by simpa [tabC] using this
    exact .inr (.inr ⟨i.toNat, by rw [Int.toNat_of_nonneg h2.1], by omega⟩)
  | str x => exact .inr (.inl (of_decide_eq_true this))
  | _ => exact .inr (.inl (of_decide_eq_true this))
theorem put38 : PutV t0_38 [2, 2, 2] t1_38 [2, 1, 3] := by
  have a1 : PutV t0_38 [2] [.non, .non, .int 2, .non, .non] [2] := (PutV.nil t0_38).snoc (h := 2) (c := 2) (nspot_by rfl (by decide +kernel))
  have a2 : PutV t0_38 [2, 2] [.non, .int 2, .int 2, .non, .non] [2, 1] := a1.snoc (h := 2) (c := 1) (nspot_by rfl (by decide +kernel))
  exact a2.snoc (h := 2) (c := 3) (nspot_by rfl (by decide +kernel))
def nam38 : List Str := ["put_all", "put", "forget", "take_out", "take_out", "take_out", "forget", "put", "put_all", "undo", "put_all", "undo", "undo", "undo", "undo", "undo", "undo"]
theorem evf_len : ∀ l : List Str, ((l.map evP).flatten).length = 2 * l.length
  | [] => rfl
  | x :: l => by
    rw [List.map_cons, List.flatten_cons, List.length_append, evf_len l, List.length_cons]
    show 2 + 2 * l.length = _
    omega
def sts38 : List SSt := [(t0_38, []), (t1_38, [2, 1, 3]), (t2_38, [2, 1, 3, 0]), (t3_38, [2, 1, 3, 0])]
def wks38 : List Work := [.take 2, .take 4, .take 3, .forget 3, .put 3, .putAll [1, 1], .undo]
def dss38 : List PyData := [.tuple [.str "Needed", .int 2], .tuple [.str "NoObject", .int 4], .int 3, .tuple [.str "NoObject", .int 3], .int 3, .tuple [.str "Full", .int 5], .bool true]
def stn38 : Nat → List SSt
  | 0 => sts38
  | 1 => sts38
  | 2 => sts38
  | 3 => sts38 ++ [(t4_38, [2, 1, 0])]
  | 4 => sts38 ++ [(t4_38, [2, 1, 0])]
  | 5 => sts38 ++ [(t4_38, [2, 1, 0]), (t5_38, [2, 1, 0, 3])]
  | 6 => sts38 ++ [(t4_38, [2, 1, 0]), (t5_38, [2, 1, 0, 3])]
  | _ => sts38 ++ [(t4_38, [2, 1, 0])]
def evn38 (i : Nat) : List (Str × Str) := ((wks38.take i).map fun w => evP w.nm).flatten
theorem step38 : ∀ (i : Nat) (w : Work), wks38[i]? = some w → ∃ d, dss38[i]? = some d ∧ Eff (stn38 i) w d (stn38 (i + 1)) ∧ ∃ ys q, (stn38 i).getLast? = some (ys, q) ∧ ys.length ≤ 12 ∧ q.length ≤ 100 ∧ (∀ y ∈ ys, TabV ys.length y) ∧ (stn38 i).length ≤ 900
  | 0, w, h => by
    obtain rfl := Option.some.inj h
    exact ⟨_, rfl, .no (s := (t3_38, [2, 1, 3, 0])) rfl (.takeN (by decide +kernel) (by decide +kernel)), t3_38, [2, 1, 3, 0], rfl, by decide, by decide, tabC_all (by decide +kernel), by decide⟩
  | 1, w, h => by
    obtain rfl := Option.some.inj h
    exact ⟨_, rfl, .no (s := (t3_38, [2, 1, 3, 0])) rfl (.takeO (by decide +kernel)), t3_38, [2, 1, 3, 0], rfl, by decide, by decide, tabC_all (by decide +kernel), by decide⟩
  | 2, w, h => by
    obtain rfl := Option.some.inj h
    exact ⟨_, rfl, .yes (s := (t3_38, [2, 1, 3, 0])) (s' := (t4_38, [2, 1, 0])) rfl (.take (by decide +kernel) (by decide +kernel)), t3_38, [2, 1, 3, 0], rfl, by decide, by decide, tabC_all (by decide +kernel), by decide⟩
  | 3, w, h => by
    obtain rfl := Option.some.inj h
    exact ⟨_, rfl, .no (s := (t4_38, [2, 1, 0])) rfl (.forgetO (by decide +kernel)), t4_38, [2, 1, 0], rfl, by decide, by decide, tabC_all (by decide +kernel), by decide⟩
  | 4, w, h => by
    obtain rfl := Option.some.inj h
    exact ⟨_, rfl, .yes (s := (t4_38, [2, 1, 0])) (s' := (t5_38, [2, 1, 0, 3])) rfl (.put (c := 3) (nspot_by rfl (by decide +kernel))), t4_38, [2, 1, 0], rfl, by decide, by decide, tabC_all (by decide +kernel), by decide⟩
  | 5, w, h => by
    obtain rfl := Option.some.inj h
    exact ⟨_, rfl, .no (s := (t5_38, [2, 1, 0, 3])) rfl (.putAllF (by decide +kernel)), t5_38, [2, 1, 0, 3], rfl, by decide, by decide, tabC_all (by decide +kernel), by decide⟩
  | 6, w, h => by
    obtain rfl := Option.some.inj h
    exact ⟨_, rfl, Eff.undo, t5_38, [2, 1, 0, 3], rfl, by decide, by decide, tabC_all (by decide +kernel), by decide⟩
  | i + 7, w, h => by
    have : i + 7 < 7 := (List.getElem?_eq_some_iff.mp h).1
    omega
theorem evn_succ {i : Nat} {w : Work} (h : wks38[i]? = some w) : evn38 (i + 1) = evn38 i ++ evP w.nm := by
  unfold evn38
  rw [List.take_succ, h, List.map_append, List.flatten_append]
  simp
theorem evn_len (i : Nat) : (evn38 i).length ≤ 14 := by
  have h : ∀ i : Fin 8, (evn38 i.val).length ≤ 14 := by decide +kernel
  by_cases hi : i < 8
  · exact h ⟨i, hi⟩
  · have e : evn38 i = evn38 7 := by
      unfold evn38
      rw [List.take_of_length_le (by show 7 ≤ i; omega), List.take_of_length_le (by decide)]
    rw [e]
    exact h ⟨7, by omega⟩
def spHoldsT (Ps : List Addr) : Sp := fun vs H Q _ => ∃ (s : Addr) (b : Nat), vs = [.ref s] ∧ Src H s (b + 400) ∧ TabsOk Ps nmL H ∧ ∀ H', StayN s H H' → Src H' s b → TabsOk Ps nmL H' → Q (.bl true) H'
theorem ok_holds (T : Bt mg) (R : Er K mg) (S : St K mg) {Ps : List Addr} {f f3 f4 : Addr} {fd fd3 fd4 : FuncData} (D : Df K mg "_law_holds" s_law_holds ["_law_source_here"] f fd)
    (k_law_equal : Kn P w K mg base 5 "_law_equal" s_law_equal ["_law_found", "_law_due"] (spEqual K 5) f3 fd3) (k_law_perform : Kn P w K mg base 24 "_law_perform" s_law_perform ["_law_store", "_law_work"] (spPerform K Ps S.C_Store) f4 fd4)
    (k_Store___init__ : KnM P w K mg base 1 S.C_Store "__init__" "Store.__init__" s_Store___init__ ["self", "size"] (spSInit K S.C_Store) S.f_Store___init__ S.fd_Store___init__) (k_Store_table : KnM P w K mg base 1 S.C_Store "table" "Store.table" s_Store_table ["self"] (spSTable K S.C_Store) S.f_Store_table S.fd_Store_table) (k_Store_order : KnM P w K mg base 1 S.C_Store "order" "Store.order" s_Store_order ["self"] (spSOrder K S.C_Store) S.f_Store_order S.fd_Store_order)
    (k_Store_operations : KnM P w K mg base 1 S.C_Store "operations" "Store.operations" s_Store_operations ["self"] (spSOps K S.C_Store) S.f_Store_operations S.fd_Store_operations) (k_Store_count : KnM P w K mg base 10 S.C_Store "count" "Store.count" s_Store_count ["self"] (spSCount K S.C_Store) S.f_Store_count S.fd_Store_count) (k_Store_histories : KnM P w K mg base 7 S.C_Store "histories" "Store.histories" s_Store_histories ["self"] (spSHist K S.C_Store) S.f_Store_histories S.fd_Store_histories)
    (k_Store_journal : KnM P w K mg base 1 S.C_Store "journal" "Store.journal" s_Store_journal ["self"] (spSJournal K S.C_Store) S.f_Store_journal S.fd_Store_journal) (k_Store___len__ : KnM P w K mg base 2 S.C_Store "__len__" "Store.__len__" s_Store___len__ ["self"] (spSLen K S.C_Store) S.f_Store___len__ S.fd_Store___len__) (k_Store___repr__ : KnM P w K mg base 2 S.C_Store "__repr__" "Store.__repr__" s_Store___repr__ ["self"] (spSRepr K S.C_Store) S.f_Store___repr__ S.fd_Store___repr__)
    (k_Store_put : KnMX P w K mg base 7 S.C_Store "put" "Store.put" s_Store_put ["self", "wish"] (spSPut K Ps S.C_Store R.C_Full) S.f_Store_put S.fd_Store_put) (k_Store_put_all : KnMX P w K mg base 7 S.C_Store "put_all" "Store.put_all" s_Store_put_all ["self", "wishes"] (spSPutAll K Ps S.C_Store R.C_Full) S.f_Store_put_all S.fd_Store_put_all)
    (k_Store_forget : KnMX P w K mg base 10 S.C_Store "forget" "Store.forget" s_Store_forget ["self", "cell"] (spSForget K Ps S.C_Store R.C_NoObject) S.f_Store_forget S.fd_Store_forget) (k_Store_undo : KnMX P w K mg base 2 S.C_Store "undo" "Store.undo" s_Store_undo ["self"] (spSUndo K Ps S.C_Store) S.f_Store_undo S.fd_Store_undo)
    (k_Store_as_of : KnMX P w K mg base 3 S.C_Store "as_of" "Store.as_of" s_Store_as_of ["self", "many"] (spSAsOf K Ps S.C_Store R.C_NoState) S.f_Store_as_of S.fd_Store_as_of) : FnOkG P w K mg base 30 f fd ["_law_source_here"] (spHoldsT Ps) := by
  refine okG D.F sc_law_holds (fun vs H Q E h => ?_) (fun cdv A outer s H vs Q E hgd hr h => ?_)
  · obtain ⟨s', b0, rfl, _⟩ := h
    rfl
  obtain ⟨s', b0, rfl, hsrc, hT, q0⟩ := h
  have q : ∀ H', LamX.ExtN H H' → TabsOk Ps nmL H' → Q (.bl true) H' := fun H' e T' => q0 H' (.of e) ((src_ext e hsrc).mono (by omega)) T'
  refine ⟨_, (pss_cons (ps_set (i := 1) sc_law_holds.nd rfl (.inr rfl) (pe_make S.M_Store k_Store___init__.G (hr.mono (by omega)) (by rfl) S.g_Store k_Store___init__.D.b .nil pass0 (pa_cons pe_int pa_nil)))
      (pss_cons (ps_set (i := 2) sc_law_holds.nd rfl (.inl rfl) (pe_lst (pa_cons (pe_meth (pv 1) S.cl_Store k_Store_put_all.D.m k_Store_put_all.G (hr.mono (by omega)) k_Store_put_all.D.b .nil passL (pa_cons (pe_lst (pa_cons pe_int (pa_cons pe_int (pa_cons pe_int pa_nil)))) pa_nil)) (pa_cons (pe_meth (pv 1) S.cl_Store k_Store_put.D.m k_Store_put.G (hr.mono (by omega)) k_Store_put.D.b .nil passL (pa_cons pe_int pa_nil)) (pa_cons (pe_meth0 (pv 1) S.cl_Store k_Store_table.D.m k_Store_table.G (hr.mono (by omega)) k_Store_table.D.b .nil pass0) (pa_cons (pe_meth0 (pv 1) S.cl_Store k_Store_count.D.m k_Store_count.G (hr.mono (by omega)) k_Store_count.D.b .nil pass0) (pa_cons (pe_meth0 (pv 1) S.cl_Store k_Store_histories.D.m k_Store_histories.G (hr.mono (by omega)) k_Store_histories.D.b .nil pass0) pa_nil)))))))
      (pss_cons (ps_if (pt_not (pt_val (pe_call k_law_equal.G (hr.mono (by omega)) (by rfl) k_law_equal.D.g k_law_equal.D.F.kp k_law_equal.D.b .nil pass0 (pa_cons (pv 2) (pa_cons (pe_lst (pa_cons (pe_lst (pa_cons pe_int (pa_cons pe_int (pa_cons pe_int pa_nil)))) (pa_cons pe_int (pa_cons (pe_tup (pa_cons pe_int (pa_cons pe_int (pa_cons pe_int (pa_cons pe_int (pa_cons pe_non pa_nil)))))) (pa_cons pe_int (pa_cons pe_int pa_nil)))))) pa_nil))))) (pss_one (ps_ret pe_bl)) pss_nil)
      (pss_cons (ps_set (i := 2) sc_law_holds.nd rfl (.inl rfl) (pe_lst (pa_cons (pe_meth (pv 1) S.cl_Store k_Store_forget.D.m k_Store_forget.G (hr.mono (by omega)) k_Store_forget.D.b .nil passL (pa_cons pe_int pa_nil)) (pa_cons (pe_meth0 (pv 1) S.cl_Store k_Store_table.D.m k_Store_table.G (hr.mono (by omega)) k_Store_table.D.b .nil pass0) (pa_cons (pe_meth0 (pv 1) S.cl_Store k_Store_order.D.m k_Store_order.G (hr.mono (by omega)) k_Store_order.D.b .nil pass0) (pa_cons (pe_callB (call_reprO S.D_Store___repr__.m k_Store___repr__.G (hr.mono (by omega)) k_Store___repr__.D.b) (by rfl) T.repr (by decide +kernel) (pa_cons (pv 1) pa_nil)) (pa_cons (pe_callB (call_lenO S.D_Store___len__.m k_Store___len__.G (hr.mono (by omega)) k_Store___len__.D.b) (by rfl) T.len (by decide +kernel) (pa_cons (pv 1) pa_nil)) pa_nil)))))))
      (pss_cons (ps_if (pt_not (pt_val (pe_call k_law_equal.G (hr.mono (by omega)) (by rfl) k_law_equal.D.g k_law_equal.D.F.kp k_law_equal.D.b .nil pass0 (pa_cons (pv 2) (pa_cons (pe_lst (pa_cons pe_int (pa_cons (pe_tup (pa_cons pe_int (pa_cons pe_int (pa_cons pe_int (pa_cons pe_str (pa_cons pe_non pa_nil)))))) (pa_cons (pe_tup (pa_cons pe_int (pa_cons pe_int (pa_cons pe_int (pa_cons pe_int pa_nil))))) (pa_cons pe_str (pa_cons pe_int pa_nil)))))) pa_nil))))) (pss_one (ps_ret pe_bl)) pss_nil)
      (pss_cons (ps_set (i := 3) sc_law_holds.nd rfl (.inl rfl) (pe_lst (pa_cons (pe_tup (pa_cons pe_str (pa_cons pe_int pa_nil))) (pa_cons (pe_tup (pa_cons pe_str (pa_cons pe_int pa_nil))) (pa_cons (pe_tup (pa_cons pe_str (pa_cons pe_int pa_nil))) (pa_cons (pe_tup (pa_cons pe_str (pa_cons pe_int pa_nil))) (pa_cons (pe_tup (pa_cons pe_str (pa_cons pe_int pa_nil))) pa_nil)))))))
      (pss_cons (ps_set (i := 3) sc_law_holds.nd rfl (.inl rfl) (pe_op op_cat (pv 3) (pe_lst (pa_cons (pe_tup (pa_cons pe_str (pa_cons (pe_lst (pa_cons pe_int (pa_cons pe_int pa_nil))) pa_nil))) (pa_cons (pe_tup (pa_cons pe_str pa_nil)) pa_nil)))))
      (pss_cons (ps_set (i := 4) sc_law_holds.nd rfl (.inl rfl) (pe_lst (pa_cons (pe_tup (pa_cons pe_str (pa_cons pe_int pa_nil))) (pa_cons (pe_tup (pa_cons pe_str (pa_cons pe_int pa_nil))) (pa_cons pe_int (pa_cons (pe_tup (pa_cons pe_str (pa_cons pe_int pa_nil))) (pa_cons pe_int (pa_cons (pe_tup (pa_cons pe_str (pa_cons pe_int pa_nil))) (pa_cons pe_bl pa_nil)))))))))
      (pss_cons (ps_if (pt_not (pt_val (pe_call k_law_equal.G (hr.mono (by omega)) (by rfl) k_law_equal.D.g k_law_equal.D.F.kp k_law_equal.D.b .nil pass0 (pa_cons (pe_lc (own := [("_law_work", 7)]) (by rfl) sc_law_holds.nd (pi_list (pv 3)) (blkOk_by (own := [("_law_work", 7)]) (N := ["_law_source_here", "_law_store", "_law_told", "_law_works", "_law_due", "_law_names", "_law_name", "_law_work"]) (sc := defScope s_law_holds) (by decide +kernel)) (fun _ _ _ _ _ => (pg_name (i := 7) sc_law_holds.nd rfl (.inl rfl))) (fun _ _ _ _ _ => pts_nil) (fun _ _ _ _ _ => (pe_call k_law_perform.G (hr.mono (by omega)) (by rfl) k_law_perform.D.g k_law_perform.D.F.kp k_law_perform.D.b .nil pass0 (pa_cons (pv 1) (pa_cons (pv 7) pa_nil))))) (pa_cons (pv 4) pa_nil))))) (pss_one (ps_ret pe_bl)) pss_nil)
      (pss_cons (ps_set (i := 2) sc_law_holds.nd rfl (.inl rfl) (pe_lst (pa_cons (pe_meth0 (pv 1) S.cl_Store k_Store_table.D.m k_Store_table.G (hr.mono (by omega)) k_Store_table.D.b .nil pass0) (pa_cons (pe_meth0 (pv 1) S.cl_Store k_Store_order.D.m k_Store_order.G (hr.mono (by omega)) k_Store_order.D.b .nil pass0) (pa_cons (pe_meth0 (pv 1) S.cl_Store k_Store_operations.D.m k_Store_operations.G (hr.mono (by omega)) k_Store_operations.D.b .nil pass0) (pa_cons (pe_meth (pv 1) S.cl_Store k_Store_put_all.D.m k_Store_put_all.G (hr.mono (by omega)) k_Store_put_all.D.b .nil passL (pa_cons (pe_lst pa_nil) pa_nil)) (pa_cons (pe_meth0 (pe_meth (pv 1) S.cl_Store k_Store_as_of.D.m k_Store_as_of.G (hr.mono (by omega)) k_Store_as_of.D.b .nil passL (pa_cons pe_int pa_nil)) S.cl_Store k_Store_table.D.m k_Store_table.G (hr.mono (by omega)) k_Store_table.D.b .nil pass0) pa_nil)))))))
      (pss_cons (ps_if (pt_not (pt_val (pe_call k_law_equal.G (hr.mono (by omega)) (by rfl) k_law_equal.D.g k_law_equal.D.F.kp k_law_equal.D.b .nil pass0 (pa_cons (pv 2) (pa_cons (pe_lst (pa_cons (pe_tup (pa_cons pe_int (pa_cons pe_int (pa_cons pe_int (pa_cons pe_non (pa_cons pe_non pa_nil)))))) (pa_cons (pe_tup (pa_cons pe_int (pa_cons pe_int (pa_cons pe_int pa_nil)))) (pa_cons pe_int (pa_cons (pe_lst pa_nil) (pa_cons (pe_tup (pa_cons pe_int (pa_cons pe_int (pa_cons pe_int (pa_cons pe_int (pa_cons pe_non pa_nil)))))) pa_nil)))))) pa_nil))))) (pss_one (ps_ret pe_bl)) pss_nil)
      (pss_cons (ps_set (i := 2) sc_law_holds.nd rfl (.inl rfl) (pe_lst (pa_cons (pe_meth0 (pv 1) S.cl_Store k_Store_undo.D.m k_Store_undo.G (hr.mono (by omega)) k_Store_undo.D.b .nil passL) (pa_cons (pe_meth0 (pv 1) S.cl_Store k_Store_undo.D.m k_Store_undo.G (hr.mono (by omega)) k_Store_undo.D.b .nil passL) (pa_cons (pe_meth0 (pv 1) S.cl_Store k_Store_undo.D.m k_Store_undo.G (hr.mono (by omega)) k_Store_undo.D.b .nil passL) (pa_cons (pe_meth0 (pv 1) S.cl_Store k_Store_undo.D.m k_Store_undo.G (hr.mono (by omega)) k_Store_undo.D.b .nil passL) (pa_cons (pe_meth0 (pv 1) S.cl_Store k_Store_undo.D.m k_Store_undo.G (hr.mono (by omega)) k_Store_undo.D.b .nil passL) (pa_cons (pe_meth0 (pv 1) S.cl_Store k_Store_undo.D.m k_Store_undo.G (hr.mono (by omega)) k_Store_undo.D.b .nil passL) (pa_cons (pe_meth0 (pv 1) S.cl_Store k_Store_table.D.m k_Store_table.G (hr.mono (by omega)) k_Store_table.D.b .nil pass0) pa_nil)))))))))
      (pss_cons (ps_if (pt_not (pt_val (pe_call k_law_equal.G (hr.mono (by omega)) (by rfl) k_law_equal.D.g k_law_equal.D.F.kp k_law_equal.D.b .nil pass0 (pa_cons (pv 2) (pa_cons (pe_lst (pa_cons pe_bl (pa_cons pe_bl (pa_cons pe_bl (pa_cons pe_bl (pa_cons pe_bl (pa_cons pe_bl (pa_cons (pe_op op_repN (pe_tup (pa_cons pe_non pa_nil)) pe_int) pa_nil)))))))) pa_nil))))) (pss_one (ps_ret pe_bl)) pss_nil)
      (pss_cons (ps_set (i := 5) sc_law_holds.nd rfl (.inl rfl) (pe_lst (pa_cons pe_str (pa_cons pe_str (pa_cons pe_str (pa_cons pe_str (pa_cons pe_str (pa_cons pe_str (pa_cons pe_str (pa_cons pe_str (pa_cons pe_str (pa_cons pe_str pa_nil))))))))))))
      (pss_cons (ps_set (i := 5) sc_law_holds.nd rfl (.inl rfl) (pe_op op_cat (pe_op op_cat (pv 5) (pe_lst (pa_cons pe_str pa_nil))) (pe_op op_rep (pe_lst (pa_cons pe_str pa_nil)) pe_int)))
      (pss_cons (ps_set (i := 4) sc_law_holds.nd rfl (.inl rfl) (pe_lst pa_nil))
      (pss_cons (ps_for PassesOwn.never rfl (pi_list (pv 5)) (pg_name (i := 6) sc_law_holds.nd rfl (.inl rfl)) (pss_one (ps_set (i := 4) sc_law_holds.nd rfl (.inl rfl) (pe_op op_cat (pv 4) (pe_lst (pa_cons (pe_tup (pa_cons pe_str (pa_cons (pv 6) pa_nil))) (pa_cons (pe_tup (pa_cons pe_str (pa_cons (pv 6) pa_nil))) pa_nil)))))))
      (pss_one (ps_ret (pe_call k_law_equal.G (hr.mono (by omega)) (by rfl) k_law_equal.D.g k_law_equal.D.F.kp k_law_equal.D.b .nil pass0 (pa_cons (pe_lst (pa_cons (pe_meth0 (pv 1) S.cl_Store k_Store_journal.D.m k_Store_journal.G (hr.mono (by omega)) k_Store_journal.D.b .nil pass0) (pa_cons (pe_callB (call_reprO S.D_Store___repr__.m k_Store___repr__.G (hr.mono (by omega)) k_Store___repr__.D.b) (by rfl) T.repr (by decide +kernel) (pa_cons (pv 1) pa_nil)) pa_nil))) (pa_cons (pe_lst (pa_cons (pv 4) (pa_cons pe_str pa_nil))) pa_nil)))))))))))))))))))))), ?_⟩
  refine fun x dx nx nd ne => ⟨x, dx, 5, rfl, upd_same, by decide, fun ls le H1 k1 nls0 nle0 S1 => ⟨rfl, ?_⟩⟩
  have s1 := made_same nx nd k1
  have T1 := hT.ext s1
  have nls := made_back nls0
  have nle := made_back nle0
  have e1 : LamX.ExtN H H1 := ext_same s1
  dsimp only [gName, tSeq]
  -- the first told
  refine asg_to (fun v H2 => LamX.ExtN H H2 ∧ TabsOk Ps nmL H2 ∧ SAt K S.C_Store H2 x ls le [(t0_38, []), (t1_38, [2, 1, 3]), (t2_38, [2, 1, 3, 0])] (evP "put_all" ++ evP "put") ∧ Dp K H2 v (.list [.list [.int 2, .int 1, .int 3], .int 0, .tuple [.int 0, .int 2, .int 2, .int 2, .none], .int 4, .int 4])) (fun v H2 hv => ?_) (fun Q hQ => ?_)
  rotate_left
  · refine self_to (i := 1) rfl S1 rfl ?_
    refine ⟨(by show 3 ≤ sizeLine; decide), fun b nb => ?_⟩
    have s2 := same_upd (o := .lst [.int 2, .int 2, .int 2]) nb
    have nn := S1.nls nb
    refine ⟨x, ls, le, b, _, _, t0_38, [], [2, 2, 2], rfl, S1.ext (ext_same s2), rfl, by decide, by decide, by decide, by decide, sq_lst upd_same, nn.1, nn.2, trk_l upd_same, T1.ext s2, fun h => absurd h (by decide +kernel), fun c zs qs H3 z3 T3 S3 nc n1 n2 g3 pv => ?_⟩
    obtain ⟨rfl, rfl⟩ := pv.one put38
    refine self_to (i := 1) rfl S3 rfl ?_
    refine ⟨x, ls, le, _, _, t1_38, [2, 1, 3], 0, rfl, S3, rfl, by decide, by decide, by decide, by decide, T3, fun h => absurd h (by decide +kernel), fun c0 H4 z4 T4 S4 sp => ?_⟩
    obtain rfl : c0 = 0 := sp.one (nspot_by rfl (by decide +kernel))
    refine self_to (i := 1) rfl S4 rfl ⟨x, ls, le, _, _, (t2_38, [2, 1, 3, 0]), rfl, S4, rfl, fun t ht => ?_⟩
    refine self_to (i := 1) rfl S4 rfl ⟨x, ls, le, _, _, (t2_38, [2, 1, 3, 0]), rfl, S4, rfl, by decide, tabC_all (ys := t2_38) (by decide +kernel), fun H5 s5 => ?_⟩
    have S5 := S4.ext (ext_same s5)
    refine self_to (i := 1) rfl S5 rfl ⟨x, ls, le, _, _, (t2_38, [2, 1, 3, 0]), rfl, S5, rfl, by decide, tabC_all (ys := t2_38) (by decide +kernel), fun H6 s6 => ?_⟩
    refine ⟨(by show 5 ≤ sizeLine; decide), fun p hp => ?_⟩
    have s47 := (s5.trans s6).trans (same_upd (o := .lst [.ref c, .int ((0 : Nat) : Int), .ref t, .int (((fitL t2_38).length : Nat) : Int), .int ((histT t2_38 : Nat) : Int)]) hp)
    refine hQ _ _ ⟨?_, T4.ext s47, S4.ext (ext_same s47), .lst (sqL upd_same) (.cons (.lst (sqL (s47 _ _ (z4 _ _ n1 n2 g3 fun ps z => nomatch z))) (dp_ints [2, 1, 3])) (.cons (.int _) (.cons (.tup (ExtN.tup (ext_same s47) ht) (tab_dp (tabC_all (ys := t2_38) (by decide +kernel)))) (.cons (dp_nat (b := 4) (by decide +kernel)) (.cons (dp_nat (b := 4) (by decide +kernel)) .nil)))))⟩
    exact ext_stayS e1 (((StayS.of (ext_same s2)).trans z3).trans (z4.trans (.of (ext_same s47)))) nls nle
  · obtain ⟨e2, T2, S2, d2⟩ := hv
    dsimp only [gName, tSeq]
    refine if_then (fun H6 => Same H2 H6) (fun H3 s3 => ?_) (fun D' hD' => ?_)
    rotate_left
    · refine ⟨_, rfl, lit_to (K := K) ?_ fun v3 H3 s3 d3 => ⟨v, v3, _, rfl, dp_same s3 d2, d3, ?_, ?_, fun H4 s4 => ⟨_, rfl, iteF (hD' _ (s3.trans s4))⟩⟩⟩
      · repeat (first | decide | constructor)
      · decide +kernel
      · decide +kernel
    · have S3 := S2.ext (ext_same s3)
      have T3 := T2.ext s3
      have e3 := LamX.ExtN.trans e2 (ext_same s3)
      clear S2 T2 e2 d2
      -- the second told
      dsimp only [gName, tSeq]
      refine asg_to (fun v H4 => LamX.ExtN H H4 ∧ TabsOk Ps nmL H4 ∧ SAt K S.C_Store H4 x ls le sts38 (evP "put_all" ++ evP "put" ++ evP "forget") ∧ Dp K H4 v (.list [.int 12, .tuple [.int 0, .int 2, .int 2, .str "?", .none], .tuple [.int 2, .int 1, .int 3, .int 0], .str "Store(4 of 5 cells)", .int 4])) (fun v H4 hv => ?_) (fun Q hQ => ?_)
      rotate_left
      · refine self_to (i := 1) rfl S3 rfl ?_
        refine ⟨x, ls, le, _, _, t2_38, [2, 1, 3, 0], 3, rfl, S3, rfl, by decide, by decide, by decide, by decide, tabC_all (by decide +kernel), T3, fun h => absurd (by decide +kernel) h, fun _ H4 z4 T4 S4 => ?_⟩
        refine self_to (i := 1) rfl S4 rfl ⟨x, ls, le, _, _, (t3_38, [2, 1, 3, 0]), rfl, S4, rfl, fun t ht => ?_⟩
        refine self_to (i := 1) rfl S4 rfl ⟨x, ls, le, _, _, (t3_38, [2, 1, 3, 0]), rfl, S4, rfl, fun t2 ht2 => ?_⟩
        obtain ⟨dx4, svs4, es4, X4⟩ := id S4
        refine ⟨_, rfl, x, dx4, _, rfl, X4.ins, x, ls, le, _, _, (t3_38, [2, 1, 3, 0]), rfl, S4, rfl, by decide, by decide, _, rfl, ?_⟩
        refine ⟨_, rfl, x, dx4, _, rfl, X4.ins, x, ls, le, _, _, (t3_38, [2, 1, 3, 0]), rfl, S4, rfl, _, rfl, by decide, ?_⟩
        refine ⟨(by show 5 ≤ sizeLine; decide), fun p hp => ?_⟩
        have s5 := same_upd (o := .lst [.int (((fitL t3_38).length : Nat) : Int), .ref t, .ref t2, .str (reprN 4 5), .int ((4 : Nat) : Int)]) hp
        refine hQ _ _ ⟨?_, T4.ext s5, S4.ext (ext_same s5), .lst (sqL upd_same) (.cons (dp_nat (b := 12) (by decide +kernel)) (.cons (.tup (ExtN.tup (ext_same s5) ht) (tab_dp (tabC_all (ys := t3_38) (by decide +kernel)))) (.cons (.tup (ExtN.tup (ext_same s5) ht2) (dp_ints [2, 1, 3, 0])) (.cons (dp_str (by decide +kernel)) (.cons (.int _) .nil)))))⟩
        exact ext_stayS e3 (z4.trans (.of (ext_same s5))) nls nle
      · obtain ⟨e4, T4, S4, d4⟩ := hv
        clear S3 T3 e3
        dsimp only [gName, tSeq]
        refine if_then (fun H6 => Same H4 H6) (fun H5 s5 => ?_) (fun D' hD' => ?_)
        rotate_left
        · refine ⟨_, rfl, lit_to (K := K) ?_ fun v3 H5 s5 d5 => ⟨v, v3, _, rfl, dp_same s5 d4, d5, ?_, ?_, fun H6 s6 => ⟨_, rfl, iteF (hD' _ (s5.trans s6))⟩⟩⟩
          · repeat (first | decide | constructor)
          · decide +kernel
          · decide +kernel
        · have S5 := S4.ext (ext_same s5)
          have T5 := T4.ext s5
          have e5 := LamX.ExtN.trans e4 (ext_same s5)
          clear S4 T4 e4 d4
          dsimp only [gName, tSeq]
          -- the works
          refine asg_to (fun v H6 => Same H5 H6 ∧ ∃ W a1 a2 a3 a4 a5, v = .ref W ∧ H6 W = some (.lst [.ref a1, .ref a2, .ref a3, .ref a4, .ref a5]) ∧ WkT K H6 a1 (.take 2) ∧ WkT K H6 a2 (.take 4) ∧ WkT K H6 a3 (.take 3) ∧ WkT K H6 a4 (.forget 3) ∧ WkT K H6 a5 (.put 3)) (fun v H6 hv => ?_) (fun Q hQ => ?_)
          rotate_left
          · refine ⟨(by show 2 ≤ sizeLine; decide), fun a1 m1 => ?_⟩
            have u1 := same_upd (o := .tup [.str "take_out", .int 2]) m1
            refine ⟨(by show 2 ≤ sizeLine; decide), fun a2 m2 => ?_⟩
            have u2 := same_upd (o := .tup [.str "take_out", .int 4]) m2
            refine ⟨(by show 2 ≤ sizeLine; decide), fun a3 m3 => ?_⟩
            have u3 := same_upd (o := .tup [.str "take_out", .int 3]) m3
            refine ⟨(by show 2 ≤ sizeLine; decide), fun a4 m4 => ?_⟩
            have u4 := same_upd (o := .tup [.str "forget", .int 3]) m4
            refine ⟨(by show 2 ≤ sizeLine; decide), fun a5 m5 => ?_⟩
            have u5 := same_upd (o := .tup [.str "put", .int 3]) m5
            refine ⟨(by show 5 ≤ sizeLine; decide), fun W mW => ?_⟩
            have uW := same_upd (o := .lst [.ref a1, .ref a2, .ref a3, .ref a4, .ref a5]) mW
            have k5 := u5.trans uW
            have k4 := u4.trans k5
            have k3 := u3.trans k4
            have k2 := u2.trans k3
            exact hQ _ _ ⟨u1.trans k2, W, a1, a2, a3, a4, a5, rfl, upd_same, sqT (k2 _ _ upd_same), sqT (k3 _ _ upd_same), sqT (k4 _ _ upd_same), sqT (k5 _ _ upd_same), sqT (uW _ _ upd_same)⟩
          · obtain ⟨s6, W, a1, a2, a3, a4, a5, rfl, gW, w1, w2, w3, w4, w5⟩ := hv
            have S6 := S5.ext (ext_same s6)
            have T6 := T5.ext s6
            have e6 := LamX.ExtN.trans e5 (ext_same s6)
            dsimp only [gName, tSeq]
            refine asg_to (fun v H7 => Same H6 H7 ∧ ∃ W2 b1 b2, v = .ref W2 ∧ H6 W2 = none ∧ H7 W2 = some (.lst [.ref a1, .ref a2, .ref a3, .ref a4, .ref a5, .ref b1, .ref b2]) ∧ WkN K (fun a => a = ls ∨ a = le) H7 b1 (.putAll [1, 1]) ∧ WkT K H7 b2 .undo) (fun v H7 hv => ?_) (fun Q hQ => ?_)
            rotate_left
            · refine ⟨_, rfl, (by show 2 ≤ sizeLine; decide), fun l ml => ?_⟩
              have u0 := same_upd (o := .lst [.int 1, .int 1]) ml
              refine ⟨(by show 2 ≤ sizeLine; decide), fun b1 m1 => ?_⟩
              have u1 := same_upd (o := .tup [.str "put_all", .ref l]) m1
              refine ⟨(by show 1 ≤ sizeLine; decide), fun b2 m2 => ?_⟩
              have u2 := same_upd (o := .tup [.str "undo"]) m2
              refine ⟨(by show 2 ≤ sizeLine; decide), fun c mc => ?_⟩
              have uc := same_upd (o := .lst [.ref b1, .ref b2]) mc
              have k02 := (u0.trans u1).trans u2
              refine ⟨W, c, _, _, rfl, rfl, (k02.trans uc) _ _ gW, upd_same, (by show 7 ≤ sizeLine; decide), fun W2 mW => ?_⟩
              have uW := same_upd (o := .lst [.ref a1, .ref a2, .ref a3, .ref a4, .ref a5, .ref b1, .ref b2]) mW
              have k2 := uc.trans uW
              have nn := S6.nls ml
              exact hQ _ _ ⟨k02.trans k2, W2, b1, b2, rfl, (k02.trans uc).free mW, upd_same, ⟨l, fun z => z.elim nn.1 nn.2, sqT ((u2.trans k2) _ _ upd_same), ((u1.trans u2).trans k2) _ _ upd_same, by decide⟩, sqT (k2 _ _ upd_same)⟩
            · obtain ⟨s7, W2, b1, b2, rfl, nW2, gW2, w6, w7⟩ := hv
              have S7 := S6.ext (ext_same s7)
              have T7 := T6.ext s7
              have e7 := LamX.ExtN.trans e6 (ext_same s7)
              have nnW := S6.nls nW2
              have B7 : ∀ (i : Nat) (w : Work), wks38[i]? = some w → ∃ t, ([.ref a1, .ref a2, .ref a3, .ref a4, .ref a5, .ref b1, .ref b2] : List V)[i]? = some (.ref t) ∧ WkN K (fun a => a = ls ∨ a = le) H7 t w := fun i w hw => by
                have k : ∀ {a : Addr} {w : Work}, WkT K H6 a w → (∀ hs, w ≠ .putAll hs) → WkN K (fun a => a = ls ∨ a = le) H7 a w := fun {a w} h n => by
                  cases w with
                  | putAll hs => exact absurd rfl (n hs)
                  | put h' => exact ExtN.tup (ext_same s7) h
                  | take z' => exact ExtN.tup (ext_same s7) h
                  | forget z' => exact ExtN.tup (ext_same s7) h
                  | undo => exact ExtN.tup (ext_same s7) h
                match i, hw with
                | 0, hw => obtain rfl := Option.some.inj hw; exact ⟨a1, rfl, k w1 fun hs z => nomatch z⟩
                | 1, hw => obtain rfl := Option.some.inj hw; exact ⟨a2, rfl, k w2 fun hs z => nomatch z⟩
                | 2, hw => obtain rfl := Option.some.inj hw; exact ⟨a3, rfl, k w3 fun hs z => nomatch z⟩
                | 3, hw => obtain rfl := Option.some.inj hw; exact ⟨a4, rfl, k w4 fun hs z => nomatch z⟩
                | 4, hw => obtain rfl := Option.some.inj hw; exact ⟨a5, rfl, k w5 fun hs z => nomatch z⟩
                | 5, hw => obtain rfl := Option.some.inj hw; exact ⟨b1, rfl, w6⟩
                | 6, hw => obtain rfl := Option.some.inj hw; exact ⟨b2, rfl, w7⟩
                | i + 7, hw =>
                  have : i + 7 < 7 := (List.getElem?_eq_some_iff.mp hw).1
                  omega
              clear w1 w2 w3 w4 w5 w6 w7
              -- what is due
              dsimp only [gName, tSeq]
              refine asg_to (fun v H8 => Same H7 H8 ∧ ∃ L vs, v = .ref L ∧ H7 L = none ∧ H8 L = some (.lst vs) ∧ DpAll K H8 vs dss38) (fun v H8 hv => ?_) (fun Q hQ => ?_)
              rotate_left
              · refine lst_to (K := K) (ds := dss38) ?_ (by decide) fun L vs H8 s8 nL gL d8 => hQ _ _ ⟨s8, L, vs, rfl, nL, gL, d8⟩
                repeat (first | decide | constructor)
              · obtain ⟨s8, L, vs8, rfl, nL, gL, d8⟩ := hv
                have S8 := S7.ext (ext_same s8)
                have T8 := T7.ext s8
                have e8 := LamX.ExtN.trans e7 (ext_same s8)
                have nnL := S7.nls nL
                have gW8 := s8 _ _ gW2
                have B8 : ∀ (i : Nat) (w : Work), wks38[i]? = some w → ∃ t, ([.ref a1, .ref a2, .ref a3, .ref a4, .ref a5, .ref b1, .ref b2] : List V)[i]? = some (.ref t) ∧ WkN K (fun a => a = ls ∨ a = le) H8 t w := fun i w hw => by
                  obtain ⟨t, h1, h2⟩ := B7 i w hw
                  exact ⟨t, h1, h2.stay (no' := fun _ => False) ⟨fun a h => h.elim, fun b o _ hb _ => s8 b o hb⟩ fun a h => h.elim⟩
                have hlen : ([.ref a1, .ref a2, .ref a3, .ref a4, .ref a5, .ref b1, .ref b2] : List V).length = 7 := rfl
                generalize ([.ref a1, .ref a2, .ref a3, .ref a4, .ref a5, .ref b1, .ref b2] : List V) = ws at gW8 B8 hlen
                dsimp only [gName, tSeq]
                refine if_then (fun H6 => LamX.ExtN H H6 ∧ TabsOk Ps nmL H6 ∧ SAt K S.C_Store H6 x ls le (stn38 7) (evP "put_all" ++ evP "put" ++ evP "forget" ++ evn38 7)) (fun H9 h9 => ?_) (fun D' hD' => ?_)
                rotate_left
                · refine ⟨_, rfl, W2, rfl, ⟨_, sqL gW8⟩, fun D nD => ?_⟩
                  have nnD := S8.nls nD
                  have nDW : D ≠ W2 := fun z => by rw [z, gW8] at nD; cases nD
                  have nDL : D ≠ L := fun z => by rw [z, gL] at nD; cases nD
                  have no8 : ∀ a, (a = ls ∨ a = le ∨ a = D) → ∃ xs, (upd H8 D (.lst [])) a = some (.lst xs) := fun a ha => by
                    obtain ⟨dx8, svs, es, X8⟩ := id S8
                    rcases ha with rfl | rfl | rfl
                    · exact ⟨_, (upd_ne nnD.1.symm).trans X8.gs⟩
                    · exact ⟨_, (upd_ne nnD.2.symm).trans X8.ge⟩
                    · exact ⟨_, upd_same⟩
                  refine lc_list (xs := ws) (fun i H9 => TabsOk Ps nmL H9 ∧ StayP (fun a => a = ls ∨ a = le ∨ a = D) (upd H8 D (.lst [])) H9 ∧ SAt K S.C_Store H9 x ls le (stn38 i) (evP "put_all" ++ evP "put" ++ evP "forget" ++ evn38 i) ∧ ∃ rs, H9 D = some (.lst rs) ∧ All2 (FlatR K (fun a => a = ls ∨ a = le ∨ a = D) H9) rs (dss38.take i))
                    ⟨tabs_new T8 nD, ⟨no8, fun b o _ h _ => h⟩, S8.ext (ext_mut (LamX.ExtN.refl _) nD), [], upd_same, .nil⟩ (fun i H9 _ hP => sqL (hP.2.1.2 _ _ ?_ ((upd_ne nDW.symm).trans gW8) fun ps z => nomatch z)) (fun i v H9 gx hP => ?_) (fun H9 hP => ?_)
                  · rintro (z | z | z)
                    · exact nnW.1 z
                    · exact nnW.2 z
                    · exact nDW z.symm
                  · obtain ⟨T9, F9, S9, rs, gD, R9⟩ := hP
                    have hi : i < 7 := by
                      have := (List.getElem?_eq_some_iff.mp gx).1
                      omega
                    obtain ⟨w', hw⟩ : ∃ w', wks38[i]? = some w' := ⟨_, List.getElem?_eq_getElem hi⟩
                    obtain ⟨t, ht, hN⟩ := B8 i w' hw
                    rw [gx] at ht
                    obtain rfl := Option.some.inj ht
                    obtain ⟨d, hd, eff, ys, q9, hl, l1, l2, tab, l3⟩ := step38 i w' hw
                    have hN9 : WkN K (fun a => (a = ls ∨ a = le) ∨ a = D) H9 t w' := ((hN.new nD).stay (no' := fun _ => False) (H' := upd H8 D (.lst [])) ⟨fun a h => h.elim, fun b o _ hb _ => (upd_ne (ne_of_none hb nD)).trans hb⟩ fun a h => h.elim).stay F9 fun a ha => by
                      rcases ha with z | z | z
                      · exact .inl (.inl z)
                      · exact .inl (.inr z)
                      · exact .inr z
                    have hev := evn_len i
                    refine ⟨rfl, _, rfl, _, rfl, x, ls, le, t, stn38 i, _, ys, q9, w', rfl, S9, hl, l3, ?_, l1, l2, tab, T9, hN9.t, fun v d' sts' H10 z10 T10 ef S10 f10 => ?_⟩
                    · rw [List.length_append]
                      have : (evP "put_all" ++ evP "put" ++ evP "forget").length = 6 := by decide +kernel
                      omega
                    · obtain ⟨rfl, rfl⟩ := ef.one eff
                      have P10 := S9.stayP z10
                      have gD10 := z10 _ _ nnD.1 nnD.2 gD fun ps z => nomatch z
                      have R10 : All2 (FlatR K (fun a => a = ls ∨ a = le ∨ a = D) H10) rs (dss38.take i) := R9.imp fun v d h => h.stay P10 fun a ha => by
                        rcases ha with z | z
                        · exact .inl z
                        · exact .inr (.inl z)
                      have f11 : FlatR K (fun a => a = ls ∨ a = le ∨ a = D) H10 v d' := f10.imp fun a ha => by
                        rcases ha with z | z | z
                        · exact .inl z
                        · exact .inr (.inl z)
                        · refine .inr (.inr fun n => ?_)
                          rw [z] at n
                          obtain ⟨ps, e⟩ := n _ gD
                          cases e
                      have U := stayP_upd gD10 (.lst (rs ++ [v]))
                      have uD : ∀ a, a = D → (a = ls ∨ a = le ∨ a = D) := fun a ha => .inr (.inr ha)
                      refine ⟨rs, gD10, small1000 (by rw [R9.len, List.length_take]; omega), tabs_upd T10 gD10, ⟨F9.1, fun b o nb hb ht => ?_⟩, ?_, rs ++ [v], upd_same, ?_⟩
                      · exact U.2 b o (fun z => nb (.inr (.inr z))) (P10.2 b o (fun z => nb (z.elim .inl fun z => .inr (.inl z))) (F9.2 b o nb hb ht) ht) ht
                      · rw [evn_succ hw, ← List.append_assoc]
                        exact S10.upd gD10 nnD.1 nnD.2
                      · rw [List.take_succ, hd]
                        exact ((R10.imp fun v d h => h.stay U uD).snoc (f11.stay U uD))
                  · obtain ⟨T9, F9, S9, rs, gD, R9⟩ := hP
                    rw [hlen] at S9 R9
                    have gL9 := F9.2 L _ (fun z => by
                      rcases z with z | z | z
                      · exact nnL.1 z
                      · exact nnL.2 z
                      · exact nDL z.symm) ((upd_ne nDL.symm).trans gL) fun ps z => nomatch z
                    have d9 : DpAll K H9 vs8 dss38 := dp_noLs F9 (dp_extA (ext_mut (LamX.ExtN.refl _) nD) d8) (by decide +kernel)
                    have e9 : LamX.ExtN H H9 := fun b o hb ht => F9.2 b o (fun z => by
                      rcases z with z | z | z
                      · rw [z, nls] at hb
                        cases hb
                      · rw [z, nle] at hb
                        cases hb
                      · rw [z] at hb
                        have := e8 _ _ hb ht
                        rw [nD] at this
                        cases this) ((upd_ne (fun z => by
                        rw [z] at hb
                        have := e8 _ _ hb ht
                        rw [nD] at this
                        cases this)).trans (e8 b o hb ht)) ht
                    refine ⟨_, rfl, .ref D, .ref L, .list dss38, rfl, .lst (sqL gD) (flat_dp R9), .lst (sqL gL9) d9, by decide +kernel, by decide +kernel, fun H10 s10 => ⟨_, rfl, iteF (hD' _ ⟨LamX.ExtN.trans e9 (ext_same s10), T9.ext s10, S9.ext (ext_same s10)⟩)⟩⟩
                · obtain ⟨e9, T9, S9⟩ := h9
                  clear S5 S6 S7 S8 T5 T6 T7 T8 e5 e6 e7 e8
                  have z99 : LamX.ExtN H9 H9 := LamX.ExtN.refl _
                  dsimp only [gName, tSeq]
                  refine asg_to (fun v H4 => LamX.ExtN H H4 ∧ TabsOk Ps nmL H4 ∧ SAt K S.C_Store H4 x ls le (stn38 7 ++ [(t4_38, [2, 1, 0])]) (evP "put_all" ++ evP "put" ++ evP "forget" ++ evn38 7 ++ evP "put_all") ∧ Dp K H4 v (.list [.tuple [.int 0, .int 2, .int 2, .none, .none], .tuple [.int 2, .int 1, .int 0], .int 4, .list [], .tuple [.int 0, .int 2, .int 2, .int 2, .none]])) (fun v H4 hv => ?_) (fun Q hQ => ?_)
                  rotate_left
                  · refine self_to (i := 1) rfl S9 rfl ⟨x, ls, le, _, _, (t4_38, [2, 1, 0]), rfl, S9, rfl, fun t ht => ?_⟩
                    refine self_to (i := 1) rfl S9 rfl ⟨x, ls, le, _, _, (t4_38, [2, 1, 0]), rfl, S9, rfl, fun t2 ht2 => ?_⟩
                    refine self_to (i := 1) rfl S9 rfl ⟨x, ls, le, _, _, rfl, S9, ?_⟩
                    refine self_to (i := 1) rfl S9 rfl ?_
                    refine ⟨(by show 0 ≤ sizeLine; decide), fun b nb => ?_⟩
                    have s2 := same_upd (o := .lst []) nb
                    have nn := S9.nls nb
                    refine ⟨x, ls, le, b, _, _, t4_38, [2, 1, 0], [], rfl, S9.ext (ext_same s2), rfl, by decide, by decide +kernel, by decide, by decide, sq_lst (xs := []) upd_same, nn.1, nn.2, trk_l upd_same, T9.ext s2, fun h => absurd h (by decide +kernel), fun c zs qs H3 z3 T3 S3 nc n1 n2 g3 pv => ?_⟩
                    obtain ⟨rfl, rfl⟩ := pv.one (.nil t4_38)
                    refine self_to (i := 1) rfl S3 rfl ?_
                    refine ⟨x, ls, le, _, _, t4_38, _, 2, rfl, S3, rfl, by decide, by decide, T3, fun h => absurd h (by decide), fun n hn hlt x2 l1 l2 H5 x5 T5 nx2 nl1 nl2 S5 => ?_⟩
                    obtain rfl : n = 2 := by omega
                    obtain ⟨dx5, svs5, es5, X5⟩ := id S5
                    refine ⟨x2, dx5, _, rfl, X5.ins, rfl, x2, l1, l2, _, _, (t2_38, [2, 1, 3, 0]), rfl, S5, rfl, fun t5 ht5 => ?_⟩
                    refine ⟨(by show 5 ≤ sizeLine; decide), fun p hp => ?_⟩
                    have s6 := same_upd (o := .lst [.ref t, .ref t2, .int ((stn38 7).length - 1), .ref c, .ref t5]) hp
                    have x35 := LamX.ExtN.trans x5 (ext_same s6)
                    have k3 : ∀ {a : Addr} {zs : List V}, SqT K H9 a zs → SqT K (upd H5 p (.lst [.ref t, .ref t2, .int ((stn38 7).length - 1), .ref c, .ref t5])) a zs := fun {a zs} h => ExtN.tup x35 (stayP_tup ((S9.ext (ext_same s2)).stayP z3) (ExtN.tup (ext_same s2) h))
                    refine hQ _ _ ⟨?_, T5.ext s6, S3.ext x35, .lst (sqL upd_same) (.cons (.tup (k3 ht) (tab_dp (tabC_all (ys := t4_38) (by decide +kernel)))) (.cons (.tup (k3 ht2) (dp_ints [2, 1, 0])) (.cons (.int _) (.cons (.lst (sqL (x35 _ _ g3 fun ps z => nomatch z)) .nil) (.cons (.tup (ExtN.tup (ext_same s6) ht5) (tab_dp (tabC_all (ys := t2_38) (by decide +kernel)))) .nil)))))⟩
                    exact ext_stayS e9 (((StayS.of (ext_same s2)).trans z3).trans (.of x35)) nls nle
                  · obtain ⟨e4, T4, S4, d4⟩ := hv
                    clear S9 T9 e9
                    dsimp only [gName, tSeq]
                    refine if_then (fun H6 => Same H4 H6) (fun H5 s5 => ?_) (fun D' hD' => ?_)
                    rotate_left
                    · refine ⟨_, rfl, lit_to (K := K) ?_ fun v3 H5 s5 d5 => ⟨v, v3, _, rfl, dp_same s5 d4, d5, ?_, ?_, fun H6 s6 => ⟨_, rfl, iteF (hD' _ (s5.trans s6))⟩⟩⟩
                      · repeat (first | decide | constructor)
                      · decide +kernel
                      · decide +kernel
                    · have S5 := S4.ext (ext_same s5)
                      have T5 := T4.ext s5
                      have e5 := LamX.ExtN.trans e4 (ext_same s5)
                      clear S4 T4 e4 d4
                      -- undone
                      dsimp only [gName, tSeq]
                      refine asg_to (fun v H4 => LamX.ExtN H H4 ∧ TabsOk Ps nmL H4 ∧ SAt K S.C_Store H4 x ls le [(t0_38, [])] (evP "put_all" ++ evP "put" ++ evP "forget" ++ evn38 7 ++ evP "put_all" ++ evP "undo" ++ evP "undo" ++ evP "undo" ++ evP "undo" ++ evP "undo" ++ evP "undo") ∧ Dp K H4 v (.list [.bool true, .bool true, .bool true, .bool true, .bool true, .bool false, .tuple [.none, .none, .none, .none, .none]])) (fun v H4 hv => ?_) (fun Q hQ => ?_)
                      rotate_left
                      · refine undo_to (i := 1) rfl S5 T5 (by decide) (by decide) (by decide +kernel) fun H11 z1 U1 V1 => ?_
                        refine undo_to (i := 1) rfl V1 U1 (by decide) (by decide) (by decide +kernel) fun H12 z2 U2 V2 => ?_
                        refine undo_to (i := 1) rfl V2 U2 (by decide) (by decide) (by decide +kernel) fun H13 z3 U3 V3 => ?_
                        refine undo_to (i := 1) rfl V3 U3 (by decide) (by decide) (by decide +kernel) fun H14 z4 U4 V4 => ?_
                        refine undo_to (i := 1) rfl V4 U4 (by decide) (by decide) (by decide +kernel) fun H15 z5 U5 V5 => ?_
                        refine undo_to (i := 1) rfl V5 U5 (by decide) (by decide) (by decide +kernel) fun H16 z6 U6 V6 => ?_
                        refine self_to (i := 1) rfl V6 rfl ⟨x, ls, le, _, _, (t0_38, []), rfl, V6, rfl, fun t ht => ?_⟩
                        refine ⟨(by show 7 ≤ sizeLine; decide), fun p hp => ?_⟩
                        have s6 := fun o => same_upd (o := o) hp
                        refine hQ _ _ ⟨?_, U6.ext (s6 _), V6.ext (ext_same (s6 _)), .lst (sqL upd_same) (.cons (dp_bl (by decide)) (.cons (dp_bl (by decide)) (.cons (dp_bl (by decide)) (.cons (dp_bl (by decide)) (.cons (dp_bl (by decide)) (.cons (dp_bl (by decide)) (.cons (.tup (ExtN.tup (ext_same (s6 _)) ht) (tab_dp (tabC_all (ys := t0_38) (by decide +kernel)))) .nil)))))))⟩
                        exact ext_stayS e5 ((((((z1.trans z2).trans z3).trans z4).trans z5).trans z6).trans (.of (ext_same (s6 _)))) nls nle
                      · obtain ⟨e6, T6, S6, d6⟩ := hv
                        clear S5 T5 e5
                        dsimp only [gName, tSeq]
                        refine if_then (fun H6 => Same H4 H6) (fun H7 s7 => ?_) (fun D' hD' => ?_)
                        rotate_left
                        · refine ⟨_, rfl, (by show 1 ≤ sizeLine; decide), fun a na => ?_⟩
                          have u1 := same_upd (o := .tup [.non]) na
                          refine ⟨a, 5, [.non], rfl, rfl, sqT upd_same, by simp, by decide, by decide, fun t5 H5 u2 g5 => ⟨(by show 7 ≤ sizeLine; decide), fun p hp => ?_⟩⟩
                          have u3 := same_upd (o := .lst [.bl true, .bl true, .bl true, .bl true, .bl true, .bl false, .ref t5]) hp
                          have u13 := (u1.trans u2).trans u3
                          rw [rep_flat] at g5
                          refine ⟨v, .ref p, _, rfl, dp_same u13 d6, .lst (sqL upd_same) (.cons (.bl _) (.cons (.bl _) (.cons (.bl _) (.cons (.bl _) (.cons (.bl _) (.cons (.bl _) (.cons (.tup (ExtN.tup (ext_same u3) g5) (tab_dp (tabC_all (ys := t0_38) (by decide +kernel)))) .nil))))))), by decide +kernel, by decide +kernel, fun H6 s6 => ⟨_, rfl, iteF (hD' _ (u13.trans s6))⟩⟩
                        · have S7 := S6.ext (ext_same s7)
                          have T7 := T6.ext s7
                          have e7 := LamX.ExtN.trans e6 (ext_same s7)
                          clear S6 T6 e6 d6
                          -- the names
                          dsimp only [gName, tSeq]
                          refine asg_to (fun v Hx => Same H7 Hx ∧ ∃ n, v = .ref n ∧ Hx n = some (.lst ((nam38.take 10).map V.str))) (fun v1 Ha hv => ?_) (fun Q hQ => ⟨(by show 10 ≤ sizeLine; decide), fun n1 h1 => hQ _ _ ⟨same_upd h1, n1, rfl, upd_same⟩⟩)
                          obtain ⟨ra, n1, rfl, ga⟩ := hv
                          dsimp only [gName, tSeq]
                          refine asg_to (fun v Hx => Same H7 Hx ∧ ∃ n, v = .ref n ∧ Hx n = some (.lst (nam38.map V.str))) (fun v1 Hc hv => ?_) (fun Q hQ => ?_)
                          rotate_left
                          · refine ⟨_, rfl, (by show 1 ≤ sizeLine; decide), fun n2 h2 => ?_⟩
                            have r2 := same_upd (o := .lst [.str "put_all"]) h2
                            refine ⟨n1, n2, _, _, rfl, rfl, r2 _ _ ga, upd_same, (by show 11 ≤ sizeLine; decide), fun n3 h3 => ?_⟩
                            have r3 := fun o => same_upd (o := o) h3
                            refine ⟨(by show 1 ≤ sizeLine; decide), fun n4 h4 => ?_⟩
                            have r4 := fun o => same_upd (o := o) h4
                            refine ⟨n4, 6, _, rfl, rfl, upd_same, by decide, by decide, (by show 1 * 6 ≤ sizeLine; decide), fun n5 h5 => ?_⟩
                            have r5 := fun o => same_upd (o := o) h5
                            refine ⟨n3, n5, _, _, rfl, rfl, ((r4 _).trans (r5 _)) _ _ upd_same, upd_same, (by show 17 ≤ sizeLine; decide), fun n6 h6 => ?_⟩
                            exact hQ _ _ ⟨((((ra.trans r2).trans (r3 _)).trans (r4 _)).trans (r5 _)).trans (same_upd h6), n6, rfl, upd_same⟩
                          obtain ⟨rc, n6, rfl, gc⟩ := hv
                          dsimp only [gName, tSeq]
                          refine asg_to (fun v Hx => Same Hc Hx ∧ ∃ n, v = .ref n ∧ Hx n = some (.lst [])) (fun v1 Hb hv => ?_) (fun Q hQ => ⟨(by show 0 ≤ sizeLine; decide), fun n1 h1 => hQ _ _ ⟨same_upd h1, n1, rfl, upd_same⟩⟩)
                          obtain ⟨rb, d0, rfl, g0⟩ := hv
                          have r17 := rc.trans rb
                          have S8 := S7.ext (ext_same r17)
                          have T8 := T7.ext r17
                          have e8 := LamX.ExtN.trans e7 (ext_same r17)
                          have g6 := rb _ _ gc
                          dsimp only [gName, tSeq]
                          refine ⟨_, rfl, n6, rfl, ⟨_, sqL g6⟩, ?_⟩
                          refine for_list (xs := nam38.map V.str) (fun i σ H10 => Same Hb H10 ∧ ∃ L9 vs y6, σ = [some (.ref s'), some (.ref x), some v, some (.ref W2), some (.ref L9), some (.ref n6), y6, none] ∧ H10 L9 = some (.lst vs) ∧ All2 (EvT K H10) vs ((nam38.take i).map evP).flatten)
                            ⟨Same.refl _, d0, [], _, rfl, g0, .nil⟩ (fun i σ H10 _ hP => sqL (hP.1 _ _ g6)) (fun i y σ H10 gx hP => ?_) (fun σ H10 hP => ?_)
                          · obtain ⟨s10, L9, vs, y6, rfl, g9, A9⟩ := hP
                            rw [List.getElem?_map, Option.map_eq_some_iff] at gx
                            obtain ⟨nm, gn, rfl⟩ := gx
                            have hi : i < 17 := (List.getElem?_eq_some_iff.mp gn).1
                            refine ⟨_, rfl, _, rfl, (by show 2 ≤ sizeLine; decide), fun q1 m1 => ?_⟩
                            have u1 := same_upd (o := .tup [.str "begin", .str nm]) m1
                            refine ⟨_, rfl, (by show 2 ≤ sizeLine; decide), fun q2 m2 => ?_⟩
                            have u2 := same_upd (o := .tup [.str "end", .str nm]) m2
                            refine ⟨(by show 2 ≤ sizeLine; decide), fun q3 m3 => ?_⟩
                            have u3 := same_upd (o := .lst [.ref q1, .ref q2]) m3
                            have hsz : vs.length ≤ 34 := by
                              rw [A9.len, evf_len, List.length_take]
                              omega
                            refine ⟨L9, q3, _, _, rfl, rfl, ((u1.trans u2).trans u3) _ _ g9, upd_same, Nat.le_of_lt (small1000 (by show vs.length + 2 ≤ 1000; omega)), fun q4 m4 => ?_⟩
                            have u4 := same_upd (o := .lst (vs ++ [.ref q1, .ref q2])) m4
                            have u14 := ((u1.trans u2).trans u3).trans u4
                            refine ⟨s10.trans u14, q4, _, _, rfl, upd_same, ?_⟩
                            rw [List.take_succ, gn, List.map_append, List.flatten_append]
                            exact (A9.imp fun _ _ => EvT.ext (ext_same u14)).app (.cons ⟨q1, rfl, sqT (((u2.trans u3).trans u4) _ _ upd_same)⟩ (.cons ⟨q2, rfl, sqT ((u3.trans u4) _ _ upd_same)⟩ .nil))
                          · obtain ⟨s10, L9, vs, y6, rfl, g9, A9⟩ := hP
                            rw [List.length_map, List.take_length] at A9
                            have S10 := S8.ext (ext_same s10)
                            refine self_to (i := 1) rfl S10 rfl ⟨x, ls, le, _, _, rfl, S10, fun l ws9 H11 s11 nl gl al => ?_⟩
                            have S11 := S10.ext (ext_same s11)
                            obtain ⟨dx11, svs11, es11, X11⟩ := id S11
                            refine ⟨_, rfl, x, dx11, _, rfl, X11.ins, x, ls, le, _, _, (t0_38, []), rfl, S11, rfl, by decide, by decide, _, rfl, ?_⟩
                            refine ⟨(by show 2 ≤ sizeLine; decide), fun p1 m1 => ?_⟩
                            have u1 := same_upd (o := .lst [.ref l, .str (reprN 0 5)]) m1
                            refine ⟨_, rfl, (by show 2 ≤ sizeLine; decide), fun p2 m2 => ?_⟩
                            have u2 := same_upd (o := .lst [.ref L9, .str "Store(0 of 5 cells)"]) m2
                            have u12 := u1.trans u2
                            have ee : evP "put_all" ++ evP "put" ++ evP "forget" ++ evn38 7 ++ evP "put_all" ++ evP "undo" ++ evP "undo" ++ evP "undo" ++ evP "undo" ++ evP "undo" ++ evP "undo" = (nam38.map evP).flatten := by decide +kernel
                            rw [ee] at al
                            refine ⟨.ref p1, .ref p2, .list [.list (((nam38.map evP).flatten).map evD), .str "Store(0 of 5 cells)"], rfl, .lst (sqL (u2 _ _ upd_same)) (.cons (.lst (sqL (u12 _ _ gl)) (dp_sameA u12 (ev_dp al))) (.cons (dp_str (by decide +kernel)) .nil)), .lst (sqL upd_same) (.cons (.lst (sqL ((s11.trans u12) _ _ g9)) (dp_sameA (s11.trans u12) (ev_dp A9))) (.cons (.str _) .nil)), by decide +kernel, by decide +kernel, fun H12 s12 => ?_⟩
                            have s812 := ((s10.trans s11).trans u12).trans s12
                            exact q _ (LamX.ExtN.trans e8 (ext_same s812)) (T8.ext s812)

/-! ### law: one turn with each source -/
def lawLevel : Nat := 31
def spLaw (K : PySem.W.Frag) (Ps : List Addr) : Sp := fun vs H Q _ => ∃ (a : Addr) (ns : List Int), vs = [.ref a] ∧ SqL K H a (ns.map V.int) ∧ ns.length ≤ 63 ∧ TabsOk Ps nmL H ∧ ∀ H', Q (.bl true) H'
theorem lawStart {Kw : Params → PySem.W.Frag} (w : World) (cs : List (Addr × Addr)) (H : Hp) (a : Addr) (ns : List Int) (hl : ns.length ≤ 63) (hT : ∀ p ∈ cs, H p.2 = some (.tbl #[])) (hS : SqL (Kw w.params) H a (ns.map V.int)) : spLaw (Kw w.params) (cs.map (·.2)) [.ref a] H (fun v _ => v = .bl true) (fun _ _ _ => False) :=
  ⟨a, ns, rfl, hS, hl, tabs_nil fun P hP => by
    obtain ⟨p, hp, rfl⟩ := List.mem_map.mp hP
    exact hT p hp, fun _ => rfl⟩
theorem ok_law (T : Bt mg) {f f1 f2 : Addr} {fd fd1 fd2 : FuncData} {Ps : List Addr} (D : Df K mg "law" s_law ["_law_script"] f fd)
    (k_law_source : Kn P w K mg base 1 "_law_source" s_law_source ["_law_script", "_law_index"] (spSource K) f1 fd1) (k_law_holds : KnG P w K mg base 30 "_law_holds" s_law_holds ["_law_source_here"] (spHoldsT Ps) f2 fd2) : FnOkG P w K mg base lawLevel f fd ["_law_script"] (spLaw K Ps) := by
  refine okG D.F sc_law (fun vs H Q E h => ?_) (fun cdv A outer s H vs Q E hgd hr h => ?_)
  · obtain ⟨a, ns, rfl, _⟩ := h
    rfl
  obtain ⟨a, ns, rfl, hS, h63, hT, q⟩ := h
  refine ⟨_, (pss_one (ps_ret (pe_callB (cr_allK (K := K) rfl rfl) (by rfl) T.all (by decide +kernel) (pa_cons (pe_lc (own := [("_law_index", 1)]) (by rfl) sc_law.nd (pi_range1 (by rfl) T.range (pa_cons (pe_callB (call_max2 rfl) (by rfl) T.max (by decide +kernel) (pa_cons pe_int (pa_cons (pe_callB (call_min2 rfl) (by rfl) T.min (by decide +kernel) (pa_cons pe_int (pa_cons (pe_callB (call_lenK (K := K) rfl) (by rfl) T.len (by decide +kernel) (pa_cons (pv 0) pa_nil)) pa_nil))) pa_nil))) pa_nil)) (blkOk_by (own := [("_law_index", 1)]) (N := ["_law_script", "_law_index"]) (sc := defScope s_law) (by decide +kernel)) (fun _ _ _ _ _ => (pg_name (i := 1) sc_law.nd rfl (.inl rfl))) (fun _ _ _ _ _ => pts_nil) (fun _ _ _ _ _ => (pe_callG hgd k_law_holds.G (hr.mono (by omega)) (by rfl) k_law_holds.D.g k_law_holds.D.F.kp k_law_holds.D.b (pa_cons (pe_call k_law_source.G (hr.mono (by omega)) (by rfl) k_law_source.D.g k_law_source.D.F.kp k_law_source.D.b .nil pass0 (pa_cons (pv 0) (pa_cons (pv 1) pa_nil))) pa_nil)))) pa_nil)))), ?_⟩
  refine ⟨_, rfl, a, _, rfl, .inl hS, _, _, rfl, _, _, rfl, ?_⟩
  rw [List.length_map]
  obtain ⟨m, hm, hm2⟩ : ∃ m : Nat, (if (if (ns.length : Int) < 1 then (ns.length : Int) else 1) > 1 then (if (ns.length : Int) < 1 then (ns.length : Int) else 1) else 1) = (m : Int) ∧ m ≤ 1 := by
    refine ⟨(if (if (ns.length : Int) < 1 then (ns.length : Int) else 1) > 1 then (if (ns.length : Int) < 1 then (ns.length : Int) else 1) else 1).toNat, ?_, ?_⟩
    · split <;> (split <;> omega)
    · split <;> (split <;> omega)
  rw [hm]
  refine ⟨(m : Int), rfl, by omega, by omega, fun L hL => ?_⟩
  have en : ((m : Int)).toNat = m := Int.toNat_natCast m
  rw [en]
  refine lc_range (lo := 0) (n := m) (fun i H2 => LamX.ExtN H H2 ∧ TabsOk Ps nmL H2 ∧ H2 L = some (.lst ((List.replicate i true).map V.bl))) ⟨ext_same (same_upd hL), tabs_new hT hL, upd_same⟩ (fun i H2 hi hP => ?_) (fun H2 hP => ?_)
  · obtain ⟨s2, t2, e2⟩ := hP
    have ez : (0 : Int) + (i : Int) = (i : Int) := Int.zero_add _
    rw [ez]
    refine ⟨rfl, ?_⟩
    refine ⟨_, rfl, _, rfl, a, ns, i, rfl, ExtN.seq s2 hS, h63, by omega, fun p o hp hO => ?_⟩
    refine ⟨p, 0, rfl, ⟨o, upd_same, hO.mono (by decide)⟩, tabs_new t2 hp, fun H3 s3 _ t3 => ?_⟩
    have s4 := ext_stayN hp s3
    have e3 := ext_lst s4 e2
    refine ⟨_, e3, ?_, ext_mut (LamX.ExtN.trans s2 s4) hL, tabs_upd t3 e3, ?_⟩
    · rw [List.length_map, List.length_replicate]
      exact small1000 (by omega)
    · rw [upd_same, List.replicate_succ', List.map_append]
      rfl
  · obtain ⟨s2, _, e2⟩ := hP
    refine ⟨L, _, rfl, sqL e2, ?_⟩
    rw [all_rep]
    exact q _

theorem fin (T : Bt mg)
    (R : Er K mg)
    (S : St K mg)
    {f11 : Addr} {fd11 : FuncData} (D_nearness : Df K mg "nearness" s_nearness ["cell", "wish"] f11 fd11)
    {f12 : Addr} {fd12 : FuncData} (D_needs : Df K mg "needs" s_needs ["size", "cell", "wish"] f12 fd12)
    {f13 : Addr} {fd13 : FuncData} (D_nearest : Df K mg "nearest" s_nearest ["table", "wish"] f13 fd13)
    {f14 : Addr} {fd14 : FuncData} (D_put_into : Df K mg "put_into" s_put_into ["table", "wishes"] f14 fd14)
    {f16 : Addr} {fd16 : FuncData} (D_taken_cells : Df K mg "taken_cells" s_taken_cells ["table"] f16 fd16)
    {f17 : Addr} {fd17 : FuncData} (D_needed_cells : Df K mg "needed_cells" s_needed_cells ["table", "cell"] f17 fd17)
    {f18 : Addr} {fd18 : FuncData} (D_first_gap : Df K mg "first_gap" s_first_gap ["table"] f18 fd18)
    {f19 : Addr} {fd19 : FuncData} (D_need_one_another : Df K mg "need_one_another" s_need_one_another ["table", "one", "other"] f19 fd19)
    {f20 : Addr} {fd20 : FuncData} (D_first_both : Df K mg "first_both" s_first_both ["table"] f20 fd20)
    {f21 : Addr} {fd21 : FuncData} (D_possible : Df K mg "possible" s_possible ["table"] f21 fd21)
    {f22 : Addr} {fd22 : FuncData} (D_require_object : Df K mg "require_object" s_require_object ["table", "cell"] f22 fd22)
    {f23 : Addr} {fd23 : FuncData} (D_comes_after_needed : Df K mg "comes_after_needed" s_comes_after_needed ["table", "cell", "came"] f23 fd23)
    {f24 : Addr} {fd24 : FuncData} (D_first_misfit : Df K mg "first_misfit" s_first_misfit ["table", "cells"] f24 fd24)
    {f26 : Addr} {fd26 : FuncData} (D_choose : Df K mg "choose" s_choose ["many", "some"] f26 fd26)
    {f27 : Addr} {fd27 : FuncData} (D_span : Df K mg "span" s_span ["table", "rest", "at"] f27 fd27)
    {f28 : Addr} {fd28 : FuncData} (D_spans_of : Df K mg "spans_of" s_spans_of ["table", "rest"] f28 fd28)
    {f29 : Addr} {fd29 : FuncData} (D_within_part : Df K mg "within_part" s_within_part ["own", "first", "end"] f29 fd29)
    {f30 : Addr} {fd30 : FuncData} (D_lasts : Df K mg "lasts" s_lasts ["spans", "first", "end"] f30 fd30)
    {f31 : Addr} {fd31 : FuncData} (D_count_with_last : Df K mg "count_with_last" s_count_with_last ["counts", "first", "last", "end"] f31 fd31)
    {f32 : Addr} {fd32 : FuncData} (D_parts_of : Df K mg "parts_of" s_parts_of ["many"] f32 fd32)
    {f33 : Addr} {fd33 : FuncData} (D_part_counts : Df K mg "part_counts" s_part_counts ["spans"] f33 fd33)
    {f34 : Addr} {fd34 : FuncData} (D_count_between : Df K mg "count_between" s_count_between ["table", "came", "cells"] f34 fd34)
    {f35 : Addr} {fd35 : FuncData} (D_count_rest : Df K mg "count_rest" s_count_rest ["table", "came"] f35 fd35)
    {f36 : Addr} {fd36 : FuncData} (D_starts_order : Df K mg "starts_order" s_starts_order ["table", "cells"] f36 fd36)
    {f37 : Addr} {fd37 : FuncData} (D_count_orders : Df K mg "count_orders" s_count_orders ["table"] f37 fd37)
    {f38 : Addr} {fd38 : FuncData} (D_count_after : Df K mg "count_after" s_count_after ["table", "beginning"] f38 fd38)
    {f40 : Addr} {fd40 : FuncData} (D_needed_by : Df K mg "needed_by" s_needed_by ["table", "cell"] f40 fd40)
    {f41 : Addr} {fd41 : FuncData} (D_left : Df K mg "left" s_left ["table", "cell"] f41 fd41)
    {f43 : Addr} {fd43 : FuncData} (D_wish_choices : Df K mg "wish_choices" s_wish_choices ["table", "cell"] f43 fd43)
    {f44 : Addr} {fd44 : FuncData} (D_choice_spans : Df K mg "choice_spans" s_choice_spans ["table", "row", "at"] f44 fd44)
    {f45 : Addr} {fd45 : FuncData} (D_histories_of_part : Df K mg "histories_of_part" s_histories_of_part ["choices", "counts", "first", "end"] f45 fd45)
    {f46 : Addr} {fd46 : FuncData} (D_count_histories : Df K mg "count_histories" s_count_histories ["table"] f46 fd46)
    {f47 : Addr} {fd47 : FuncData} (D_with_wish : Df K mg "with_wish" s_with_wish ["table", "cell", "wish"] f47 fd47)
    {f51 : Addr} {fd51 : FuncData} (D_law_source : Df K mg "_law_source" s_law_source ["_law_script", "_law_index"] f51 fd51)
    {f52 : Addr} {fd52 : FuncData} (D_law_equal : Df K mg "_law_equal" s_law_equal ["_law_found", "_law_due"] f52 fd52)
    {f53 : Addr} {fd53 : FuncData} (D_law_failed : Df K mg "_law_failed" s_law_failed ["_law_caught"] f53 fd53)
    {f54 : Addr} {fd54 : FuncData} (D_law_result : Df K mg "_law_result" s_law_result ["_law_work"] f54 fd54)
    {f55 : Addr} {fd55 : FuncData} (D_law_perform : Df K mg "_law_perform" s_law_perform ["_law_store", "_law_work"] f55 fd55)
    {f56 : Addr} {fd56 : FuncData} (D_law_holds : Df K mg "_law_holds" s_law_holds ["_law_source_here"] f56 fd56)
    {f57 : Addr} {fd57 : FuncData} (D_law : Df K mg "law" s_law ["_law_script"] f57 fd57)
    {c13 P13 : Addr} (L_nearest : DfC K "nearest" s_nearest f13 fd13 c13) (B_nearest : LamX.TabB base mg c13 P13)
    {c55 P55 : Addr} (L_law_perform : DfC K "_law_perform" s_law_perform f55 fd55 c55) (B_law_perform : LamX.TabB base mg c55 P55)
    : FnOkG P w K mg base lawLevel f57 fd57 ["_law_script"] (spLaw K [P13, P55]) := by
  have k_nearness := ok_nearness (P := P) (w := w) (base := base) (k := 0) T D_nearness
  have k_needs := ok_needs (k := 0) T D_needs k_nearness
  have k_nearest := ok_nearest (Ps := [P13, P55]) T R D_nearest L_nearest B_nearest (by simp) k_nearness
  have k_put_into := ok_put T R D_put_into k_nearest
  have k_taken_cells := ok_taken (P := P) (w := w) (base := base) (k := 0) T D_taken_cells
  have k_require_object := ok_reqoX T R D_require_object k_taken_cells
  have k_needed_cells := ok_needed (k := 0) T D_needed_cells k_needs
  have k_need_one_another := ok_mutual (k := 0) T D_need_one_another k_needed_cells
  have k_comes_after_needed := ok_after (k := 0) T D_comes_after_needed k_needed_cells
  have k_first_misfit := ok_misfit (k := 0) T D_first_misfit k_comes_after_needed
  have k_first_gap := ok_first_gap (k := 0) T D_first_gap k_taken_cells k_needed_cells
  have k_first_both := ok_first_both (k := 0) T D_first_both k_taken_cells k_needed_cells k_need_one_another
  have k_possible := ok_possible T D_possible k_first_gap k_first_both
  have k_with_wish := ok_withwish T R D_with_wish k_require_object
  have k_choose := ok_choose (P := P) (w := w) (base := base) (k := 0) T D_choose
  have k_span := ok_span (k := 0) T D_span k_needed_cells
  have k_spans_of := ok_spans (k := 0) T D_spans_of k_span
  have k_within_part := ok_within (P := P) (w := w) (base := base) (k := 0) T D_within_part
  have k_lasts := ok_lasts (k := 0) T D_lasts k_within_part
  have k_count_with_last := ok_withlast (k := 0) T D_count_with_last k_choose
  have k_parts_of := ok_parts (P := P) (w := w) (base := base) (k := 0) T D_parts_of
  have k_part_counts := ok_partcounts (k := 0) T D_part_counts k_lasts k_count_with_last k_parts_of
  have k_count_between := ok_between T D_count_between k_spans_of k_part_counts
  have k_count_rest := ok_countrest T D_count_rest k_taken_cells k_count_between
  have k_starts_order := ok_starts T D_starts_order k_possible k_first_misfit
  have k_count_after := ok_countafter T D_count_after k_starts_order k_count_rest
  have k_count_orders := ok_countorders T D_count_orders k_count_after
  have k_wish_choices := ok_choices (P := P) (w := w) (base := base) (k := 0) T D_wish_choices
  have k_choice_spans := ok_chspans T D_choice_spans k_wish_choices (ww_plain R k_with_wish) k_needed_cells k_span
  have k_histories_of_part := ok_histpart T D_histories_of_part k_within_part k_count_with_last
  have k_count_histories := ok_counthist T D_count_histories k_taken_cells k_choice_spans k_parts_of k_histories_of_part
  have k_law_source := ok_source (P := P) (w := w) (base := base) (k := 0) T D_law_source
  have k_law_equal := ok_equal (P := P) (w := w) (base := base) T D_law_equal 5
  have k_needed_by := ok_neededby T D_needed_by k_taken_cells k_needed_cells
  have k_left := ok_left T R D_left k_require_object k_needed_by
  have k_law_failed := ok_failed (P := P) (w := w) (base := base) T R D_law_failed
  have k_law_result := ok_result (kg := 21) T R (by decide) D_law_result k_law_failed
  have k_Store_table := ok_Store_table (P := P) (w := w) (base := base) T S
  have k_Store_order := ok_Store_order (P := P) (w := w) (base := base) T S
  have k_Store_operations := ok_Store_operations (P := P) (w := w) (base := base) T S
  have k_Store___init__ := ok_Store_init (P := P) (w := w) (base := base) T S
  have k_Store_put_in := ok_Store_put_in (Ps := [P13, P55]) T R S k_Store_table k_Store_order k_put_into
  have k_Store_put := ok_Store_put T R S k_Store_put_in
  have k_Store_put_all := ok_Store_put_all T R S k_Store_put_in
  have k_Store_take_out := ok_Store_take_out (Ps := [P13, P55]) T R S k_Store_table k_Store_order k_left
  have k_Store_forget := ok_Store_forget (Ps := [P13, P55]) T R S k_Store_table k_Store_order k_with_wish k_count_orders
  have k_Store_undo := ok_Store_undo (Ps := [P13, P55]) T R S k_Store_operations
  have k_Store_as_of := ok_Store_as_of (Ps := [P13, P55]) T R S k_Store_operations k_Store_table k_Store___init__
  have k_Store_count := ok_Store_count T S k_Store_table k_count_orders
  have k_Store_histories := ok_Store_histories T S k_Store_table k_count_histories
  have k_Store_journal := ok_Store_journal (P := P) (w := w) (base := base) T S
  have k_Store___len__ := ok_Store_len T S k_Store_order
  have k_Store___repr__ := ok_Store_repr T S k_Store_order k_Store_table
  have k_law_perform := ok_perform (Ps := [P13, P55]) T R S D_law_perform L_law_perform B_law_perform (by simp) k_law_result k_Store_put k_Store_put_all k_Store_take_out k_Store_forget k_Store_undo
  have kZ := ok_holds T R S D_law_holds ⟨D_law_equal, k_law_equal⟩ k_law_perform k_Store___init__ k_Store_table k_Store_order k_Store_operations k_Store_count k_Store_histories k_Store_journal k_Store___len__ k_Store___repr__ k_Store_put k_Store_put_all k_Store_forget k_Store_undo k_Store_as_of
  exact ok_law T D_law k_law_source ⟨D_law_holds, kZ⟩
end
theorem all_mk {l : PySem.W.OpenLaw} {w : World} {K : PySem.W.Frag} {h : Heap} {mg : Str → Option Value} {fa f11 f12 f13 f14 f16 f17 f18 f19 f20 f21 f22 f23 f24 f26 f27 f28 f29 f30 f31 f32 f33 f34 f35 f36 f37 f38 f40 f41 f43 f44 f45 f46 f47 f51 f52 f53 f54 f55 f56 f57 : Addr} (X : K.In h) (G : h.Ns mainGlobals mg) (hfa : mg "law" = some (.ref fa)) (tb : ∀ y ∈ (["nearest", "_law_perform"] : List Str), TabAt mg h y)
    {od11 an11 od12 an12 od13 an13 od14 an14 od16 an16 od17 an17 od18 an18 od19 an19 od20 an20 od21 an21 od22 an22 od23 an23 od24 an24 od26 an26 od27 an27 od28 an28 od29 an29 od30 an30 od31 an31 od32 an32 od33 an33 od34 an34 od35 an35 od36 an36 od37 an37 od38 an38 od40 an40 od41 an41 od43 an43 od44 an44 od45 an45 od46 an46 od47 an47 od51 an51 od52 an52 od53 an53 od54 an54 od55 an55 od56 an56 od57 an57 : Option Addr} {sl11 sl12 sl13 sl14 sl16 sl17 sl18 sl19 sl20 sl21 sl22 sl23 sl24 sl26 sl27 sl28 sl29 sl30 sl31 sl32 sl33 sl34 sl35 sl36 sl37 sl38 sl40 sl41 sl43 sl44 sl45 sl46 sl47 sl51 sl52 sl53 sl54 sl55 sl56 sl57 : Array (Option Value)} {oc11 kV11 dc11 pm11 cd11 ct11 oc12 kV12 dc12 pm12 cd12 ct12 oc13 kV13 dc13 pm13 cd13 ct13 oc14 kV14 dc14 pm14 cd14 ct14 oc16 kV16 dc16 pm16 cd16 ct16 oc17 kV17 dc17 pm17 cd17 ct17 oc18 kV18 dc18 pm18 cd18 ct18 oc19 kV19 dc19 pm19 cd19 ct19 oc20 kV20 dc20 pm20 cd20 ct20 oc21 kV21 dc21 pm21 cd21 ct21 oc22 kV22 dc22 pm22 cd22 ct22 oc23 kV23 dc23 pm23 cd23 ct23 oc24 kV24 dc24 pm24 cd24 ct24 oc26 kV26 dc26 pm26 cd26 ct26 oc27 kV27 dc27 pm27 cd27 ct27 oc28 kV28 dc28 pm28 cd28 ct28 oc29 kV29 dc29 pm29 cd29 ct29 oc30 kV30 dc30 pm30 cd30 ct30 oc31 kV31 dc31 pm31 cd31 ct31 oc32 kV32 dc32 pm32 cd32 ct32 oc33 kV33 dc33 pm33 cd33 ct33 oc34 kV34 dc34 pm34 cd34 ct34 oc35 kV35 dc35 pm35 cd35 ct35 oc36 kV36 dc36 pm36 cd36 ct36 oc37 kV37 dc37 pm37 cd37 ct37 oc38 kV38 dc38 pm38 cd38 ct38 oc40 kV40 dc40 pm40 cd40 ct40 oc41 kV41 dc41 pm41 cd41 ct41 oc43 kV43 dc43 pm43 cd43 ct43 oc44 kV44 dc44 pm44 cd44 ct44 oc45 kV45 dc45 pm45 cd45 ct45 oc46 kV46 dc46 pm46 cd46 ct46 oc47 kV47 dc47 pm47 cd47 ct47 oc51 kV51 dc51 pm51 cd51 ct51 oc52 kV52 dc52 pm52 cd52 ct52 oc53 kV53 dc53 pm53 cd53 ct53 oc54 kV54 dc54 pm54 cd54 ct54 oc55 kV55 dc55 pm55 cd55 ct55 oc56 kV56 dc56 pm56 cd56 ct56 oc57 kV57 dc57 pm57 cd57 ct57 : Value}
    (a11 : PySem.W.nsIn K mainGlobals "nearness" = some (some (.ref f11))) (l11 : K.lookup f11 = some ⟨oc11, od11, .func (PySem.W.fnOf "nearness" "nearness" (defArgs s_nearness) (defBody s_nearness) (defScope s_nearness) .none kV11 dc11 pm11 an11 cd11 ct11), sl11⟩) (c11 : PySem.W.codeIn K cd11 "nearness" = true) (k11 : PySem.W.keepIn K (.ref f11) = true)
    (a12 : PySem.W.nsIn K mainGlobals "needs" = some (some (.ref f12))) (l12 : K.lookup f12 = some ⟨oc12, od12, .func (PySem.W.fnOf "needs" "needs" (defArgs s_needs) (defBody s_needs) (defScope s_needs) .none kV12 dc12 pm12 an12 cd12 ct12), sl12⟩) (c12 : PySem.W.codeIn K cd12 "needs" = true) (k12 : PySem.W.keepIn K (.ref f12) = true)
    (a13 : PySem.W.nsIn K mainGlobals "nearest" = some (some (.ref f13))) (l13 : K.lookup f13 = some ⟨oc13, od13, .func (PySem.W.fnOf "nearest" "nearest" (defArgs s_nearest) (defBody s_nearest) (defScope s_nearest) .none kV13 dc13 pm13 an13 cd13 ct13), sl13⟩) (c13 : PySem.W.codeIn K cd13 "nearest" = true) (k13 : PySem.W.keepIn K (.ref f13) = true)
    (a14 : PySem.W.nsIn K mainGlobals "put_into" = some (some (.ref f14))) (l14 : K.lookup f14 = some ⟨oc14, od14, .func (PySem.W.fnOf "put_into" "put_into" (defArgs s_put_into) (defBody s_put_into) (defScope s_put_into) .none kV14 dc14 pm14 an14 cd14 ct14), sl14⟩) (c14 : PySem.W.codeIn K cd14 "put_into" = true) (k14 : PySem.W.keepIn K (.ref f14) = true)
    (a16 : PySem.W.nsIn K mainGlobals "taken_cells" = some (some (.ref f16))) (l16 : K.lookup f16 = some ⟨oc16, od16, .func (PySem.W.fnOf "taken_cells" "taken_cells" (defArgs s_taken_cells) (defBody s_taken_cells) (defScope s_taken_cells) .none kV16 dc16 pm16 an16 cd16 ct16), sl16⟩) (c16 : PySem.W.codeIn K cd16 "taken_cells" = true) (k16 : PySem.W.keepIn K (.ref f16) = true)
    (a17 : PySem.W.nsIn K mainGlobals "needed_cells" = some (some (.ref f17))) (l17 : K.lookup f17 = some ⟨oc17, od17, .func (PySem.W.fnOf "needed_cells" "needed_cells" (defArgs s_needed_cells) (defBody s_needed_cells) (defScope s_needed_cells) .none kV17 dc17 pm17 an17 cd17 ct17), sl17⟩) (c17 : PySem.W.codeIn K cd17 "needed_cells" = true) (k17 : PySem.W.keepIn K (.ref f17) = true)
    (a18 : PySem.W.nsIn K mainGlobals "first_gap" = some (some (.ref f18))) (l18 : K.lookup f18 = some ⟨oc18, od18, .func (PySem.W.fnOf "first_gap" "first_gap" (defArgs s_first_gap) (defBody s_first_gap) (defScope s_first_gap) .none kV18 dc18 pm18 an18 cd18 ct18), sl18⟩) (c18 : PySem.W.codeIn K cd18 "first_gap" = true) (k18 : PySem.W.keepIn K (.ref f18) = true)
    (a19 : PySem.W.nsIn K mainGlobals "need_one_another" = some (some (.ref f19))) (l19 : K.lookup f19 = some ⟨oc19, od19, .func (PySem.W.fnOf "need_one_another" "need_one_another" (defArgs s_need_one_another) (defBody s_need_one_another) (defScope s_need_one_another) .none kV19 dc19 pm19 an19 cd19 ct19), sl19⟩) (c19 : PySem.W.codeIn K cd19 "need_one_another" = true) (k19 : PySem.W.keepIn K (.ref f19) = true)
    (a20 : PySem.W.nsIn K mainGlobals "first_both" = some (some (.ref f20))) (l20 : K.lookup f20 = some ⟨oc20, od20, .func (PySem.W.fnOf "first_both" "first_both" (defArgs s_first_both) (defBody s_first_both) (defScope s_first_both) .none kV20 dc20 pm20 an20 cd20 ct20), sl20⟩) (c20 : PySem.W.codeIn K cd20 "first_both" = true) (k20 : PySem.W.keepIn K (.ref f20) = true)
    (a21 : PySem.W.nsIn K mainGlobals "possible" = some (some (.ref f21))) (l21 : K.lookup f21 = some ⟨oc21, od21, .func (PySem.W.fnOf "possible" "possible" (defArgs s_possible) (defBody s_possible) (defScope s_possible) .none kV21 dc21 pm21 an21 cd21 ct21), sl21⟩) (c21 : PySem.W.codeIn K cd21 "possible" = true) (k21 : PySem.W.keepIn K (.ref f21) = true)
    (a22 : PySem.W.nsIn K mainGlobals "require_object" = some (some (.ref f22))) (l22 : K.lookup f22 = some ⟨oc22, od22, .func (PySem.W.fnOf "require_object" "require_object" (defArgs s_require_object) (defBody s_require_object) (defScope s_require_object) .none kV22 dc22 pm22 an22 cd22 ct22), sl22⟩) (c22 : PySem.W.codeIn K cd22 "require_object" = true) (k22 : PySem.W.keepIn K (.ref f22) = true)
    (a23 : PySem.W.nsIn K mainGlobals "comes_after_needed" = some (some (.ref f23))) (l23 : K.lookup f23 = some ⟨oc23, od23, .func (PySem.W.fnOf "comes_after_needed" "comes_after_needed" (defArgs s_comes_after_needed) (defBody s_comes_after_needed) (defScope s_comes_after_needed) .none kV23 dc23 pm23 an23 cd23 ct23), sl23⟩) (c23 : PySem.W.codeIn K cd23 "comes_after_needed" = true) (k23 : PySem.W.keepIn K (.ref f23) = true)
    (a24 : PySem.W.nsIn K mainGlobals "first_misfit" = some (some (.ref f24))) (l24 : K.lookup f24 = some ⟨oc24, od24, .func (PySem.W.fnOf "first_misfit" "first_misfit" (defArgs s_first_misfit) (defBody s_first_misfit) (defScope s_first_misfit) .none kV24 dc24 pm24 an24 cd24 ct24), sl24⟩) (c24 : PySem.W.codeIn K cd24 "first_misfit" = true) (k24 : PySem.W.keepIn K (.ref f24) = true)
    (a26 : PySem.W.nsIn K mainGlobals "choose" = some (some (.ref f26))) (l26 : K.lookup f26 = some ⟨oc26, od26, .func (PySem.W.fnOf "choose" "choose" (defArgs s_choose) (defBody s_choose) (defScope s_choose) .none kV26 dc26 pm26 an26 cd26 ct26), sl26⟩) (c26 : PySem.W.codeIn K cd26 "choose" = true) (k26 : PySem.W.keepIn K (.ref f26) = true)
    (a27 : PySem.W.nsIn K mainGlobals "span" = some (some (.ref f27))) (l27 : K.lookup f27 = some ⟨oc27, od27, .func (PySem.W.fnOf "span" "span" (defArgs s_span) (defBody s_span) (defScope s_span) .none kV27 dc27 pm27 an27 cd27 ct27), sl27⟩) (c27 : PySem.W.codeIn K cd27 "span" = true) (k27 : PySem.W.keepIn K (.ref f27) = true)
    (a28 : PySem.W.nsIn K mainGlobals "spans_of" = some (some (.ref f28))) (l28 : K.lookup f28 = some ⟨oc28, od28, .func (PySem.W.fnOf "spans_of" "spans_of" (defArgs s_spans_of) (defBody s_spans_of) (defScope s_spans_of) .none kV28 dc28 pm28 an28 cd28 ct28), sl28⟩) (c28 : PySem.W.codeIn K cd28 "spans_of" = true) (k28 : PySem.W.keepIn K (.ref f28) = true)
    (a29 : PySem.W.nsIn K mainGlobals "within_part" = some (some (.ref f29))) (l29 : K.lookup f29 = some ⟨oc29, od29, .func (PySem.W.fnOf "within_part" "within_part" (defArgs s_within_part) (defBody s_within_part) (defScope s_within_part) .none kV29 dc29 pm29 an29 cd29 ct29), sl29⟩) (c29 : PySem.W.codeIn K cd29 "within_part" = true) (k29 : PySem.W.keepIn K (.ref f29) = true)
    (a30 : PySem.W.nsIn K mainGlobals "lasts" = some (some (.ref f30))) (l30 : K.lookup f30 = some ⟨oc30, od30, .func (PySem.W.fnOf "lasts" "lasts" (defArgs s_lasts) (defBody s_lasts) (defScope s_lasts) .none kV30 dc30 pm30 an30 cd30 ct30), sl30⟩) (c30 : PySem.W.codeIn K cd30 "lasts" = true) (k30 : PySem.W.keepIn K (.ref f30) = true)
    (a31 : PySem.W.nsIn K mainGlobals "count_with_last" = some (some (.ref f31))) (l31 : K.lookup f31 = some ⟨oc31, od31, .func (PySem.W.fnOf "count_with_last" "count_with_last" (defArgs s_count_with_last) (defBody s_count_with_last) (defScope s_count_with_last) .none kV31 dc31 pm31 an31 cd31 ct31), sl31⟩) (c31 : PySem.W.codeIn K cd31 "count_with_last" = true) (k31 : PySem.W.keepIn K (.ref f31) = true)
    (a32 : PySem.W.nsIn K mainGlobals "parts_of" = some (some (.ref f32))) (l32 : K.lookup f32 = some ⟨oc32, od32, .func (PySem.W.fnOf "parts_of" "parts_of" (defArgs s_parts_of) (defBody s_parts_of) (defScope s_parts_of) .none kV32 dc32 pm32 an32 cd32 ct32), sl32⟩) (c32 : PySem.W.codeIn K cd32 "parts_of" = true) (k32 : PySem.W.keepIn K (.ref f32) = true)
    (a33 : PySem.W.nsIn K mainGlobals "part_counts" = some (some (.ref f33))) (l33 : K.lookup f33 = some ⟨oc33, od33, .func (PySem.W.fnOf "part_counts" "part_counts" (defArgs s_part_counts) (defBody s_part_counts) (defScope s_part_counts) .none kV33 dc33 pm33 an33 cd33 ct33), sl33⟩) (c33 : PySem.W.codeIn K cd33 "part_counts" = true) (k33 : PySem.W.keepIn K (.ref f33) = true)
    (a34 : PySem.W.nsIn K mainGlobals "count_between" = some (some (.ref f34))) (l34 : K.lookup f34 = some ⟨oc34, od34, .func (PySem.W.fnOf "count_between" "count_between" (defArgs s_count_between) (defBody s_count_between) (defScope s_count_between) .none kV34 dc34 pm34 an34 cd34 ct34), sl34⟩) (c34 : PySem.W.codeIn K cd34 "count_between" = true) (k34 : PySem.W.keepIn K (.ref f34) = true)
    (a35 : PySem.W.nsIn K mainGlobals "count_rest" = some (some (.ref f35))) (l35 : K.lookup f35 = some ⟨oc35, od35, .func (PySem.W.fnOf "count_rest" "count_rest" (defArgs s_count_rest) (defBody s_count_rest) (defScope s_count_rest) .none kV35 dc35 pm35 an35 cd35 ct35), sl35⟩) (c35 : PySem.W.codeIn K cd35 "count_rest" = true) (k35 : PySem.W.keepIn K (.ref f35) = true)
    (a36 : PySem.W.nsIn K mainGlobals "starts_order" = some (some (.ref f36))) (l36 : K.lookup f36 = some ⟨oc36, od36, .func (PySem.W.fnOf "starts_order" "starts_order" (defArgs s_starts_order) (defBody s_starts_order) (defScope s_starts_order) .none kV36 dc36 pm36 an36 cd36 ct36), sl36⟩) (c36 : PySem.W.codeIn K cd36 "starts_order" = true) (k36 : PySem.W.keepIn K (.ref f36) = true)
    (a37 : PySem.W.nsIn K mainGlobals "count_orders" = some (some (.ref f37))) (l37 : K.lookup f37 = some ⟨oc37, od37, .func (PySem.W.fnOf "count_orders" "count_orders" (defArgs s_count_orders) (defBody s_count_orders) (defScope s_count_orders) .none kV37 dc37 pm37 an37 cd37 ct37), sl37⟩) (c37 : PySem.W.codeIn K cd37 "count_orders" = true) (k37 : PySem.W.keepIn K (.ref f37) = true)
    (a38 : PySem.W.nsIn K mainGlobals "count_after" = some (some (.ref f38))) (l38 : K.lookup f38 = some ⟨oc38, od38, .func (PySem.W.fnOf "count_after" "count_after" (defArgs s_count_after) (defBody s_count_after) (defScope s_count_after) .none kV38 dc38 pm38 an38 cd38 ct38), sl38⟩) (c38 : PySem.W.codeIn K cd38 "count_after" = true) (k38 : PySem.W.keepIn K (.ref f38) = true)
    (a40 : PySem.W.nsIn K mainGlobals "needed_by" = some (some (.ref f40))) (l40 : K.lookup f40 = some ⟨oc40, od40, .func (PySem.W.fnOf "needed_by" "needed_by" (defArgs s_needed_by) (defBody s_needed_by) (defScope s_needed_by) .none kV40 dc40 pm40 an40 cd40 ct40), sl40⟩) (c40 : PySem.W.codeIn K cd40 "needed_by" = true) (k40 : PySem.W.keepIn K (.ref f40) = true)
    (a41 : PySem.W.nsIn K mainGlobals "left" = some (some (.ref f41))) (l41 : K.lookup f41 = some ⟨oc41, od41, .func (PySem.W.fnOf "left" "left" (defArgs s_left) (defBody s_left) (defScope s_left) .none kV41 dc41 pm41 an41 cd41 ct41), sl41⟩) (c41 : PySem.W.codeIn K cd41 "left" = true) (k41 : PySem.W.keepIn K (.ref f41) = true)
    (a43 : PySem.W.nsIn K mainGlobals "wish_choices" = some (some (.ref f43))) (l43 : K.lookup f43 = some ⟨oc43, od43, .func (PySem.W.fnOf "wish_choices" "wish_choices" (defArgs s_wish_choices) (defBody s_wish_choices) (defScope s_wish_choices) .none kV43 dc43 pm43 an43 cd43 ct43), sl43⟩) (c43 : PySem.W.codeIn K cd43 "wish_choices" = true) (k43 : PySem.W.keepIn K (.ref f43) = true)
    (a44 : PySem.W.nsIn K mainGlobals "choice_spans" = some (some (.ref f44))) (l44 : K.lookup f44 = some ⟨oc44, od44, .func (PySem.W.fnOf "choice_spans" "choice_spans" (defArgs s_choice_spans) (defBody s_choice_spans) (defScope s_choice_spans) .none kV44 dc44 pm44 an44 cd44 ct44), sl44⟩) (c44 : PySem.W.codeIn K cd44 "choice_spans" = true) (k44 : PySem.W.keepIn K (.ref f44) = true)
    (a45 : PySem.W.nsIn K mainGlobals "histories_of_part" = some (some (.ref f45))) (l45 : K.lookup f45 = some ⟨oc45, od45, .func (PySem.W.fnOf "histories_of_part" "histories_of_part" (defArgs s_histories_of_part) (defBody s_histories_of_part) (defScope s_histories_of_part) .none kV45 dc45 pm45 an45 cd45 ct45), sl45⟩) (c45 : PySem.W.codeIn K cd45 "histories_of_part" = true) (k45 : PySem.W.keepIn K (.ref f45) = true)
    (a46 : PySem.W.nsIn K mainGlobals "count_histories" = some (some (.ref f46))) (l46 : K.lookup f46 = some ⟨oc46, od46, .func (PySem.W.fnOf "count_histories" "count_histories" (defArgs s_count_histories) (defBody s_count_histories) (defScope s_count_histories) .none kV46 dc46 pm46 an46 cd46 ct46), sl46⟩) (c46 : PySem.W.codeIn K cd46 "count_histories" = true) (k46 : PySem.W.keepIn K (.ref f46) = true)
    (a47 : PySem.W.nsIn K mainGlobals "with_wish" = some (some (.ref f47))) (l47 : K.lookup f47 = some ⟨oc47, od47, .func (PySem.W.fnOf "with_wish" "with_wish" (defArgs s_with_wish) (defBody s_with_wish) (defScope s_with_wish) .none kV47 dc47 pm47 an47 cd47 ct47), sl47⟩) (c47 : PySem.W.codeIn K cd47 "with_wish" = true) (k47 : PySem.W.keepIn K (.ref f47) = true)
    (a51 : PySem.W.nsIn K mainGlobals "_law_source" = some (some (.ref f51))) (l51 : K.lookup f51 = some ⟨oc51, od51, .func (PySem.W.fnOf "_law_source" "_law_source" (defArgs s_law_source) (defBody s_law_source) (defScope s_law_source) .none kV51 dc51 pm51 an51 cd51 ct51), sl51⟩) (c51 : PySem.W.codeIn K cd51 "_law_source" = true) (k51 : PySem.W.keepIn K (.ref f51) = true)
    (a52 : PySem.W.nsIn K mainGlobals "_law_equal" = some (some (.ref f52))) (l52 : K.lookup f52 = some ⟨oc52, od52, .func (PySem.W.fnOf "_law_equal" "_law_equal" (defArgs s_law_equal) (defBody s_law_equal) (defScope s_law_equal) .none kV52 dc52 pm52 an52 cd52 ct52), sl52⟩) (c52 : PySem.W.codeIn K cd52 "_law_equal" = true) (k52 : PySem.W.keepIn K (.ref f52) = true)
    (a53 : PySem.W.nsIn K mainGlobals "_law_failed" = some (some (.ref f53))) (l53 : K.lookup f53 = some ⟨oc53, od53, .func (PySem.W.fnOf "_law_failed" "_law_failed" (defArgs s_law_failed) (defBody s_law_failed) (defScope s_law_failed) .none kV53 dc53 pm53 an53 cd53 ct53), sl53⟩) (c53 : PySem.W.codeIn K cd53 "_law_failed" = true) (k53 : PySem.W.keepIn K (.ref f53) = true)
    (a54 : PySem.W.nsIn K mainGlobals "_law_result" = some (some (.ref f54))) (l54 : K.lookup f54 = some ⟨oc54, od54, .func (PySem.W.fnOf "_law_result" "_law_result" (defArgs s_law_result) (defBody s_law_result) (defScope s_law_result) .none kV54 dc54 pm54 an54 cd54 ct54), sl54⟩) (c54 : PySem.W.codeIn K cd54 "_law_result" = true) (k54 : PySem.W.keepIn K (.ref f54) = true)
    (a55 : PySem.W.nsIn K mainGlobals "_law_perform" = some (some (.ref f55))) (l55 : K.lookup f55 = some ⟨oc55, od55, .func (PySem.W.fnOf "_law_perform" "_law_perform" (defArgs s_law_perform) (defBody s_law_perform) (defScope s_law_perform) .none kV55 dc55 pm55 an55 cd55 ct55), sl55⟩) (c55 : PySem.W.codeIn K cd55 "_law_perform" = true) (k55 : PySem.W.keepIn K (.ref f55) = true)
    (a56 : PySem.W.nsIn K mainGlobals "_law_holds" = some (some (.ref f56))) (l56 : K.lookup f56 = some ⟨oc56, od56, .func (PySem.W.fnOf "_law_holds" "_law_holds" (defArgs s_law_holds) (defBody s_law_holds) (defScope s_law_holds) .none kV56 dc56 pm56 an56 cd56 ct56), sl56⟩) (c56 : PySem.W.codeIn K cd56 "_law_holds" = true) (k56 : PySem.W.keepIn K (.ref f56) = true)
    (a57 : PySem.W.nsIn K mainGlobals "law" = some (some (.ref f57))) (l57 : K.lookup f57 = some ⟨oc57, od57, .func (PySem.W.fnOf "law" "law" (defArgs s_law) (defBody s_law) (defScope s_law) .none kV57 dc57 pm57 an57 cd57 ct57), sl57⟩) (c57 : PySem.W.codeIn K cd57 "law" = true) (k57 : PySem.W.keepIn K (.ref f57) = true)
    (z_LookupError : PySem.W.nsIn K mainGlobals "LookupError" = some none) (z_OverflowError : PySem.W.nsIn K mainGlobals "OverflowError" = some none) (z_RuntimeError : PySem.W.nsIn K mainGlobals "RuntimeError" = some none) (z_ValueError : PySem.W.nsIn K mainGlobals "ValueError" = some none) (z_abs : PySem.W.nsIn K mainGlobals "abs" = some none) (z_all : PySem.W.nsIn K mainGlobals "all" = some none) (z_bool : PySem.W.nsIn K mainGlobals "bool" = some none) (z_enumerate : PySem.W.nsIn K mainGlobals "enumerate" = some none) (z_int : PySem.W.nsIn K mainGlobals "int" = some none) (z_isinstance : PySem.W.nsIn K mainGlobals "isinstance" = some none) (z_len : PySem.W.nsIn K mainGlobals "len" = some none) (z_list : PySem.W.nsIn K mainGlobals "list" = some none) (z_max : PySem.W.nsIn K mainGlobals "max" = some none) (z_min : PySem.W.nsIn K mainGlobals "min" = some none) (z_range : PySem.W.nsIn K mainGlobals "range" = some none) (z_repr : PySem.W.nsIn K mainGlobals "repr" = some none) (z_str : PySem.W.nsIn K mainGlobals "str" = some none) (z_sum : PySem.W.nsIn K mainGlobals "sum" = some none) (z_tuple : PySem.W.nsIn K mainGlobals "tuple" = some none) (z_zip : PySem.W.nsIn K mainGlobals "zip" = some none)
    {C_Impossible f_Impossible N_Impossible C_NoObject f_NoObject N_NoObject C_NoState f_NoState N_NoState C_NoWay f_NoWay N_NoWay C_Needed f_Needed N_Needed C_TooMany f_TooMany N_TooMany C_Full f_Full N_Full : Addr}
    {nm_Impossible qn_Impossible : Str} {bs_Impossible sub_Impossible : List Value} {sn_Impossible : List Str} {ab_Impossible : Bool} {col_Impossible : Option Bool} {dd_Impossible : Option Addr} {m0_Impossible m1_Impossible m2_Impossible m3_Impossible m5_Impossible : Option Value}
    {ioc_Impossible idc_Impossible ipm_Impossible icd_Impossible ict_Impossible ikV_Impossible : Value} {iod_Impossible ian_Impossible : Option Addr} {isl_Impossible : Array (Option Value)}
    (aC_Impossible : PySem.W.nsIn K mainGlobals "Impossible" = some (some (.ref C_Impossible))) (xL_Impossible : K.lookup C_Impossible = some (excClassObj nm_Impossible qn_Impossible C_Impossible N_Impossible bs_Impossible (tlV "ValueError") true sn_Impossible sub_Impossible ab_Impossible col_Impossible dd_Impossible m0_Impossible m1_Impossible m2_Impossible m3_Impossible m5_Impossible "ValueError.__new__"))
    (sa_Impossible : PySem.W.findIn K (.ref C_Impossible) "__setattr__" = some (some (.builtin "object.__setattr__"))) (ga_Impossible : PySem.W.findIn K (.ref C_Impossible) "__getattribute__" = some (some (.builtin "BaseException.__getattribute__"))) (gg_Impossible : PySem.W.findIn K (.ref C_Impossible) "__getattr__" = some none) (nf_Impossible : PySem.W.findIn K (.ref C_Impossible) "zz" = some none)
    (eC_Impossible : PySem.W.subIn K (.ref C_Impossible) (.type "BaseException") = some true) (tC_Impossible : PySem.W.typeIn K (.ref C_Impossible) = some (.type "type")) (kC_Impossible : PySem.W.keepIn K (.ref C_Impossible) = true) (hd_Impossible : PySem.W.hasDictIn K C_Impossible = true) (ha_Impossible : PySem.W.findIn K (.ref C_Impossible) "__class__" = some (some (.builtin "object.__class__"))) (hm_Impossible : PySem.W.mroIn K C_Impossible (.type "object") = some true)
    (iC_Impossible : PySem.W.findIn K (.ref C_Impossible) "__init__" = some (some (.ref f_Impossible))) (tI_Impossible : PySem.W.typeIn K (.ref f_Impossible) = some (.type "function")) (il_Impossible : K.lookup f_Impossible = some ⟨ioc_Impossible, iod_Impossible, .func (PySem.W.fnOf "__init__" "Impossible.__init__" (defArgs s_Impossible_init) (defBody s_Impossible_init) (defScope s_Impossible_init) .none ikV_Impossible idc_Impossible ipm_Impossible ian_Impossible icd_Impossible ict_Impossible), isl_Impossible⟩) (ic_Impossible : PySem.W.codeIn K icd_Impossible "Impossible.__init__" = true) (ik_Impossible : PySem.W.keepIn K (.ref f_Impossible) = true)
    {nm_NoObject qn_NoObject : Str} {bs_NoObject sub_NoObject : List Value} {sn_NoObject : List Str} {ab_NoObject : Bool} {col_NoObject : Option Bool} {dd_NoObject : Option Addr} {m0_NoObject m1_NoObject m2_NoObject m3_NoObject m5_NoObject : Option Value}
    {ioc_NoObject idc_NoObject ipm_NoObject icd_NoObject ict_NoObject ikV_NoObject : Value} {iod_NoObject ian_NoObject : Option Addr} {isl_NoObject : Array (Option Value)}
    (aC_NoObject : PySem.W.nsIn K mainGlobals "NoObject" = some (some (.ref C_NoObject))) (xL_NoObject : K.lookup C_NoObject = some (excClassObj nm_NoObject qn_NoObject C_NoObject N_NoObject bs_NoObject (tlV "LookupError") true sn_NoObject sub_NoObject ab_NoObject col_NoObject dd_NoObject m0_NoObject m1_NoObject m2_NoObject m3_NoObject m5_NoObject "LookupError.__new__"))
    (sa_NoObject : PySem.W.findIn K (.ref C_NoObject) "__setattr__" = some (some (.builtin "object.__setattr__"))) (ga_NoObject : PySem.W.findIn K (.ref C_NoObject) "__getattribute__" = some (some (.builtin "BaseException.__getattribute__"))) (gg_NoObject : PySem.W.findIn K (.ref C_NoObject) "__getattr__" = some none) (nf_NoObject : PySem.W.findIn K (.ref C_NoObject) "cell" = some none)
    (eC_NoObject : PySem.W.subIn K (.ref C_NoObject) (.type "BaseException") = some true) (tC_NoObject : PySem.W.typeIn K (.ref C_NoObject) = some (.type "type")) (kC_NoObject : PySem.W.keepIn K (.ref C_NoObject) = true) (hd_NoObject : PySem.W.hasDictIn K C_NoObject = true) (ha_NoObject : PySem.W.findIn K (.ref C_NoObject) "__class__" = some (some (.builtin "object.__class__"))) (hm_NoObject : PySem.W.mroIn K C_NoObject (.type "object") = some true)
    (iC_NoObject : PySem.W.findIn K (.ref C_NoObject) "__init__" = some (some (.ref f_NoObject))) (tI_NoObject : PySem.W.typeIn K (.ref f_NoObject) = some (.type "function")) (il_NoObject : K.lookup f_NoObject = some ⟨ioc_NoObject, iod_NoObject, .func (PySem.W.fnOf "__init__" "NoObject.__init__" (defArgs s_NoObject_init) (defBody s_NoObject_init) (defScope s_NoObject_init) .none ikV_NoObject idc_NoObject ipm_NoObject ian_NoObject icd_NoObject ict_NoObject), isl_NoObject⟩) (ic_NoObject : PySem.W.codeIn K icd_NoObject "NoObject.__init__" = true) (ik_NoObject : PySem.W.keepIn K (.ref f_NoObject) = true)
    {nm_NoState qn_NoState : Str} {bs_NoState sub_NoState : List Value} {sn_NoState : List Str} {ab_NoState : Bool} {col_NoState : Option Bool} {dd_NoState : Option Addr} {m0_NoState m1_NoState m2_NoState m3_NoState m5_NoState : Option Value}
    {ioc_NoState idc_NoState ipm_NoState icd_NoState ict_NoState ikV_NoState : Value} {iod_NoState ian_NoState : Option Addr} {isl_NoState : Array (Option Value)}
    (aC_NoState : PySem.W.nsIn K mainGlobals "NoState" = some (some (.ref C_NoState))) (xL_NoState : K.lookup C_NoState = some (excClassObj nm_NoState qn_NoState C_NoState N_NoState bs_NoState (tlV "LookupError") true sn_NoState sub_NoState ab_NoState col_NoState dd_NoState m0_NoState m1_NoState m2_NoState m3_NoState m5_NoState "LookupError.__new__"))
    (sa_NoState : PySem.W.findIn K (.ref C_NoState) "__setattr__" = some (some (.builtin "object.__setattr__"))) (ga_NoState : PySem.W.findIn K (.ref C_NoState) "__getattribute__" = some (some (.builtin "BaseException.__getattribute__"))) (gg_NoState : PySem.W.findIn K (.ref C_NoState) "__getattr__" = some none) (nf_NoState : PySem.W.findIn K (.ref C_NoState) "many" = some none)
    (eC_NoState : PySem.W.subIn K (.ref C_NoState) (.type "BaseException") = some true) (tC_NoState : PySem.W.typeIn K (.ref C_NoState) = some (.type "type")) (kC_NoState : PySem.W.keepIn K (.ref C_NoState) = true) (hd_NoState : PySem.W.hasDictIn K C_NoState = true) (ha_NoState : PySem.W.findIn K (.ref C_NoState) "__class__" = some (some (.builtin "object.__class__"))) (hm_NoState : PySem.W.mroIn K C_NoState (.type "object") = some true)
    (iC_NoState : PySem.W.findIn K (.ref C_NoState) "__init__" = some (some (.ref f_NoState))) (tI_NoState : PySem.W.typeIn K (.ref f_NoState) = some (.type "function")) (il_NoState : K.lookup f_NoState = some ⟨ioc_NoState, iod_NoState, .func (PySem.W.fnOf "__init__" "NoState.__init__" (defArgs s_NoState_init) (defBody s_NoState_init) (defScope s_NoState_init) .none ikV_NoState idc_NoState ipm_NoState ian_NoState icd_NoState ict_NoState), isl_NoState⟩) (ic_NoState : PySem.W.codeIn K icd_NoState "NoState.__init__" = true) (ik_NoState : PySem.W.keepIn K (.ref f_NoState) = true)
    {nm_NoWay qn_NoWay : Str} {bs_NoWay sub_NoWay : List Value} {sn_NoWay : List Str} {ab_NoWay : Bool} {col_NoWay : Option Bool} {dd_NoWay : Option Addr} {m0_NoWay m1_NoWay m2_NoWay m3_NoWay m5_NoWay : Option Value}
    {ioc_NoWay idc_NoWay ipm_NoWay icd_NoWay ict_NoWay ikV_NoWay : Value} {iod_NoWay ian_NoWay : Option Addr} {isl_NoWay : Array (Option Value)}
    (aC_NoWay : PySem.W.nsIn K mainGlobals "NoWay" = some (some (.ref C_NoWay))) (xL_NoWay : K.lookup C_NoWay = some (excClassObj nm_NoWay qn_NoWay C_NoWay N_NoWay bs_NoWay (tlV "RuntimeError") true sn_NoWay sub_NoWay ab_NoWay col_NoWay dd_NoWay m0_NoWay m1_NoWay m2_NoWay m3_NoWay m5_NoWay "RuntimeError.__new__"))
    (sa_NoWay : PySem.W.findIn K (.ref C_NoWay) "__setattr__" = some (some (.builtin "object.__setattr__"))) (ga_NoWay : PySem.W.findIn K (.ref C_NoWay) "__getattribute__" = some (some (.builtin "BaseException.__getattribute__"))) (gg_NoWay : PySem.W.findIn K (.ref C_NoWay) "__getattr__" = some none) (nf_NoWay : PySem.W.findIn K (.ref C_NoWay) "place" = some none)
    (eC_NoWay : PySem.W.subIn K (.ref C_NoWay) (.type "BaseException") = some true) (tC_NoWay : PySem.W.typeIn K (.ref C_NoWay) = some (.type "type")) (kC_NoWay : PySem.W.keepIn K (.ref C_NoWay) = true) (hd_NoWay : PySem.W.hasDictIn K C_NoWay = true) (ha_NoWay : PySem.W.findIn K (.ref C_NoWay) "__class__" = some (some (.builtin "object.__class__"))) (hm_NoWay : PySem.W.mroIn K C_NoWay (.type "object") = some true)
    (iC_NoWay : PySem.W.findIn K (.ref C_NoWay) "__init__" = some (some (.ref f_NoWay))) (tI_NoWay : PySem.W.typeIn K (.ref f_NoWay) = some (.type "function")) (il_NoWay : K.lookup f_NoWay = some ⟨ioc_NoWay, iod_NoWay, .func (PySem.W.fnOf "__init__" "NoWay.__init__" (defArgs s_NoWay_init) (defBody s_NoWay_init) (defScope s_NoWay_init) .none ikV_NoWay idc_NoWay ipm_NoWay ian_NoWay icd_NoWay ict_NoWay), isl_NoWay⟩) (ic_NoWay : PySem.W.codeIn K icd_NoWay "NoWay.__init__" = true) (ik_NoWay : PySem.W.keepIn K (.ref f_NoWay) = true)
    {nm_Needed qn_Needed : Str} {bs_Needed sub_Needed : List Value} {sn_Needed : List Str} {ab_Needed : Bool} {col_Needed : Option Bool} {dd_Needed : Option Addr} {m0_Needed m1_Needed m2_Needed m3_Needed m5_Needed : Option Value}
    {ioc_Needed idc_Needed ipm_Needed icd_Needed ict_Needed ikV_Needed : Value} {iod_Needed ian_Needed : Option Addr} {isl_Needed : Array (Option Value)}
    (aC_Needed : PySem.W.nsIn K mainGlobals "Needed" = some (some (.ref C_Needed))) (xL_Needed : K.lookup C_Needed = some (excClassObj nm_Needed qn_Needed C_Needed N_Needed bs_Needed (tlV "RuntimeError") true sn_Needed sub_Needed ab_Needed col_Needed dd_Needed m0_Needed m1_Needed m2_Needed m3_Needed m5_Needed "RuntimeError.__new__"))
    (sa_Needed : PySem.W.findIn K (.ref C_Needed) "__setattr__" = some (some (.builtin "object.__setattr__"))) (ga_Needed : PySem.W.findIn K (.ref C_Needed) "__getattribute__" = some (some (.builtin "BaseException.__getattribute__"))) (gg_Needed : PySem.W.findIn K (.ref C_Needed) "__getattr__" = some none) (nf_Needed : PySem.W.findIn K (.ref C_Needed) "cell" = some none)
    (eC_Needed : PySem.W.subIn K (.ref C_Needed) (.type "BaseException") = some true) (tC_Needed : PySem.W.typeIn K (.ref C_Needed) = some (.type "type")) (kC_Needed : PySem.W.keepIn K (.ref C_Needed) = true) (hd_Needed : PySem.W.hasDictIn K C_Needed = true) (ha_Needed : PySem.W.findIn K (.ref C_Needed) "__class__" = some (some (.builtin "object.__class__"))) (hm_Needed : PySem.W.mroIn K C_Needed (.type "object") = some true)
    (iC_Needed : PySem.W.findIn K (.ref C_Needed) "__init__" = some (some (.ref f_Needed))) (tI_Needed : PySem.W.typeIn K (.ref f_Needed) = some (.type "function")) (il_Needed : K.lookup f_Needed = some ⟨ioc_Needed, iod_Needed, .func (PySem.W.fnOf "__init__" "Needed.__init__" (defArgs s_Needed_init) (defBody s_Needed_init) (defScope s_Needed_init) .none ikV_Needed idc_Needed ipm_Needed ian_Needed icd_Needed ict_Needed), isl_Needed⟩) (ic_Needed : PySem.W.codeIn K icd_Needed "Needed.__init__" = true) (ik_Needed : PySem.W.keepIn K (.ref f_Needed) = true)
    {nm_TooMany qn_TooMany : Str} {bs_TooMany sub_TooMany : List Value} {sn_TooMany : List Str} {ab_TooMany : Bool} {col_TooMany : Option Bool} {dd_TooMany : Option Addr} {m0_TooMany m1_TooMany m2_TooMany m3_TooMany m5_TooMany : Option Value}
    {ioc_TooMany idc_TooMany ipm_TooMany icd_TooMany ict_TooMany ikV_TooMany : Value} {iod_TooMany ian_TooMany : Option Addr} {isl_TooMany : Array (Option Value)}
    (aC_TooMany : PySem.W.nsIn K mainGlobals "TooMany" = some (some (.ref C_TooMany))) (xL_TooMany : K.lookup C_TooMany = some (excClassObj nm_TooMany qn_TooMany C_TooMany N_TooMany bs_TooMany (tlA "OverflowError") true sn_TooMany sub_TooMany ab_TooMany col_TooMany dd_TooMany m0_TooMany m1_TooMany m2_TooMany m3_TooMany m5_TooMany "OverflowError.__new__"))
    (sa_TooMany : PySem.W.findIn K (.ref C_TooMany) "__setattr__" = some (some (.builtin "object.__setattr__"))) (ga_TooMany : PySem.W.findIn K (.ref C_TooMany) "__getattribute__" = some (some (.builtin "BaseException.__getattribute__"))) (gg_TooMany : PySem.W.findIn K (.ref C_TooMany) "__getattr__" = some none) (nf_TooMany : PySem.W.findIn K (.ref C_TooMany) "many" = some none)
    (eC_TooMany : PySem.W.subIn K (.ref C_TooMany) (.type "BaseException") = some true) (tC_TooMany : PySem.W.typeIn K (.ref C_TooMany) = some (.type "type")) (kC_TooMany : PySem.W.keepIn K (.ref C_TooMany) = true) (hd_TooMany : PySem.W.hasDictIn K C_TooMany = true) (ha_TooMany : PySem.W.findIn K (.ref C_TooMany) "__class__" = some (some (.builtin "object.__class__"))) (hm_TooMany : PySem.W.mroIn K C_TooMany (.type "object") = some true)
    (iC_TooMany : PySem.W.findIn K (.ref C_TooMany) "__init__" = some (some (.ref f_TooMany))) (tI_TooMany : PySem.W.typeIn K (.ref f_TooMany) = some (.type "function")) (il_TooMany : K.lookup f_TooMany = some ⟨ioc_TooMany, iod_TooMany, .func (PySem.W.fnOf "__init__" "TooMany.__init__" (defArgs s_TooMany_init) (defBody s_TooMany_init) (defScope s_TooMany_init) .none ikV_TooMany idc_TooMany ipm_TooMany ian_TooMany icd_TooMany ict_TooMany), isl_TooMany⟩) (ic_TooMany : PySem.W.codeIn K icd_TooMany "TooMany.__init__" = true) (ik_TooMany : PySem.W.keepIn K (.ref f_TooMany) = true)
    {nm_Full qn_Full : Str} {bs_Full sub_Full : List Value} {sn_Full : List Str} {ab_Full : Bool} {col_Full : Option Bool} {dd_Full : Option Addr} {m0_Full m1_Full m2_Full m3_Full m5_Full : Option Value}
    {ioc_Full idc_Full ipm_Full icd_Full ict_Full ikV_Full : Value} {iod_Full ian_Full : Option Addr} {isl_Full : Array (Option Value)}
    (aC_Full : PySem.W.nsIn K mainGlobals "Full" = some (some (.ref C_Full))) (xL_Full : K.lookup C_Full = some (excClassObj nm_Full qn_Full C_Full N_Full bs_Full (tlA "OverflowError") true sn_Full sub_Full ab_Full col_Full dd_Full m0_Full m1_Full m2_Full m3_Full m5_Full "OverflowError.__new__"))
    (sa_Full : PySem.W.findIn K (.ref C_Full) "__setattr__" = some (some (.builtin "object.__setattr__"))) (ga_Full : PySem.W.findIn K (.ref C_Full) "__getattribute__" = some (some (.builtin "BaseException.__getattribute__"))) (gg_Full : PySem.W.findIn K (.ref C_Full) "__getattr__" = some none) (nf_Full : PySem.W.findIn K (.ref C_Full) "many" = some none)
    (eC_Full : PySem.W.subIn K (.ref C_Full) (.type "BaseException") = some true) (tC_Full : PySem.W.typeIn K (.ref C_Full) = some (.type "type")) (kC_Full : PySem.W.keepIn K (.ref C_Full) = true) (hd_Full : PySem.W.hasDictIn K C_Full = true) (ha_Full : PySem.W.findIn K (.ref C_Full) "__class__" = some (some (.builtin "object.__class__"))) (hm_Full : PySem.W.mroIn K C_Full (.type "object") = some true)
    (iC_Full : PySem.W.findIn K (.ref C_Full) "__init__" = some (some (.ref f_Full))) (tI_Full : PySem.W.typeIn K (.ref f_Full) = some (.type "function")) (il_Full : K.lookup f_Full = some ⟨ioc_Full, iod_Full, .func (PySem.W.fnOf "__init__" "Full.__init__" (defArgs s_Full_init) (defBody s_Full_init) (defScope s_Full_init) .none ikV_Full idc_Full ipm_Full ian_Full icd_Full ict_Full), isl_Full⟩) (ic_Full : PySem.W.codeIn K icd_Full "Full.__init__" = true) (ik_Full : PySem.W.keepIn K (.ref f_Full) = true)
    (ghn : PySem.W.specialIn K (.builtin "object.__class__") "__get__" = some (some (.builtin "getset_descriptor.__get__"))) (ght : PySem.W.takesIn K (.builtin "object.__class__") = some true)
    (sb_Impossible_Impossible : PySem.W.subIn K (.ref C_Impossible) (.ref C_Impossible) = some true)
    (sb_Impossible_NoObject : PySem.W.subIn K (.ref C_Impossible) (.ref C_NoObject) = some false)
    (sb_Impossible_NoState : PySem.W.subIn K (.ref C_Impossible) (.ref C_NoState) = some false)
    (sb_Impossible_TooMany : PySem.W.subIn K (.ref C_Impossible) (.ref C_TooMany) = some false)
    (sb_Impossible_ValueError : PySem.W.subIn K (.ref C_Impossible) (.type "ValueError") = some true)
    (sb_Impossible_LookupError : PySem.W.subIn K (.ref C_Impossible) (.type "LookupError") = some false)
    (sb_Impossible_RuntimeError : PySem.W.subIn K (.ref C_Impossible) (.type "RuntimeError") = some false)
    (sb_Impossible_OverflowError : PySem.W.subIn K (.ref C_Impossible) (.type "OverflowError") = some false)
    (sb_Impossible_Needed : PySem.W.subIn K (.ref C_Impossible) (.ref C_Needed) = some false)
    (sb_Impossible_NoWay : PySem.W.subIn K (.ref C_Impossible) (.ref C_NoWay) = some false)
    (sb_Impossible_Full : PySem.W.subIn K (.ref C_Impossible) (.ref C_Full) = some false)
    (sb_NoObject_NoObject : PySem.W.subIn K (.ref C_NoObject) (.ref C_NoObject) = some true)
    (sb_NoObject_Impossible : PySem.W.subIn K (.ref C_NoObject) (.ref C_Impossible) = some false)
    (sb_NoObject_NoState : PySem.W.subIn K (.ref C_NoObject) (.ref C_NoState) = some false)
    (sb_NoObject_TooMany : PySem.W.subIn K (.ref C_NoObject) (.ref C_TooMany) = some false)
    (sb_NoObject_ValueError : PySem.W.subIn K (.ref C_NoObject) (.type "ValueError") = some false)
    (sb_NoObject_LookupError : PySem.W.subIn K (.ref C_NoObject) (.type "LookupError") = some true)
    (sb_NoObject_RuntimeError : PySem.W.subIn K (.ref C_NoObject) (.type "RuntimeError") = some false)
    (sb_NoObject_OverflowError : PySem.W.subIn K (.ref C_NoObject) (.type "OverflowError") = some false)
    (sb_NoObject_Needed : PySem.W.subIn K (.ref C_NoObject) (.ref C_Needed) = some false)
    (sb_NoObject_NoWay : PySem.W.subIn K (.ref C_NoObject) (.ref C_NoWay) = some false)
    (sb_NoObject_Full : PySem.W.subIn K (.ref C_NoObject) (.ref C_Full) = some false)
    (sb_NoState_NoState : PySem.W.subIn K (.ref C_NoState) (.ref C_NoState) = some true)
    (sb_NoState_Impossible : PySem.W.subIn K (.ref C_NoState) (.ref C_Impossible) = some false)
    (sb_NoState_NoObject : PySem.W.subIn K (.ref C_NoState) (.ref C_NoObject) = some false)
    (sb_NoState_TooMany : PySem.W.subIn K (.ref C_NoState) (.ref C_TooMany) = some false)
    (sb_NoState_ValueError : PySem.W.subIn K (.ref C_NoState) (.type "ValueError") = some false)
    (sb_NoState_LookupError : PySem.W.subIn K (.ref C_NoState) (.type "LookupError") = some true)
    (sb_NoState_RuntimeError : PySem.W.subIn K (.ref C_NoState) (.type "RuntimeError") = some false)
    (sb_NoState_OverflowError : PySem.W.subIn K (.ref C_NoState) (.type "OverflowError") = some false)
    (sb_NoState_Needed : PySem.W.subIn K (.ref C_NoState) (.ref C_Needed) = some false)
    (sb_NoState_NoWay : PySem.W.subIn K (.ref C_NoState) (.ref C_NoWay) = some false)
    (sb_NoState_Full : PySem.W.subIn K (.ref C_NoState) (.ref C_Full) = some false)
    (sb_Needed_Needed : PySem.W.subIn K (.ref C_Needed) (.ref C_Needed) = some true)
    (sb_Needed_Impossible : PySem.W.subIn K (.ref C_Needed) (.ref C_Impossible) = some false)
    (sb_Needed_NoObject : PySem.W.subIn K (.ref C_Needed) (.ref C_NoObject) = some false)
    (sb_Needed_NoState : PySem.W.subIn K (.ref C_Needed) (.ref C_NoState) = some false)
    (sb_Needed_TooMany : PySem.W.subIn K (.ref C_Needed) (.ref C_TooMany) = some false)
    (sb_Needed_ValueError : PySem.W.subIn K (.ref C_Needed) (.type "ValueError") = some false)
    (sb_Needed_LookupError : PySem.W.subIn K (.ref C_Needed) (.type "LookupError") = some false)
    (sb_Needed_RuntimeError : PySem.W.subIn K (.ref C_Needed) (.type "RuntimeError") = some true)
    (sb_Needed_OverflowError : PySem.W.subIn K (.ref C_Needed) (.type "OverflowError") = some false)
    (sb_Needed_NoWay : PySem.W.subIn K (.ref C_Needed) (.ref C_NoWay) = some false)
    (sb_Needed_Full : PySem.W.subIn K (.ref C_Needed) (.ref C_Full) = some false)
    (sb_NoWay_NoWay : PySem.W.subIn K (.ref C_NoWay) (.ref C_NoWay) = some true)
    (sb_NoWay_Impossible : PySem.W.subIn K (.ref C_NoWay) (.ref C_Impossible) = some false)
    (sb_NoWay_NoObject : PySem.W.subIn K (.ref C_NoWay) (.ref C_NoObject) = some false)
    (sb_NoWay_NoState : PySem.W.subIn K (.ref C_NoWay) (.ref C_NoState) = some false)
    (sb_NoWay_TooMany : PySem.W.subIn K (.ref C_NoWay) (.ref C_TooMany) = some false)
    (sb_NoWay_ValueError : PySem.W.subIn K (.ref C_NoWay) (.type "ValueError") = some false)
    (sb_NoWay_LookupError : PySem.W.subIn K (.ref C_NoWay) (.type "LookupError") = some false)
    (sb_NoWay_RuntimeError : PySem.W.subIn K (.ref C_NoWay) (.type "RuntimeError") = some true)
    (sb_NoWay_OverflowError : PySem.W.subIn K (.ref C_NoWay) (.type "OverflowError") = some false)
    (sb_NoWay_Needed : PySem.W.subIn K (.ref C_NoWay) (.ref C_Needed) = some false)
    (sb_NoWay_Full : PySem.W.subIn K (.ref C_NoWay) (.ref C_Full) = some false)
    (sb_Full_Full : PySem.W.subIn K (.ref C_Full) (.ref C_Full) = some true)
    (sb_Full_Impossible : PySem.W.subIn K (.ref C_Full) (.ref C_Impossible) = some false)
    (sb_Full_NoObject : PySem.W.subIn K (.ref C_Full) (.ref C_NoObject) = some false)
    (sb_Full_NoState : PySem.W.subIn K (.ref C_Full) (.ref C_NoState) = some false)
    (sb_Full_TooMany : PySem.W.subIn K (.ref C_Full) (.ref C_TooMany) = some false)
    (sb_Full_ValueError : PySem.W.subIn K (.ref C_Full) (.type "ValueError") = some false)
    (sb_Full_LookupError : PySem.W.subIn K (.ref C_Full) (.type "LookupError") = some false)
    (sb_Full_RuntimeError : PySem.W.subIn K (.ref C_Full) (.type "RuntimeError") = some false)
    (sb_Full_OverflowError : PySem.W.subIn K (.ref C_Full) (.type "OverflowError") = some true)
    (sb_Full_Needed : PySem.W.subIn K (.ref C_Full) (.ref C_Needed) = some false)
    (sb_Full_NoWay : PySem.W.subIn K (.ref C_Full) (.ref C_NoWay) = some false)
    (sb_TooMany_TooMany : PySem.W.subIn K (.ref C_TooMany) (.ref C_TooMany) = some true)
    (sb_TooMany_Impossible : PySem.W.subIn K (.ref C_TooMany) (.ref C_Impossible) = some false)
    (sb_TooMany_NoObject : PySem.W.subIn K (.ref C_TooMany) (.ref C_NoObject) = some false)
    (sb_TooMany_NoState : PySem.W.subIn K (.ref C_TooMany) (.ref C_NoState) = some false)
    (sb_TooMany_ValueError : PySem.W.subIn K (.ref C_TooMany) (.type "ValueError") = some false)
    (sb_TooMany_LookupError : PySem.W.subIn K (.ref C_TooMany) (.type "LookupError") = some false)
    (sb_TooMany_RuntimeError : PySem.W.subIn K (.ref C_TooMany) (.type "RuntimeError") = some false)
    (sb_TooMany_OverflowError : PySem.W.subIn K (.ref C_TooMany) (.type "OverflowError") = some true)
    (sb_TooMany_Needed : PySem.W.subIn K (.ref C_TooMany) (.ref C_Needed) = some false)
    (sb_TooMany_NoWay : PySem.W.subIn K (.ref C_TooMany) (.ref C_NoWay) = some false)
    (sb_TooMany_Full : PySem.W.subIn K (.ref C_TooMany) (.ref C_Full) = some false)
    {C_Store : Addr} (aC_Store : PySem.W.nsIn K mainGlobals "Store" = some (some (.ref C_Store))) (pg_Store : PySem.W.plainGet K C_Store Str.empty = true) (hd_Store : PySem.W.hasDictIn K C_Store = true) (po_Store : PySem.W.plainOver K C_Store = true) (sa_Store : PySem.W.findIn K (.ref C_Store) "__setattr__" = some (some (.builtin "object.__setattr__"))) (mk_Store : PySem.W.makesIn K C_Store = true) (kc_Store : PySem.W.keepIn K (.ref C_Store) = true)
    (nf_Store_states : PySem.W.findIn K (.ref C_Store) "states" = some none)
    (nf_Store_events : PySem.W.findIn K (.ref C_Store) "events" = some none)
    {f_Store___init__ : Addr} {od_Store___init__ an_Store___init__ : Option Addr} {sl_Store___init__ : Array (Option Value)} {oc_Store___init__ kV_Store___init__ dc_Store___init__ pm_Store___init__ cd_Store___init__ ct_Store___init__ : Value} (ma_Store___init__ : PySem.W.findIn K (.ref C_Store) "__init__" = some (some (.ref f_Store___init__))) (mi_Store___init__ : PySem.W.isFn K (.ref f_Store___init__) = true) (ml_Store___init__ : K.lookup f_Store___init__ = some ⟨oc_Store___init__, od_Store___init__, .func (PySem.W.fnOf "__init__" "Store.__init__" (defArgs s_Store___init__) (defBody s_Store___init__) (defScope s_Store___init__) .none kV_Store___init__ dc_Store___init__ pm_Store___init__ an_Store___init__ cd_Store___init__ ct_Store___init__), sl_Store___init__⟩) (mc_Store___init__ : PySem.W.codeIn K cd_Store___init__ "Store.__init__" = true) (mp_Store___init__ : PySem.W.keepIn K (.ref f_Store___init__) = true)
    {f_Store_put_in : Addr} {od_Store_put_in an_Store_put_in : Option Addr} {sl_Store_put_in : Array (Option Value)} {oc_Store_put_in kV_Store_put_in dc_Store_put_in pm_Store_put_in cd_Store_put_in ct_Store_put_in : Value} (ma_Store_put_in : PySem.W.findIn K (.ref C_Store) "put_in" = some (some (.ref f_Store_put_in))) (mi_Store_put_in : PySem.W.isFn K (.ref f_Store_put_in) = true) (ml_Store_put_in : K.lookup f_Store_put_in = some ⟨oc_Store_put_in, od_Store_put_in, .func (PySem.W.fnOf "put_in" "Store.put_in" (defArgs s_Store_put_in) (defBody s_Store_put_in) (defScope s_Store_put_in) .none kV_Store_put_in dc_Store_put_in pm_Store_put_in an_Store_put_in cd_Store_put_in ct_Store_put_in), sl_Store_put_in⟩) (mc_Store_put_in : PySem.W.codeIn K cd_Store_put_in "Store.put_in" = true) (mp_Store_put_in : PySem.W.keepIn K (.ref f_Store_put_in) = true)
    {f_Store_put : Addr} {od_Store_put an_Store_put : Option Addr} {sl_Store_put : Array (Option Value)} {oc_Store_put kV_Store_put dc_Store_put pm_Store_put cd_Store_put ct_Store_put : Value} (ma_Store_put : PySem.W.findIn K (.ref C_Store) "put" = some (some (.ref f_Store_put))) (mi_Store_put : PySem.W.isFn K (.ref f_Store_put) = true) (ml_Store_put : K.lookup f_Store_put = some ⟨oc_Store_put, od_Store_put, .func (PySem.W.fnOf "put" "Store.put" (defArgs s_Store_put) (defBody s_Store_put) (defScope s_Store_put) .none kV_Store_put dc_Store_put pm_Store_put an_Store_put cd_Store_put ct_Store_put), sl_Store_put⟩) (mc_Store_put : PySem.W.codeIn K cd_Store_put "Store.put" = true) (mp_Store_put : PySem.W.keepIn K (.ref f_Store_put) = true)
    {f_Store_put_all : Addr} {od_Store_put_all an_Store_put_all : Option Addr} {sl_Store_put_all : Array (Option Value)} {oc_Store_put_all kV_Store_put_all dc_Store_put_all pm_Store_put_all cd_Store_put_all ct_Store_put_all : Value} (ma_Store_put_all : PySem.W.findIn K (.ref C_Store) "put_all" = some (some (.ref f_Store_put_all))) (mi_Store_put_all : PySem.W.isFn K (.ref f_Store_put_all) = true) (ml_Store_put_all : K.lookup f_Store_put_all = some ⟨oc_Store_put_all, od_Store_put_all, .func (PySem.W.fnOf "put_all" "Store.put_all" (defArgs s_Store_put_all) (defBody s_Store_put_all) (defScope s_Store_put_all) .none kV_Store_put_all dc_Store_put_all pm_Store_put_all an_Store_put_all cd_Store_put_all ct_Store_put_all), sl_Store_put_all⟩) (mc_Store_put_all : PySem.W.codeIn K cd_Store_put_all "Store.put_all" = true) (mp_Store_put_all : PySem.W.keepIn K (.ref f_Store_put_all) = true)
    {f_Store_take_out : Addr} {od_Store_take_out an_Store_take_out : Option Addr} {sl_Store_take_out : Array (Option Value)} {oc_Store_take_out kV_Store_take_out dc_Store_take_out pm_Store_take_out cd_Store_take_out ct_Store_take_out : Value} (ma_Store_take_out : PySem.W.findIn K (.ref C_Store) "take_out" = some (some (.ref f_Store_take_out))) (mi_Store_take_out : PySem.W.isFn K (.ref f_Store_take_out) = true) (ml_Store_take_out : K.lookup f_Store_take_out = some ⟨oc_Store_take_out, od_Store_take_out, .func (PySem.W.fnOf "take_out" "Store.take_out" (defArgs s_Store_take_out) (defBody s_Store_take_out) (defScope s_Store_take_out) .none kV_Store_take_out dc_Store_take_out pm_Store_take_out an_Store_take_out cd_Store_take_out ct_Store_take_out), sl_Store_take_out⟩) (mc_Store_take_out : PySem.W.codeIn K cd_Store_take_out "Store.take_out" = true) (mp_Store_take_out : PySem.W.keepIn K (.ref f_Store_take_out) = true)
    {f_Store_forget : Addr} {od_Store_forget an_Store_forget : Option Addr} {sl_Store_forget : Array (Option Value)} {oc_Store_forget kV_Store_forget dc_Store_forget pm_Store_forget cd_Store_forget ct_Store_forget : Value} (ma_Store_forget : PySem.W.findIn K (.ref C_Store) "forget" = some (some (.ref f_Store_forget))) (mi_Store_forget : PySem.W.isFn K (.ref f_Store_forget) = true) (ml_Store_forget : K.lookup f_Store_forget = some ⟨oc_Store_forget, od_Store_forget, .func (PySem.W.fnOf "forget" "Store.forget" (defArgs s_Store_forget) (defBody s_Store_forget) (defScope s_Store_forget) .none kV_Store_forget dc_Store_forget pm_Store_forget an_Store_forget cd_Store_forget ct_Store_forget), sl_Store_forget⟩) (mc_Store_forget : PySem.W.codeIn K cd_Store_forget "Store.forget" = true) (mp_Store_forget : PySem.W.keepIn K (.ref f_Store_forget) = true)
    {f_Store_undo : Addr} {od_Store_undo an_Store_undo : Option Addr} {sl_Store_undo : Array (Option Value)} {oc_Store_undo kV_Store_undo dc_Store_undo pm_Store_undo cd_Store_undo ct_Store_undo : Value} (ma_Store_undo : PySem.W.findIn K (.ref C_Store) "undo" = some (some (.ref f_Store_undo))) (mi_Store_undo : PySem.W.isFn K (.ref f_Store_undo) = true) (ml_Store_undo : K.lookup f_Store_undo = some ⟨oc_Store_undo, od_Store_undo, .func (PySem.W.fnOf "undo" "Store.undo" (defArgs s_Store_undo) (defBody s_Store_undo) (defScope s_Store_undo) .none kV_Store_undo dc_Store_undo pm_Store_undo an_Store_undo cd_Store_undo ct_Store_undo), sl_Store_undo⟩) (mc_Store_undo : PySem.W.codeIn K cd_Store_undo "Store.undo" = true) (mp_Store_undo : PySem.W.keepIn K (.ref f_Store_undo) = true)
    {f_Store_table : Addr} {od_Store_table an_Store_table : Option Addr} {sl_Store_table : Array (Option Value)} {oc_Store_table kV_Store_table dc_Store_table pm_Store_table cd_Store_table ct_Store_table : Value} (ma_Store_table : PySem.W.findIn K (.ref C_Store) "table" = some (some (.ref f_Store_table))) (mi_Store_table : PySem.W.isFn K (.ref f_Store_table) = true) (ml_Store_table : K.lookup f_Store_table = some ⟨oc_Store_table, od_Store_table, .func (PySem.W.fnOf "table" "Store.table" (defArgs s_Store_table) (defBody s_Store_table) (defScope s_Store_table) .none kV_Store_table dc_Store_table pm_Store_table an_Store_table cd_Store_table ct_Store_table), sl_Store_table⟩) (mc_Store_table : PySem.W.codeIn K cd_Store_table "Store.table" = true) (mp_Store_table : PySem.W.keepIn K (.ref f_Store_table) = true)
    {f_Store_order : Addr} {od_Store_order an_Store_order : Option Addr} {sl_Store_order : Array (Option Value)} {oc_Store_order kV_Store_order dc_Store_order pm_Store_order cd_Store_order ct_Store_order : Value} (ma_Store_order : PySem.W.findIn K (.ref C_Store) "order" = some (some (.ref f_Store_order))) (mi_Store_order : PySem.W.isFn K (.ref f_Store_order) = true) (ml_Store_order : K.lookup f_Store_order = some ⟨oc_Store_order, od_Store_order, .func (PySem.W.fnOf "order" "Store.order" (defArgs s_Store_order) (defBody s_Store_order) (defScope s_Store_order) .none kV_Store_order dc_Store_order pm_Store_order an_Store_order cd_Store_order ct_Store_order), sl_Store_order⟩) (mc_Store_order : PySem.W.codeIn K cd_Store_order "Store.order" = true) (mp_Store_order : PySem.W.keepIn K (.ref f_Store_order) = true)
    {f_Store_count : Addr} {od_Store_count an_Store_count : Option Addr} {sl_Store_count : Array (Option Value)} {oc_Store_count kV_Store_count dc_Store_count pm_Store_count cd_Store_count ct_Store_count : Value} (ma_Store_count : PySem.W.findIn K (.ref C_Store) "count" = some (some (.ref f_Store_count))) (mi_Store_count : PySem.W.isFn K (.ref f_Store_count) = true) (ml_Store_count : K.lookup f_Store_count = some ⟨oc_Store_count, od_Store_count, .func (PySem.W.fnOf "count" "Store.count" (defArgs s_Store_count) (defBody s_Store_count) (defScope s_Store_count) .none kV_Store_count dc_Store_count pm_Store_count an_Store_count cd_Store_count ct_Store_count), sl_Store_count⟩) (mc_Store_count : PySem.W.codeIn K cd_Store_count "Store.count" = true) (mp_Store_count : PySem.W.keepIn K (.ref f_Store_count) = true)
    {f_Store_histories : Addr} {od_Store_histories an_Store_histories : Option Addr} {sl_Store_histories : Array (Option Value)} {oc_Store_histories kV_Store_histories dc_Store_histories pm_Store_histories cd_Store_histories ct_Store_histories : Value} (ma_Store_histories : PySem.W.findIn K (.ref C_Store) "histories" = some (some (.ref f_Store_histories))) (mi_Store_histories : PySem.W.isFn K (.ref f_Store_histories) = true) (ml_Store_histories : K.lookup f_Store_histories = some ⟨oc_Store_histories, od_Store_histories, .func (PySem.W.fnOf "histories" "Store.histories" (defArgs s_Store_histories) (defBody s_Store_histories) (defScope s_Store_histories) .none kV_Store_histories dc_Store_histories pm_Store_histories an_Store_histories cd_Store_histories ct_Store_histories), sl_Store_histories⟩) (mc_Store_histories : PySem.W.codeIn K cd_Store_histories "Store.histories" = true) (mp_Store_histories : PySem.W.keepIn K (.ref f_Store_histories) = true)
    {f_Store_operations : Addr} {od_Store_operations an_Store_operations : Option Addr} {sl_Store_operations : Array (Option Value)} {oc_Store_operations kV_Store_operations dc_Store_operations pm_Store_operations cd_Store_operations ct_Store_operations : Value} (ma_Store_operations : PySem.W.findIn K (.ref C_Store) "operations" = some (some (.ref f_Store_operations))) (mi_Store_operations : PySem.W.isFn K (.ref f_Store_operations) = true) (ml_Store_operations : K.lookup f_Store_operations = some ⟨oc_Store_operations, od_Store_operations, .func (PySem.W.fnOf "operations" "Store.operations" (defArgs s_Store_operations) (defBody s_Store_operations) (defScope s_Store_operations) .none kV_Store_operations dc_Store_operations pm_Store_operations an_Store_operations cd_Store_operations ct_Store_operations), sl_Store_operations⟩) (mc_Store_operations : PySem.W.codeIn K cd_Store_operations "Store.operations" = true) (mp_Store_operations : PySem.W.keepIn K (.ref f_Store_operations) = true)
    {f_Store_journal : Addr} {od_Store_journal an_Store_journal : Option Addr} {sl_Store_journal : Array (Option Value)} {oc_Store_journal kV_Store_journal dc_Store_journal pm_Store_journal cd_Store_journal ct_Store_journal : Value} (ma_Store_journal : PySem.W.findIn K (.ref C_Store) "journal" = some (some (.ref f_Store_journal))) (mi_Store_journal : PySem.W.isFn K (.ref f_Store_journal) = true) (ml_Store_journal : K.lookup f_Store_journal = some ⟨oc_Store_journal, od_Store_journal, .func (PySem.W.fnOf "journal" "Store.journal" (defArgs s_Store_journal) (defBody s_Store_journal) (defScope s_Store_journal) .none kV_Store_journal dc_Store_journal pm_Store_journal an_Store_journal cd_Store_journal ct_Store_journal), sl_Store_journal⟩) (mc_Store_journal : PySem.W.codeIn K cd_Store_journal "Store.journal" = true) (mp_Store_journal : PySem.W.keepIn K (.ref f_Store_journal) = true)
    {f_Store_as_of : Addr} {od_Store_as_of an_Store_as_of : Option Addr} {sl_Store_as_of : Array (Option Value)} {oc_Store_as_of kV_Store_as_of dc_Store_as_of pm_Store_as_of cd_Store_as_of ct_Store_as_of : Value} (ma_Store_as_of : PySem.W.findIn K (.ref C_Store) "as_of" = some (some (.ref f_Store_as_of))) (mi_Store_as_of : PySem.W.isFn K (.ref f_Store_as_of) = true) (ml_Store_as_of : K.lookup f_Store_as_of = some ⟨oc_Store_as_of, od_Store_as_of, .func (PySem.W.fnOf "as_of" "Store.as_of" (defArgs s_Store_as_of) (defBody s_Store_as_of) (defScope s_Store_as_of) .none kV_Store_as_of dc_Store_as_of pm_Store_as_of an_Store_as_of cd_Store_as_of ct_Store_as_of), sl_Store_as_of⟩) (mc_Store_as_of : PySem.W.codeIn K cd_Store_as_of "Store.as_of" = true) (mp_Store_as_of : PySem.W.keepIn K (.ref f_Store_as_of) = true)
    {f_Store___eq__ : Addr} {od_Store___eq__ an_Store___eq__ : Option Addr} {sl_Store___eq__ : Array (Option Value)} {oc_Store___eq__ kV_Store___eq__ dc_Store___eq__ pm_Store___eq__ cd_Store___eq__ ct_Store___eq__ : Value} (ma_Store___eq__ : PySem.W.findIn K (.ref C_Store) "__eq__" = some (some (.ref f_Store___eq__))) (mi_Store___eq__ : PySem.W.isFn K (.ref f_Store___eq__) = true) (ml_Store___eq__ : K.lookup f_Store___eq__ = some ⟨oc_Store___eq__, od_Store___eq__, .func (PySem.W.fnOf "__eq__" "Store.__eq__" (defArgs s_Store___eq__) (defBody s_Store___eq__) (defScope s_Store___eq__) .none kV_Store___eq__ dc_Store___eq__ pm_Store___eq__ an_Store___eq__ cd_Store___eq__ ct_Store___eq__), sl_Store___eq__⟩) (mc_Store___eq__ : PySem.W.codeIn K cd_Store___eq__ "Store.__eq__" = true) (mp_Store___eq__ : PySem.W.keepIn K (.ref f_Store___eq__) = true)
    {f_Store___len__ : Addr} {od_Store___len__ an_Store___len__ : Option Addr} {sl_Store___len__ : Array (Option Value)} {oc_Store___len__ kV_Store___len__ dc_Store___len__ pm_Store___len__ cd_Store___len__ ct_Store___len__ : Value} (ma_Store___len__ : PySem.W.findIn K (.ref C_Store) "__len__" = some (some (.ref f_Store___len__))) (mi_Store___len__ : PySem.W.isFn K (.ref f_Store___len__) = true) (ml_Store___len__ : K.lookup f_Store___len__ = some ⟨oc_Store___len__, od_Store___len__, .func (PySem.W.fnOf "__len__" "Store.__len__" (defArgs s_Store___len__) (defBody s_Store___len__) (defScope s_Store___len__) .none kV_Store___len__ dc_Store___len__ pm_Store___len__ an_Store___len__ cd_Store___len__ ct_Store___len__), sl_Store___len__⟩) (mc_Store___len__ : PySem.W.codeIn K cd_Store___len__ "Store.__len__" = true) (mp_Store___len__ : PySem.W.keepIn K (.ref f_Store___len__) = true)
    {f_Store___repr__ : Addr} {od_Store___repr__ an_Store___repr__ : Option Addr} {sl_Store___repr__ : Array (Option Value)} {oc_Store___repr__ kV_Store___repr__ dc_Store___repr__ pm_Store___repr__ cd_Store___repr__ ct_Store___repr__ : Value} (ma_Store___repr__ : PySem.W.findIn K (.ref C_Store) "__repr__" = some (some (.ref f_Store___repr__))) (mi_Store___repr__ : PySem.W.isFn K (.ref f_Store___repr__) = true) (ml_Store___repr__ : K.lookup f_Store___repr__ = some ⟨oc_Store___repr__, od_Store___repr__, .func (PySem.W.fnOf "__repr__" "Store.__repr__" (defArgs s_Store___repr__) (defBody s_Store___repr__) (defScope s_Store___repr__) .none kV_Store___repr__ dc_Store___repr__ pm_Store___repr__ an_Store___repr__ cd_Store___repr__ ct_Store___repr__), sl_Store___repr__⟩) (mc_Store___repr__ : PySem.W.codeIn K cd_Store___repr__ "Store.__repr__" = true) (mp_Store___repr__ : PySem.W.keepIn K (.ref f_Store___repr__) = true)
    {tk_UNKNOWN : Tok} (u_UNKNOWN : PySem.W.nsIn K mainGlobals "UNKNOWN" = some (some (Value.str "?" tk_UNKNOWN))) :
    ∃ (fd : FuncData) (cs : List (Addr × Addr)), (∀ (s : Shared) (v : Value), BindsTo s fd ⟨[v], []⟩ [("_law_script", v)]) ∧ (∀ p ∈ cs, h.get? p.2 = some { cls := .none, data := .fields #[] } ∧ PySem.W.CodeHd h p.1 p.2) ∧ ∀ base : Heap, K.In base → base.Ns mainGlobals mg → (∀ p ∈ cs, LamX.TabB base mg p.1 p.2) → FnOkG l.prog w K mg base lawLevel fa fd ["_law_script"] (spLaw K (cs.map (·.2))) := by
  have e := hfa.symm.trans (PySem.W.mg_of X G a57)
  cases e
  have D11 : Df K mg "nearness" s_nearness ["cell", "wish"] _ _ := ⟨fun_mk (st := s_nearness) l11 c11 k11, (fun_mk (st := s_nearness) l11 c11 k11).binds (ps := ["cell", "wish"]) fun _ _ _ _ _ _ us hl => match us, hl with | [_, _], _ => rfl, PySem.W.mg_of X G a11⟩
  have D12 : Df K mg "needs" s_needs ["size", "cell", "wish"] _ _ := ⟨fun_mk (st := s_needs) l12 c12 k12, (fun_mk (st := s_needs) l12 c12 k12).binds (ps := ["size", "cell", "wish"]) fun _ _ _ _ _ _ us hl => match us, hl with | [_, _, _], _ => rfl, PySem.W.mg_of X G a12⟩
  have D13 : Df K mg "nearest" s_nearest ["table", "wish"] _ _ := ⟨fun_mk (st := s_nearest) l13 c13 k13, (fun_mk (st := s_nearest) l13 c13 k13).binds (ps := ["table", "wish"]) fun _ _ _ _ _ _ us hl => match us, hl with | [_, _], _ => rfl, PySem.W.mg_of X G a13⟩
  have D14 : Df K mg "put_into" s_put_into ["table", "wishes"] _ _ := ⟨fun_mk (st := s_put_into) l14 c14 k14, (fun_mk (st := s_put_into) l14 c14 k14).binds (ps := ["table", "wishes"]) fun _ _ _ _ _ _ us hl => match us, hl with | [_, _], _ => rfl, PySem.W.mg_of X G a14⟩
  have D16 : Df K mg "taken_cells" s_taken_cells ["table"] _ _ := ⟨fun_mk (st := s_taken_cells) l16 c16 k16, (fun_mk (st := s_taken_cells) l16 c16 k16).binds (ps := ["table"]) fun _ _ _ _ _ _ us hl => match us, hl with | [_], _ => rfl, PySem.W.mg_of X G a16⟩
  have D17 : Df K mg "needed_cells" s_needed_cells ["table", "cell"] _ _ := ⟨fun_mk (st := s_needed_cells) l17 c17 k17, (fun_mk (st := s_needed_cells) l17 c17 k17).binds (ps := ["table", "cell"]) fun _ _ _ _ _ _ us hl => match us, hl with | [_, _], _ => rfl, PySem.W.mg_of X G a17⟩
  have D18 : Df K mg "first_gap" s_first_gap ["table"] _ _ := ⟨fun_mk (st := s_first_gap) l18 c18 k18, (fun_mk (st := s_first_gap) l18 c18 k18).binds (ps := ["table"]) fun _ _ _ _ _ _ us hl => match us, hl with | [_], _ => rfl, PySem.W.mg_of X G a18⟩
  have D19 : Df K mg "need_one_another" s_need_one_another ["table", "one", "other"] _ _ := ⟨fun_mk (st := s_need_one_another) l19 c19 k19, (fun_mk (st := s_need_one_another) l19 c19 k19).binds (ps := ["table", "one", "other"]) fun _ _ _ _ _ _ us hl => match us, hl with | [_, _, _], _ => rfl, PySem.W.mg_of X G a19⟩
  have D20 : Df K mg "first_both" s_first_both ["table"] _ _ := ⟨fun_mk (st := s_first_both) l20 c20 k20, (fun_mk (st := s_first_both) l20 c20 k20).binds (ps := ["table"]) fun _ _ _ _ _ _ us hl => match us, hl with | [_], _ => rfl, PySem.W.mg_of X G a20⟩
  have D21 : Df K mg "possible" s_possible ["table"] _ _ := ⟨fun_mk (st := s_possible) l21 c21 k21, (fun_mk (st := s_possible) l21 c21 k21).binds (ps := ["table"]) fun _ _ _ _ _ _ us hl => match us, hl with | [_], _ => rfl, PySem.W.mg_of X G a21⟩
  have D22 : Df K mg "require_object" s_require_object ["table", "cell"] _ _ := ⟨fun_mk (st := s_require_object) l22 c22 k22, (fun_mk (st := s_require_object) l22 c22 k22).binds (ps := ["table", "cell"]) fun _ _ _ _ _ _ us hl => match us, hl with | [_, _], _ => rfl, PySem.W.mg_of X G a22⟩
  have D23 : Df K mg "comes_after_needed" s_comes_after_needed ["table", "cell", "came"] _ _ := ⟨fun_mk (st := s_comes_after_needed) l23 c23 k23, (fun_mk (st := s_comes_after_needed) l23 c23 k23).binds (ps := ["table", "cell", "came"]) fun _ _ _ _ _ _ us hl => match us, hl with | [_, _, _], _ => rfl, PySem.W.mg_of X G a23⟩
  have D24 : Df K mg "first_misfit" s_first_misfit ["table", "cells"] _ _ := ⟨fun_mk (st := s_first_misfit) l24 c24 k24, (fun_mk (st := s_first_misfit) l24 c24 k24).binds (ps := ["table", "cells"]) fun _ _ _ _ _ _ us hl => match us, hl with | [_, _], _ => rfl, PySem.W.mg_of X G a24⟩
  have D26 : Df K mg "choose" s_choose ["many", "some"] _ _ := ⟨fun_mk (st := s_choose) l26 c26 k26, (fun_mk (st := s_choose) l26 c26 k26).binds (ps := ["many", "some"]) fun _ _ _ _ _ _ us hl => match us, hl with | [_, _], _ => rfl, PySem.W.mg_of X G a26⟩
  have D27 : Df K mg "span" s_span ["table", "rest", "at"] _ _ := ⟨fun_mk (st := s_span) l27 c27 k27, (fun_mk (st := s_span) l27 c27 k27).binds (ps := ["table", "rest", "at"]) fun _ _ _ _ _ _ us hl => match us, hl with | [_, _, _], _ => rfl, PySem.W.mg_of X G a27⟩
  have D28 : Df K mg "spans_of" s_spans_of ["table", "rest"] _ _ := ⟨fun_mk (st := s_spans_of) l28 c28 k28, (fun_mk (st := s_spans_of) l28 c28 k28).binds (ps := ["table", "rest"]) fun _ _ _ _ _ _ us hl => match us, hl with | [_, _], _ => rfl, PySem.W.mg_of X G a28⟩
  have D29 : Df K mg "within_part" s_within_part ["own", "first", "end"] _ _ := ⟨fun_mk (st := s_within_part) l29 c29 k29, (fun_mk (st := s_within_part) l29 c29 k29).binds (ps := ["own", "first", "end"]) fun _ _ _ _ _ _ us hl => match us, hl with | [_, _, _], _ => rfl, PySem.W.mg_of X G a29⟩
  have D30 : Df K mg "lasts" s_lasts ["spans", "first", "end"] _ _ := ⟨fun_mk (st := s_lasts) l30 c30 k30, (fun_mk (st := s_lasts) l30 c30 k30).binds (ps := ["spans", "first", "end"]) fun _ _ _ _ _ _ us hl => match us, hl with | [_, _, _], _ => rfl, PySem.W.mg_of X G a30⟩
  have D31 : Df K mg "count_with_last" s_count_with_last ["counts", "first", "last", "end"] _ _ := ⟨fun_mk (st := s_count_with_last) l31 c31 k31, (fun_mk (st := s_count_with_last) l31 c31 k31).binds (ps := ["counts", "first", "last", "end"]) fun _ _ _ _ _ _ us hl => match us, hl with | [_, _, _, _], _ => rfl, PySem.W.mg_of X G a31⟩
  have D32 : Df K mg "parts_of" s_parts_of ["many"] _ _ := ⟨fun_mk (st := s_parts_of) l32 c32 k32, (fun_mk (st := s_parts_of) l32 c32 k32).binds (ps := ["many"]) fun _ _ _ _ _ _ us hl => match us, hl with | [_], _ => rfl, PySem.W.mg_of X G a32⟩
  have D33 : Df K mg "part_counts" s_part_counts ["spans"] _ _ := ⟨fun_mk (st := s_part_counts) l33 c33 k33, (fun_mk (st := s_part_counts) l33 c33 k33).binds (ps := ["spans"]) fun _ _ _ _ _ _ us hl => match us, hl with | [_], _ => rfl, PySem.W.mg_of X G a33⟩
  have D34 : Df K mg "count_between" s_count_between ["table", "came", "cells"] _ _ := ⟨fun_mk (st := s_count_between) l34 c34 k34, (fun_mk (st := s_count_between) l34 c34 k34).binds (ps := ["table", "came", "cells"]) fun _ _ _ _ _ _ us hl => match us, hl with | [_, _, _], _ => rfl, PySem.W.mg_of X G a34⟩
  have D35 : Df K mg "count_rest" s_count_rest ["table", "came"] _ _ := ⟨fun_mk (st := s_count_rest) l35 c35 k35, (fun_mk (st := s_count_rest) l35 c35 k35).binds (ps := ["table", "came"]) fun _ _ _ _ _ _ us hl => match us, hl with | [_, _], _ => rfl, PySem.W.mg_of X G a35⟩
  have D36 : Df K mg "starts_order" s_starts_order ["table", "cells"] _ _ := ⟨fun_mk (st := s_starts_order) l36 c36 k36, (fun_mk (st := s_starts_order) l36 c36 k36).binds (ps := ["table", "cells"]) fun _ _ _ _ _ _ us hl => match us, hl with | [_, _], _ => rfl, PySem.W.mg_of X G a36⟩
  have D37 : Df K mg "count_orders" s_count_orders ["table"] _ _ := ⟨fun_mk (st := s_count_orders) l37 c37 k37, (fun_mk (st := s_count_orders) l37 c37 k37).binds (ps := ["table"]) fun _ _ _ _ _ _ us hl => match us, hl with | [_], _ => rfl, PySem.W.mg_of X G a37⟩
  have D38 : Df K mg "count_after" s_count_after ["table", "beginning"] _ _ := ⟨fun_mk (st := s_count_after) l38 c38 k38, (fun_mk (st := s_count_after) l38 c38 k38).binds (ps := ["table", "beginning"]) fun _ _ _ _ _ _ us hl => match us, hl with | [_, _], _ => rfl, PySem.W.mg_of X G a38⟩
  have D40 : Df K mg "needed_by" s_needed_by ["table", "cell"] _ _ := ⟨fun_mk (st := s_needed_by) l40 c40 k40, (fun_mk (st := s_needed_by) l40 c40 k40).binds (ps := ["table", "cell"]) fun _ _ _ _ _ _ us hl => match us, hl with | [_, _], _ => rfl, PySem.W.mg_of X G a40⟩
  have D41 : Df K mg "left" s_left ["table", "cell"] _ _ := ⟨fun_mk (st := s_left) l41 c41 k41, (fun_mk (st := s_left) l41 c41 k41).binds (ps := ["table", "cell"]) fun _ _ _ _ _ _ us hl => match us, hl with | [_, _], _ => rfl, PySem.W.mg_of X G a41⟩
  have D43 : Df K mg "wish_choices" s_wish_choices ["table", "cell"] _ _ := ⟨fun_mk (st := s_wish_choices) l43 c43 k43, (fun_mk (st := s_wish_choices) l43 c43 k43).binds (ps := ["table", "cell"]) fun _ _ _ _ _ _ us hl => match us, hl with | [_, _], _ => rfl, PySem.W.mg_of X G a43⟩
  have D44 : Df K mg "choice_spans" s_choice_spans ["table", "row", "at"] _ _ := ⟨fun_mk (st := s_choice_spans) l44 c44 k44, (fun_mk (st := s_choice_spans) l44 c44 k44).binds (ps := ["table", "row", "at"]) fun _ _ _ _ _ _ us hl => match us, hl with | [_, _, _], _ => rfl, PySem.W.mg_of X G a44⟩
  have D45 : Df K mg "histories_of_part" s_histories_of_part ["choices", "counts", "first", "end"] _ _ := ⟨fun_mk (st := s_histories_of_part) l45 c45 k45, (fun_mk (st := s_histories_of_part) l45 c45 k45).binds (ps := ["choices", "counts", "first", "end"]) fun _ _ _ _ _ _ us hl => match us, hl with | [_, _, _, _], _ => rfl, PySem.W.mg_of X G a45⟩
  have D46 : Df K mg "count_histories" s_count_histories ["table"] _ _ := ⟨fun_mk (st := s_count_histories) l46 c46 k46, (fun_mk (st := s_count_histories) l46 c46 k46).binds (ps := ["table"]) fun _ _ _ _ _ _ us hl => match us, hl with | [_], _ => rfl, PySem.W.mg_of X G a46⟩
  have D47 : Df K mg "with_wish" s_with_wish ["table", "cell", "wish"] _ _ := ⟨fun_mk (st := s_with_wish) l47 c47 k47, (fun_mk (st := s_with_wish) l47 c47 k47).binds (ps := ["table", "cell", "wish"]) fun _ _ _ _ _ _ us hl => match us, hl with | [_, _, _], _ => rfl, PySem.W.mg_of X G a47⟩
  have D51 : Df K mg "_law_source" s_law_source ["_law_script", "_law_index"] _ _ := ⟨fun_mk (st := s_law_source) l51 c51 k51, (fun_mk (st := s_law_source) l51 c51 k51).binds (ps := ["_law_script", "_law_index"]) fun _ _ _ _ _ _ us hl => match us, hl with | [_, _], _ => rfl, PySem.W.mg_of X G a51⟩
  have D52 : Df K mg "_law_equal" s_law_equal ["_law_found", "_law_due"] _ _ := ⟨fun_mk (st := s_law_equal) l52 c52 k52, (fun_mk (st := s_law_equal) l52 c52 k52).binds (ps := ["_law_found", "_law_due"]) fun _ _ _ _ _ _ us hl => match us, hl with | [_, _], _ => rfl, PySem.W.mg_of X G a52⟩
  have D53 : Df K mg "_law_failed" s_law_failed ["_law_caught"] _ _ := ⟨fun_mk (st := s_law_failed) l53 c53 k53, (fun_mk (st := s_law_failed) l53 c53 k53).binds (ps := ["_law_caught"]) fun _ _ _ _ _ _ us hl => match us, hl with | [_], _ => rfl, PySem.W.mg_of X G a53⟩
  have D54 : Df K mg "_law_result" s_law_result ["_law_work"] _ _ := ⟨fun_mk (st := s_law_result) l54 c54 k54, (fun_mk (st := s_law_result) l54 c54 k54).binds (ps := ["_law_work"]) fun _ _ _ _ _ _ us hl => match us, hl with | [_], _ => rfl, PySem.W.mg_of X G a54⟩
  have D55 : Df K mg "_law_perform" s_law_perform ["_law_store", "_law_work"] _ _ := ⟨fun_mk (st := s_law_perform) l55 c55 k55, (fun_mk (st := s_law_perform) l55 c55 k55).binds (ps := ["_law_store", "_law_work"]) fun _ _ _ _ _ _ us hl => match us, hl with | [_, _], _ => rfl, PySem.W.mg_of X G a55⟩
  have D56 : Df K mg "_law_holds" s_law_holds ["_law_source_here"] _ _ := ⟨fun_mk (st := s_law_holds) l56 c56 k56, (fun_mk (st := s_law_holds) l56 c56 k56).binds (ps := ["_law_source_here"]) fun _ _ _ _ _ _ us hl => match us, hl with | [_], _ => rfl, PySem.W.mg_of X G a56⟩
  have D57 : Df K mg "law" s_law ["_law_script"] _ _ := ⟨fun_mk (st := s_law) l57 c57 k57, (fun_mk (st := s_law) l57 c57 k57).binds (ps := ["_law_script"]) fun _ _ _ _ _ _ us hl => match us, hl with | [_], _ => rfl, PySem.W.mg_of X G a57⟩
  have T : Bt mg := ⟨PySem.W.mg_none_of X G z_LookupError, PySem.W.mg_none_of X G z_OverflowError, PySem.W.mg_none_of X G z_RuntimeError, PySem.W.mg_none_of X G z_ValueError, PySem.W.mg_none_of X G z_abs, PySem.W.mg_none_of X G z_all, PySem.W.mg_none_of X G z_bool, PySem.W.mg_none_of X G z_enumerate, PySem.W.mg_none_of X G z_int, PySem.W.mg_none_of X G z_isinstance, PySem.W.mg_none_of X G z_len, PySem.W.mg_none_of X G z_list, PySem.W.mg_none_of X G z_max, PySem.W.mg_none_of X G z_min, PySem.W.mg_none_of X G z_range, PySem.W.mg_none_of X G z_repr, PySem.W.mg_none_of X G z_str, PySem.W.mg_none_of X G z_sum, PySem.W.mg_none_of X G z_tuple, PySem.W.mg_none_of X G z_zip, ⟨_, PySem.W.mg_of X G u_UNKNOWN⟩⟩
  let R : Er K mg := {
    C_Impossible := C_Impossible
    f_Impossible := f_Impossible
    fd_Impossible := _
    E_Impossible := ⟨PySem.W.mg_of X G aC_Impossible, ⟨⟨_, _, _, _, _, _, _, _, _, _, _, _, _, _, xL_Impossible⟩, sa_Impossible, eC_Impossible, tC_Impossible, kC_Impossible⟩, nf_Impossible, ga_Impossible, gg_Impossible, hd_Impossible, ha_Impossible, hm_Impossible, ghn, ght⟩
    I_Impossible := ⟨iC_Impossible, tI_Impossible, fun_mk (st := s_Impossible_init) il_Impossible ic_Impossible ik_Impossible, (fun_mk (st := s_Impossible_init) il_Impossible ic_Impossible ik_Impossible).binds (ps := ["self"]) fun _ _ _ _ _ _ us hl => match us, hl with | [_], _ => rfl⟩
    C_NoObject := C_NoObject
    f_NoObject := f_NoObject
    fd_NoObject := _
    E_NoObject := ⟨PySem.W.mg_of X G aC_NoObject, ⟨⟨_, _, _, _, _, _, _, _, _, _, _, _, _, _, xL_NoObject⟩, sa_NoObject, eC_NoObject, tC_NoObject, kC_NoObject⟩, nf_NoObject, ga_NoObject, gg_NoObject, hd_NoObject, ha_NoObject, hm_NoObject, ghn, ght⟩
    I_NoObject := ⟨iC_NoObject, tI_NoObject, fun_mk (st := s_NoObject_init) il_NoObject ic_NoObject ik_NoObject, (fun_mk (st := s_NoObject_init) il_NoObject ic_NoObject ik_NoObject).binds (ps := ["self", "cell"]) fun _ _ _ _ _ _ us hl => match us, hl with | [_, _], _ => rfl⟩
    C_NoState := C_NoState
    f_NoState := f_NoState
    fd_NoState := _
    E_NoState := ⟨PySem.W.mg_of X G aC_NoState, ⟨⟨_, _, _, _, _, _, _, _, _, _, _, _, _, _, xL_NoState⟩, sa_NoState, eC_NoState, tC_NoState, kC_NoState⟩, nf_NoState, ga_NoState, gg_NoState, hd_NoState, ha_NoState, hm_NoState, ghn, ght⟩
    I_NoState := ⟨iC_NoState, tI_NoState, fun_mk (st := s_NoState_init) il_NoState ic_NoState ik_NoState, (fun_mk (st := s_NoState_init) il_NoState ic_NoState ik_NoState).binds (ps := ["self", "many"]) fun _ _ _ _ _ _ us hl => match us, hl with | [_, _], _ => rfl⟩
    C_NoWay := C_NoWay
    f_NoWay := f_NoWay
    fd_NoWay := _
    E_NoWay := ⟨PySem.W.mg_of X G aC_NoWay, ⟨⟨_, _, _, _, _, _, _, _, _, _, _, _, _, _, xL_NoWay⟩, sa_NoWay, eC_NoWay, tC_NoWay, kC_NoWay⟩, nf_NoWay, ga_NoWay, gg_NoWay, hd_NoWay, ha_NoWay, hm_NoWay, ghn, ght⟩
    I_NoWay := ⟨iC_NoWay, tI_NoWay, fun_mk (st := s_NoWay_init) il_NoWay ic_NoWay ik_NoWay, (fun_mk (st := s_NoWay_init) il_NoWay ic_NoWay ik_NoWay).binds (ps := ["self", "place"]) fun _ _ _ _ _ _ us hl => match us, hl with | [_, _], _ => rfl⟩
    C_Needed := C_Needed
    f_Needed := f_Needed
    fd_Needed := _
    E_Needed := ⟨PySem.W.mg_of X G aC_Needed, ⟨⟨_, _, _, _, _, _, _, _, _, _, _, _, _, _, xL_Needed⟩, sa_Needed, eC_Needed, tC_Needed, kC_Needed⟩, nf_Needed, ga_Needed, gg_Needed, hd_Needed, ha_Needed, hm_Needed, ghn, ght⟩
    I_Needed := ⟨iC_Needed, tI_Needed, fun_mk (st := s_Needed_init) il_Needed ic_Needed ik_Needed, (fun_mk (st := s_Needed_init) il_Needed ic_Needed ik_Needed).binds (ps := ["self", "cell"]) fun _ _ _ _ _ _ us hl => match us, hl with | [_, _], _ => rfl⟩
    C_TooMany := C_TooMany
    f_TooMany := f_TooMany
    fd_TooMany := _
    E_TooMany := ⟨PySem.W.mg_of X G aC_TooMany, ⟨⟨_, _, _, _, _, _, _, _, _, _, _, _, _, _, xL_TooMany⟩, sa_TooMany, eC_TooMany, tC_TooMany, kC_TooMany⟩, nf_TooMany, ga_TooMany, gg_TooMany, hd_TooMany, ha_TooMany, hm_TooMany, ghn, ght⟩
    I_TooMany := ⟨iC_TooMany, tI_TooMany, fun_mk (st := s_TooMany_init) il_TooMany ic_TooMany ik_TooMany, (fun_mk (st := s_TooMany_init) il_TooMany ic_TooMany ik_TooMany).binds (ps := ["self", "many"]) fun _ _ _ _ _ _ us hl => match us, hl with | [_, _], _ => rfl⟩
    C_Full := C_Full
    f_Full := f_Full
    fd_Full := _
    E_Full := ⟨PySem.W.mg_of X G aC_Full, ⟨⟨_, _, _, _, _, _, _, _, _, _, _, _, _, _, xL_Full⟩, sa_Full, eC_Full, tC_Full, kC_Full⟩, nf_Full, ga_Full, gg_Full, hd_Full, ha_Full, hm_Full, ghn, ght⟩
    I_Full := ⟨iC_Full, tI_Full, fun_mk (st := s_Full_init) il_Full ic_Full ik_Full, (fun_mk (st := s_Full_init) il_Full ic_Full ik_Full).binds (ps := ["self", "many"]) fun _ _ _ _ _ _ us hl => match us, hl with | [_, _], _ => rfl⟩
    k_Impossible_Impossible := kit_own hd_Impossible tC_Impossible sb_Impossible_Impossible sb_Impossible_Impossible
    k_Impossible_NoObject := kit_own hd_NoObject tC_NoObject sb_Impossible_NoObject sb_Impossible_Impossible
    k_Impossible_NoState := kit_own hd_NoState tC_NoState sb_Impossible_NoState sb_Impossible_Impossible
    k_Impossible_TooMany := kit_own hd_TooMany tC_TooMany sb_Impossible_TooMany sb_Impossible_Impossible
    k_Impossible_ValueError := kit_bt (by decide +kernel) sb_Impossible_ValueError
    k_Impossible_LookupError := kit_bt (by decide +kernel) sb_Impossible_LookupError
    k_Impossible_RuntimeError := kit_bt (by decide +kernel) sb_Impossible_RuntimeError
    k_Impossible_OverflowError := kit_bt (by decide +kernel) sb_Impossible_OverflowError
    k_Impossible_Needed := kit_own hd_Needed tC_Needed sb_Impossible_Needed sb_Impossible_Impossible
    k_Impossible_NoWay := kit_own hd_NoWay tC_NoWay sb_Impossible_NoWay sb_Impossible_Impossible
    k_Impossible_Full := kit_own hd_Full tC_Full sb_Impossible_Full sb_Impossible_Impossible
    x0_Impossible := (exmAny_c (exm_own eC_Full hd_Full tC_Full sb_Impossible_Full) (exmAny_c (exm_own eC_Impossible hd_Impossible tC_Impossible sb_Impossible_Impossible) (exmAny_c (exm_own eC_Needed hd_Needed tC_Needed sb_Impossible_Needed) (exmAny_c (exm_own eC_NoObject hd_NoObject tC_NoObject sb_Impossible_NoObject) (exmAny_c (exm_own eC_NoState hd_NoState tC_NoState sb_Impossible_NoState) (exmAny_c (exm_own eC_NoWay hd_NoWay tC_NoWay sb_Impossible_NoWay) (exmAny_c (exm_own eC_TooMany hd_TooMany tC_TooMany sb_Impossible_TooMany) exmAny_nil)))))))
    k_NoObject_Impossible := kit_own hd_Impossible tC_Impossible sb_NoObject_Impossible sb_NoObject_NoObject
    k_NoObject_NoObject := kit_own hd_NoObject tC_NoObject sb_NoObject_NoObject sb_NoObject_NoObject
    k_NoObject_NoState := kit_own hd_NoState tC_NoState sb_NoObject_NoState sb_NoObject_NoObject
    k_NoObject_TooMany := kit_own hd_TooMany tC_TooMany sb_NoObject_TooMany sb_NoObject_NoObject
    k_NoObject_ValueError := kit_bt (by decide +kernel) sb_NoObject_ValueError
    k_NoObject_LookupError := kit_bt (by decide +kernel) sb_NoObject_LookupError
    k_NoObject_RuntimeError := kit_bt (by decide +kernel) sb_NoObject_RuntimeError
    k_NoObject_OverflowError := kit_bt (by decide +kernel) sb_NoObject_OverflowError
    k_NoObject_Needed := kit_own hd_Needed tC_Needed sb_NoObject_Needed sb_NoObject_NoObject
    k_NoObject_NoWay := kit_own hd_NoWay tC_NoWay sb_NoObject_NoWay sb_NoObject_NoObject
    k_NoObject_Full := kit_own hd_Full tC_Full sb_NoObject_Full sb_NoObject_NoObject
    x0_NoObject := (exmAny_c (exm_own eC_Full hd_Full tC_Full sb_NoObject_Full) (exmAny_c (exm_own eC_Impossible hd_Impossible tC_Impossible sb_NoObject_Impossible) (exmAny_c (exm_own eC_Needed hd_Needed tC_Needed sb_NoObject_Needed) (exmAny_c (exm_own eC_NoObject hd_NoObject tC_NoObject sb_NoObject_NoObject) (exmAny_c (exm_own eC_NoState hd_NoState tC_NoState sb_NoObject_NoState) (exmAny_c (exm_own eC_NoWay hd_NoWay tC_NoWay sb_NoObject_NoWay) (exmAny_c (exm_own eC_TooMany hd_TooMany tC_TooMany sb_NoObject_TooMany) exmAny_nil)))))))
    k_NoState_Impossible := kit_own hd_Impossible tC_Impossible sb_NoState_Impossible sb_NoState_NoState
    k_NoState_NoObject := kit_own hd_NoObject tC_NoObject sb_NoState_NoObject sb_NoState_NoState
    k_NoState_NoState := kit_own hd_NoState tC_NoState sb_NoState_NoState sb_NoState_NoState
    k_NoState_TooMany := kit_own hd_TooMany tC_TooMany sb_NoState_TooMany sb_NoState_NoState
    k_NoState_ValueError := kit_bt (by decide +kernel) sb_NoState_ValueError
    k_NoState_LookupError := kit_bt (by decide +kernel) sb_NoState_LookupError
    k_NoState_RuntimeError := kit_bt (by decide +kernel) sb_NoState_RuntimeError
    k_NoState_OverflowError := kit_bt (by decide +kernel) sb_NoState_OverflowError
    k_NoState_Needed := kit_own hd_Needed tC_Needed sb_NoState_Needed sb_NoState_NoState
    k_NoState_NoWay := kit_own hd_NoWay tC_NoWay sb_NoState_NoWay sb_NoState_NoState
    k_NoState_Full := kit_own hd_Full tC_Full sb_NoState_Full sb_NoState_NoState
    x0_NoState := (exmAny_c (exm_own eC_Full hd_Full tC_Full sb_NoState_Full) (exmAny_c (exm_own eC_Impossible hd_Impossible tC_Impossible sb_NoState_Impossible) (exmAny_c (exm_own eC_Needed hd_Needed tC_Needed sb_NoState_Needed) (exmAny_c (exm_own eC_NoObject hd_NoObject tC_NoObject sb_NoState_NoObject) (exmAny_c (exm_own eC_NoState hd_NoState tC_NoState sb_NoState_NoState) (exmAny_c (exm_own eC_NoWay hd_NoWay tC_NoWay sb_NoState_NoWay) (exmAny_c (exm_own eC_TooMany hd_TooMany tC_TooMany sb_NoState_TooMany) exmAny_nil)))))))
    k_Needed_Impossible := kit_own hd_Impossible tC_Impossible sb_Needed_Impossible sb_Needed_Needed
    k_Needed_NoObject := kit_own hd_NoObject tC_NoObject sb_Needed_NoObject sb_Needed_Needed
    k_Needed_NoState := kit_own hd_NoState tC_NoState sb_Needed_NoState sb_Needed_Needed
    k_Needed_TooMany := kit_own hd_TooMany tC_TooMany sb_Needed_TooMany sb_Needed_Needed
    k_Needed_ValueError := kit_bt (by decide +kernel) sb_Needed_ValueError
    k_Needed_LookupError := kit_bt (by decide +kernel) sb_Needed_LookupError
    k_Needed_RuntimeError := kit_bt (by decide +kernel) sb_Needed_RuntimeError
    k_Needed_OverflowError := kit_bt (by decide +kernel) sb_Needed_OverflowError
    k_Needed_Needed := kit_own hd_Needed tC_Needed sb_Needed_Needed sb_Needed_Needed
    k_Needed_NoWay := kit_own hd_NoWay tC_NoWay sb_Needed_NoWay sb_Needed_Needed
    k_Needed_Full := kit_own hd_Full tC_Full sb_Needed_Full sb_Needed_Needed
    x0_Needed := (exmAny_c (exm_own eC_Full hd_Full tC_Full sb_Needed_Full) (exmAny_c (exm_own eC_Impossible hd_Impossible tC_Impossible sb_Needed_Impossible) (exmAny_c (exm_own eC_Needed hd_Needed tC_Needed sb_Needed_Needed) (exmAny_c (exm_own eC_NoObject hd_NoObject tC_NoObject sb_Needed_NoObject) (exmAny_c (exm_own eC_NoState hd_NoState tC_NoState sb_Needed_NoState) (exmAny_c (exm_own eC_NoWay hd_NoWay tC_NoWay sb_Needed_NoWay) (exmAny_c (exm_own eC_TooMany hd_TooMany tC_TooMany sb_Needed_TooMany) exmAny_nil)))))))
    k_NoWay_Impossible := kit_own hd_Impossible tC_Impossible sb_NoWay_Impossible sb_NoWay_NoWay
    k_NoWay_NoObject := kit_own hd_NoObject tC_NoObject sb_NoWay_NoObject sb_NoWay_NoWay
    k_NoWay_NoState := kit_own hd_NoState tC_NoState sb_NoWay_NoState sb_NoWay_NoWay
    k_NoWay_TooMany := kit_own hd_TooMany tC_TooMany sb_NoWay_TooMany sb_NoWay_NoWay
    k_NoWay_ValueError := kit_bt (by decide +kernel) sb_NoWay_ValueError
    k_NoWay_LookupError := kit_bt (by decide +kernel) sb_NoWay_LookupError
    k_NoWay_RuntimeError := kit_bt (by decide +kernel) sb_NoWay_RuntimeError
    k_NoWay_OverflowError := kit_bt (by decide +kernel) sb_NoWay_OverflowError
    k_NoWay_Needed := kit_own hd_Needed tC_Needed sb_NoWay_Needed sb_NoWay_NoWay
    k_NoWay_NoWay := kit_own hd_NoWay tC_NoWay sb_NoWay_NoWay sb_NoWay_NoWay
    k_NoWay_Full := kit_own hd_Full tC_Full sb_NoWay_Full sb_NoWay_NoWay
    x0_NoWay := (exmAny_c (exm_own eC_Full hd_Full tC_Full sb_NoWay_Full) (exmAny_c (exm_own eC_Impossible hd_Impossible tC_Impossible sb_NoWay_Impossible) (exmAny_c (exm_own eC_Needed hd_Needed tC_Needed sb_NoWay_Needed) (exmAny_c (exm_own eC_NoObject hd_NoObject tC_NoObject sb_NoWay_NoObject) (exmAny_c (exm_own eC_NoState hd_NoState tC_NoState sb_NoWay_NoState) (exmAny_c (exm_own eC_NoWay hd_NoWay tC_NoWay sb_NoWay_NoWay) (exmAny_c (exm_own eC_TooMany hd_TooMany tC_TooMany sb_NoWay_TooMany) exmAny_nil)))))))
    k_Full_Impossible := kit_own hd_Impossible tC_Impossible sb_Full_Impossible sb_Full_Full
    k_Full_NoObject := kit_own hd_NoObject tC_NoObject sb_Full_NoObject sb_Full_Full
    k_Full_NoState := kit_own hd_NoState tC_NoState sb_Full_NoState sb_Full_Full
    k_Full_TooMany := kit_own hd_TooMany tC_TooMany sb_Full_TooMany sb_Full_Full
    k_Full_ValueError := kit_bt (by decide +kernel) sb_Full_ValueError
    k_Full_LookupError := kit_bt (by decide +kernel) sb_Full_LookupError
    k_Full_RuntimeError := kit_bt (by decide +kernel) sb_Full_RuntimeError
    k_Full_OverflowError := kit_bt (by decide +kernel) sb_Full_OverflowError
    k_Full_Needed := kit_own hd_Needed tC_Needed sb_Full_Needed sb_Full_Full
    k_Full_NoWay := kit_own hd_NoWay tC_NoWay sb_Full_NoWay sb_Full_Full
    k_Full_Full := kit_own hd_Full tC_Full sb_Full_Full sb_Full_Full
    x0_Full := (exmAny_c (exm_own eC_Full hd_Full tC_Full sb_Full_Full) (exmAny_c (exm_own eC_Impossible hd_Impossible tC_Impossible sb_Full_Impossible) (exmAny_c (exm_own eC_Needed hd_Needed tC_Needed sb_Full_Needed) (exmAny_c (exm_own eC_NoObject hd_NoObject tC_NoObject sb_Full_NoObject) (exmAny_c (exm_own eC_NoState hd_NoState tC_NoState sb_Full_NoState) (exmAny_c (exm_own eC_NoWay hd_NoWay tC_NoWay sb_Full_NoWay) (exmAny_c (exm_own eC_TooMany hd_TooMany tC_TooMany sb_Full_TooMany) exmAny_nil)))))))
    k_TooMany_Impossible := kit_own hd_Impossible tC_Impossible sb_TooMany_Impossible sb_TooMany_TooMany
    k_TooMany_NoObject := kit_own hd_NoObject tC_NoObject sb_TooMany_NoObject sb_TooMany_TooMany
    k_TooMany_NoState := kit_own hd_NoState tC_NoState sb_TooMany_NoState sb_TooMany_TooMany
    k_TooMany_TooMany := kit_own hd_TooMany tC_TooMany sb_TooMany_TooMany sb_TooMany_TooMany
    k_TooMany_ValueError := kit_bt (by decide +kernel) sb_TooMany_ValueError
    k_TooMany_LookupError := kit_bt (by decide +kernel) sb_TooMany_LookupError
    k_TooMany_RuntimeError := kit_bt (by decide +kernel) sb_TooMany_RuntimeError
    k_TooMany_OverflowError := kit_bt (by decide +kernel) sb_TooMany_OverflowError
    k_TooMany_Needed := kit_own hd_Needed tC_Needed sb_TooMany_Needed sb_TooMany_TooMany
    k_TooMany_NoWay := kit_own hd_NoWay tC_NoWay sb_TooMany_NoWay sb_TooMany_TooMany
    k_TooMany_Full := kit_own hd_Full tC_Full sb_TooMany_Full sb_TooMany_TooMany
    x0_TooMany := (exmAny_c (exm_own eC_Full hd_Full tC_Full sb_TooMany_Full) (exmAny_c (exm_own eC_Impossible hd_Impossible tC_Impossible sb_TooMany_Impossible) (exmAny_c (exm_own eC_Needed hd_Needed tC_Needed sb_TooMany_Needed) (exmAny_c (exm_own eC_NoObject hd_NoObject tC_NoObject sb_TooMany_NoObject) (exmAny_c (exm_own eC_NoState hd_NoState tC_NoState sb_TooMany_NoState) (exmAny_c (exm_own eC_NoWay hd_NoWay tC_NoWay sb_TooMany_NoWay) (exmAny_c (exm_own eC_TooMany hd_TooMany tC_TooMany sb_TooMany_TooMany) exmAny_nil)))))))
  }
  let S : St K mg := {
    C_Store := C_Store
    cl_Store := ⟨pg_Store, hd_Store, po_Store, sa_Store⟩
    g_Store := PySem.W.mg_of X G aC_Store
    n_Store_states := nf_Store_states
    n_Store_events := nf_Store_events
    f_Store___init__ := f_Store___init__
    fd_Store___init__ := _
    D_Store___init__ := ⟨fun_mk (st := s_Store___init__) ml_Store___init__ mc_Store___init__ mp_Store___init__, (fun_mk (st := s_Store___init__) ml_Store___init__ mc_Store___init__ mp_Store___init__).binds (ps := ["self", "size"]) fun _ _ _ _ _ _ us hl => match us, hl with | [_, _], _ => rfl, ⟨ma_Store___init__, mi_Store___init__, mp_Store___init__⟩⟩
    f_Store_put_in := f_Store_put_in
    fd_Store_put_in := _
    D_Store_put_in := ⟨fun_mk (st := s_Store_put_in) ml_Store_put_in mc_Store_put_in mp_Store_put_in, (fun_mk (st := s_Store_put_in) ml_Store_put_in mc_Store_put_in mp_Store_put_in).binds (ps := ["self", "wishes"]) fun _ _ _ _ _ _ us hl => match us, hl with | [_, _], _ => rfl, ⟨ma_Store_put_in, mi_Store_put_in, mp_Store_put_in⟩⟩
    f_Store_put := f_Store_put
    fd_Store_put := _
    D_Store_put := ⟨fun_mk (st := s_Store_put) ml_Store_put mc_Store_put mp_Store_put, (fun_mk (st := s_Store_put) ml_Store_put mc_Store_put mp_Store_put).binds (ps := ["self", "wish"]) fun _ _ _ _ _ _ us hl => match us, hl with | [_, _], _ => rfl, ⟨ma_Store_put, mi_Store_put, mp_Store_put⟩⟩
    f_Store_put_all := f_Store_put_all
    fd_Store_put_all := _
    D_Store_put_all := ⟨fun_mk (st := s_Store_put_all) ml_Store_put_all mc_Store_put_all mp_Store_put_all, (fun_mk (st := s_Store_put_all) ml_Store_put_all mc_Store_put_all mp_Store_put_all).binds (ps := ["self", "wishes"]) fun _ _ _ _ _ _ us hl => match us, hl with | [_, _], _ => rfl, ⟨ma_Store_put_all, mi_Store_put_all, mp_Store_put_all⟩⟩
    f_Store_take_out := f_Store_take_out
    fd_Store_take_out := _
    D_Store_take_out := ⟨fun_mk (st := s_Store_take_out) ml_Store_take_out mc_Store_take_out mp_Store_take_out, (fun_mk (st := s_Store_take_out) ml_Store_take_out mc_Store_take_out mp_Store_take_out).binds (ps := ["self", "cell"]) fun _ _ _ _ _ _ us hl => match us, hl with | [_, _], _ => rfl, ⟨ma_Store_take_out, mi_Store_take_out, mp_Store_take_out⟩⟩
    f_Store_forget := f_Store_forget
    fd_Store_forget := _
    D_Store_forget := ⟨fun_mk (st := s_Store_forget) ml_Store_forget mc_Store_forget mp_Store_forget, (fun_mk (st := s_Store_forget) ml_Store_forget mc_Store_forget mp_Store_forget).binds (ps := ["self", "cell"]) fun _ _ _ _ _ _ us hl => match us, hl with | [_, _], _ => rfl, ⟨ma_Store_forget, mi_Store_forget, mp_Store_forget⟩⟩
    f_Store_undo := f_Store_undo
    fd_Store_undo := _
    D_Store_undo := ⟨fun_mk (st := s_Store_undo) ml_Store_undo mc_Store_undo mp_Store_undo, (fun_mk (st := s_Store_undo) ml_Store_undo mc_Store_undo mp_Store_undo).binds (ps := ["self"]) fun _ _ _ _ _ _ us hl => match us, hl with | [_], _ => rfl, ⟨ma_Store_undo, mi_Store_undo, mp_Store_undo⟩⟩
    f_Store_table := f_Store_table
    fd_Store_table := _
    D_Store_table := ⟨fun_mk (st := s_Store_table) ml_Store_table mc_Store_table mp_Store_table, (fun_mk (st := s_Store_table) ml_Store_table mc_Store_table mp_Store_table).binds (ps := ["self"]) fun _ _ _ _ _ _ us hl => match us, hl with | [_], _ => rfl, ⟨ma_Store_table, mi_Store_table, mp_Store_table⟩⟩
    f_Store_order := f_Store_order
    fd_Store_order := _
    D_Store_order := ⟨fun_mk (st := s_Store_order) ml_Store_order mc_Store_order mp_Store_order, (fun_mk (st := s_Store_order) ml_Store_order mc_Store_order mp_Store_order).binds (ps := ["self"]) fun _ _ _ _ _ _ us hl => match us, hl with | [_], _ => rfl, ⟨ma_Store_order, mi_Store_order, mp_Store_order⟩⟩
    f_Store_count := f_Store_count
    fd_Store_count := _
    D_Store_count := ⟨fun_mk (st := s_Store_count) ml_Store_count mc_Store_count mp_Store_count, (fun_mk (st := s_Store_count) ml_Store_count mc_Store_count mp_Store_count).binds (ps := ["self"]) fun _ _ _ _ _ _ us hl => match us, hl with | [_], _ => rfl, ⟨ma_Store_count, mi_Store_count, mp_Store_count⟩⟩
    f_Store_histories := f_Store_histories
    fd_Store_histories := _
    D_Store_histories := ⟨fun_mk (st := s_Store_histories) ml_Store_histories mc_Store_histories mp_Store_histories, (fun_mk (st := s_Store_histories) ml_Store_histories mc_Store_histories mp_Store_histories).binds (ps := ["self"]) fun _ _ _ _ _ _ us hl => match us, hl with | [_], _ => rfl, ⟨ma_Store_histories, mi_Store_histories, mp_Store_histories⟩⟩
    f_Store_operations := f_Store_operations
    fd_Store_operations := _
    D_Store_operations := ⟨fun_mk (st := s_Store_operations) ml_Store_operations mc_Store_operations mp_Store_operations, (fun_mk (st := s_Store_operations) ml_Store_operations mc_Store_operations mp_Store_operations).binds (ps := ["self"]) fun _ _ _ _ _ _ us hl => match us, hl with | [_], _ => rfl, ⟨ma_Store_operations, mi_Store_operations, mp_Store_operations⟩⟩
    f_Store_journal := f_Store_journal
    fd_Store_journal := _
    D_Store_journal := ⟨fun_mk (st := s_Store_journal) ml_Store_journal mc_Store_journal mp_Store_journal, (fun_mk (st := s_Store_journal) ml_Store_journal mc_Store_journal mp_Store_journal).binds (ps := ["self"]) fun _ _ _ _ _ _ us hl => match us, hl with | [_], _ => rfl, ⟨ma_Store_journal, mi_Store_journal, mp_Store_journal⟩⟩
    f_Store_as_of := f_Store_as_of
    fd_Store_as_of := _
    D_Store_as_of := ⟨fun_mk (st := s_Store_as_of) ml_Store_as_of mc_Store_as_of mp_Store_as_of, (fun_mk (st := s_Store_as_of) ml_Store_as_of mc_Store_as_of mp_Store_as_of).binds (ps := ["self", "many"]) fun _ _ _ _ _ _ us hl => match us, hl with | [_, _], _ => rfl, ⟨ma_Store_as_of, mi_Store_as_of, mp_Store_as_of⟩⟩
    f_Store___eq__ := f_Store___eq__
    fd_Store___eq__ := _
    D_Store___eq__ := ⟨fun_mk (st := s_Store___eq__) ml_Store___eq__ mc_Store___eq__ mp_Store___eq__, (fun_mk (st := s_Store___eq__) ml_Store___eq__ mc_Store___eq__ mp_Store___eq__).binds (ps := ["self", "other"]) fun _ _ _ _ _ _ us hl => match us, hl with | [_, _], _ => rfl, ⟨ma_Store___eq__, mi_Store___eq__, mp_Store___eq__⟩⟩
    f_Store___len__ := f_Store___len__
    fd_Store___len__ := _
    D_Store___len__ := ⟨fun_mk (st := s_Store___len__) ml_Store___len__ mc_Store___len__ mp_Store___len__, (fun_mk (st := s_Store___len__) ml_Store___len__ mc_Store___len__ mp_Store___len__).binds (ps := ["self"]) fun _ _ _ _ _ _ us hl => match us, hl with | [_], _ => rfl, ⟨ma_Store___len__, mi_Store___len__, mp_Store___len__⟩⟩
    f_Store___repr__ := f_Store___repr__
    fd_Store___repr__ := _
    D_Store___repr__ := ⟨fun_mk (st := s_Store___repr__) ml_Store___repr__ mc_Store___repr__ mp_Store___repr__, (fun_mk (st := s_Store___repr__) ml_Store___repr__ mc_Store___repr__ mp_Store___repr__).binds (ps := ["self"]) fun _ _ _ _ _ _ us hl => match us, hl with | [_], _ => rfl, ⟨ma_Store___repr__, mi_Store___repr__, mp_Store___repr__⟩⟩
    M_Store := ⟨mk_Store, ma_Store___init__, mi_Store___init__, kc_Store⟩
  }
  obtain ⟨xc13, xP13, xe13, xh13, xg13⟩ := tab_at (tb "nearest" (by simp)) X D13.g l13
  have xq13 : cd13 = .ref xc13 := xe13
  subst xq13
  obtain ⟨xc55, xP55, xe55, xh55, xg55⟩ := tab_at (tb "_law_perform" (by simp)) X D55.g l55
  have xq55 : cd55 = .ref xc55 := xe55
  subst xq55
  exact ⟨PySem.W.fnOf "law" "law" (defArgs s_law) (defBody s_law) (defScope s_law) .none kV57 dc57 pm57 an57 cd57 ct57, [(xc13, xP13), (xc55, xP55)], fun s v => .of_eq rfl, List.forall_mem_cons.mpr ⟨⟨xg13, xh13⟩, List.forall_mem_cons.mpr ⟨⟨xg55, xh55⟩, (fun _ hp => nomatch hp)⟩⟩, fun base _ _ TB => fin T R S D11 D12 D13 D14 D16 D17 D18 D19 D20 D21 D22 D23 D24 D26 D27 D28 D29 D30 D31 D32 D33 D34 D35 D36 D37 D38 D40 D41 D43 D44 D45 D46 D47 D51 D52 D53 D54 D55 D56 D57 ⟨_, _, _, _, _, _, _, _, rfl, l13, c13⟩ (TB (xc13, xP13) (by simp)) ⟨_, _, _, _, _, _, _, _, rfl, l55, c55⟩ (TB (xc55, xP55) (by simp))⟩

end NS
open PySem PySem.W PyProof.Rows
set_option maxRecDepth 100000 in
set_option maxHeartbeats 0 in
theorem PySem.Challenge.cw_nearslot_k38_a_known_store_holds : PySem.Challenge.rw_nearslot_k38_a_known_store.Holds := by
  w_on; o_law; k_head; (case hw => w_witness2)
  k_fill
  refine NS.walkGT ["nearest", "_law_perform"] (l := PySem.Challenge.rw_nearslot_k38_a_known_store) (n := 63) (k := NS.lawLevel) (x := "_law_script") (sp := fun w cs => NS.spLaw _ (cs.map (·.2))) rfl (by decide) rfl ⟨rfl, by decide, by decide⟩ (List.forall_mem_cons.mpr ⟨by kernel_rfl, List.forall_mem_cons.mpr ⟨by kernel_rfl, (fun _ hp => nomatch hp)⟩⟩) (fun _ => by kernel_rfl) (fun w h Y => PySem.W.km_in_of Y) ?F NS.lawStart
  case F =>
    intro w mg fa h KX G hmg tb
    refine' NS.all_mk KX G hmg tb ?a11 ?l11 ?c11 ?k11 ?a12 ?l12 ?c12 ?k12 ?a13 ?l13 ?c13 ?k13 ?a14 ?l14 ?c14 ?k14 ?a16 ?l16 ?c16 ?k16 ?a17 ?l17 ?c17 ?k17 ?a18 ?l18 ?c18 ?k18 ?a19 ?l19 ?c19 ?k19 ?a20 ?l20 ?c20 ?k20 ?a21 ?l21 ?c21 ?k21 ?a22 ?l22 ?c22 ?k22 ?a23 ?l23 ?c23 ?k23 ?a24 ?l24 ?c24 ?k24 ?a26 ?l26 ?c26 ?k26 ?a27 ?l27 ?c27 ?k27 ?a28 ?l28 ?c28 ?k28 ?a29 ?l29 ?c29 ?k29 ?a30 ?l30 ?c30 ?k30 ?a31 ?l31 ?c31 ?k31 ?a32 ?l32 ?c32 ?k32 ?a33 ?l33 ?c33 ?k33 ?a34 ?l34 ?c34 ?k34 ?a35 ?l35 ?c35 ?k35 ?a36 ?l36 ?c36 ?k36 ?a37 ?l37 ?c37 ?k37 ?a38 ?l38 ?c38 ?k38 ?a40 ?l40 ?c40 ?k40 ?a41 ?l41 ?c41 ?k41 ?a43 ?l43 ?c43 ?k43 ?a44 ?l44 ?c44 ?k44 ?a45 ?l45 ?c45 ?k45 ?a46 ?l46 ?c46 ?k46 ?a47 ?l47 ?c47 ?k47 ?a51 ?l51 ?c51 ?k51 ?a52 ?l52 ?c52 ?k52 ?a53 ?l53 ?c53 ?k53 ?a54 ?l54 ?c54 ?k54 ?a55 ?l55 ?c55 ?k55 ?a56 ?l56 ?c56 ?k56 ?a57 ?l57 ?c57 ?k57 ?z_LookupError ?z_OverflowError ?z_RuntimeError ?z_ValueError ?z_abs ?z_all ?z_bool ?z_enumerate ?z_int ?z_isinstance ?z_len ?z_list ?z_max ?z_min ?z_range ?z_repr ?z_str ?z_sum ?z_tuple ?z_zip ?aC_Impossible ?xL_Impossible ?sa_Impossible ?ga_Impossible ?gg_Impossible ?nf_Impossible ?eC_Impossible ?tC_Impossible ?kC_Impossible ?hd_Impossible ?ha_Impossible ?hm_Impossible ?iC_Impossible ?tI_Impossible ?il_Impossible ?ic_Impossible ?ik_Impossible ?aC_NoObject ?xL_NoObject ?sa_NoObject ?ga_NoObject ?gg_NoObject ?nf_NoObject ?eC_NoObject ?tC_NoObject ?kC_NoObject ?hd_NoObject ?ha_NoObject ?hm_NoObject ?iC_NoObject ?tI_NoObject ?il_NoObject ?ic_NoObject ?ik_NoObject ?aC_NoState ?xL_NoState ?sa_NoState ?ga_NoState ?gg_NoState ?nf_NoState ?eC_NoState ?tC_NoState ?kC_NoState ?hd_NoState ?ha_NoState ?hm_NoState ?iC_NoState ?tI_NoState ?il_NoState ?ic_NoState ?ik_NoState ?aC_NoWay ?xL_NoWay ?sa_NoWay ?ga_NoWay ?gg_NoWay ?nf_NoWay ?eC_NoWay ?tC_NoWay ?kC_NoWay ?hd_NoWay ?ha_NoWay ?hm_NoWay ?iC_NoWay ?tI_NoWay ?il_NoWay ?ic_NoWay ?ik_NoWay ?aC_Needed ?xL_Needed ?sa_Needed ?ga_Needed ?gg_Needed ?nf_Needed ?eC_Needed ?tC_Needed ?kC_Needed ?hd_Needed ?ha_Needed ?hm_Needed ?iC_Needed ?tI_Needed ?il_Needed ?ic_Needed ?ik_Needed ?aC_TooMany ?xL_TooMany ?sa_TooMany ?ga_TooMany ?gg_TooMany ?nf_TooMany ?eC_TooMany ?tC_TooMany ?kC_TooMany ?hd_TooMany ?ha_TooMany ?hm_TooMany ?iC_TooMany ?tI_TooMany ?il_TooMany ?ic_TooMany ?ik_TooMany ?aC_Full ?xL_Full ?sa_Full ?ga_Full ?gg_Full ?nf_Full ?eC_Full ?tC_Full ?kC_Full ?hd_Full ?ha_Full ?hm_Full ?iC_Full ?tI_Full ?il_Full ?ic_Full ?ik_Full ?ghn ?ght ?sb_Impossible_Impossible ?sb_Impossible_NoObject ?sb_Impossible_NoState ?sb_Impossible_TooMany ?sb_Impossible_ValueError ?sb_Impossible_LookupError ?sb_Impossible_RuntimeError ?sb_Impossible_OverflowError ?sb_Impossible_Needed ?sb_Impossible_NoWay ?sb_Impossible_Full ?sb_NoObject_NoObject ?sb_NoObject_Impossible ?sb_NoObject_NoState ?sb_NoObject_TooMany ?sb_NoObject_ValueError ?sb_NoObject_LookupError ?sb_NoObject_RuntimeError ?sb_NoObject_OverflowError ?sb_NoObject_Needed ?sb_NoObject_NoWay ?sb_NoObject_Full ?sb_NoState_NoState ?sb_NoState_Impossible ?sb_NoState_NoObject ?sb_NoState_TooMany ?sb_NoState_ValueError ?sb_NoState_LookupError ?sb_NoState_RuntimeError ?sb_NoState_OverflowError ?sb_NoState_Needed ?sb_NoState_NoWay ?sb_NoState_Full ?sb_Needed_Needed ?sb_Needed_Impossible ?sb_Needed_NoObject ?sb_Needed_NoState ?sb_Needed_TooMany ?sb_Needed_ValueError ?sb_Needed_LookupError ?sb_Needed_RuntimeError ?sb_Needed_OverflowError ?sb_Needed_NoWay ?sb_Needed_Full ?sb_NoWay_NoWay ?sb_NoWay_Impossible ?sb_NoWay_NoObject ?sb_NoWay_NoState ?sb_NoWay_TooMany ?sb_NoWay_ValueError ?sb_NoWay_LookupError ?sb_NoWay_RuntimeError ?sb_NoWay_OverflowError ?sb_NoWay_Needed ?sb_NoWay_Full ?sb_Full_Full ?sb_Full_Impossible ?sb_Full_NoObject ?sb_Full_NoState ?sb_Full_TooMany ?sb_Full_ValueError ?sb_Full_LookupError ?sb_Full_RuntimeError ?sb_Full_OverflowError ?sb_Full_Needed ?sb_Full_NoWay ?sb_TooMany_TooMany ?sb_TooMany_Impossible ?sb_TooMany_NoObject ?sb_TooMany_NoState ?sb_TooMany_ValueError ?sb_TooMany_LookupError ?sb_TooMany_RuntimeError ?sb_TooMany_OverflowError ?sb_TooMany_Needed ?sb_TooMany_NoWay ?sb_TooMany_Full ?aC_Store ?pg_Store ?hd_Store ?po_Store ?sa_Store ?mk_Store ?kc_Store ?nf_Store_states ?nf_Store_events ?ma_Store___init__ ?mi_Store___init__ ?ml_Store___init__ ?mc_Store___init__ ?mp_Store___init__ ?ma_Store_put_in ?mi_Store_put_in ?ml_Store_put_in ?mc_Store_put_in ?mp_Store_put_in ?ma_Store_put ?mi_Store_put ?ml_Store_put ?mc_Store_put ?mp_Store_put ?ma_Store_put_all ?mi_Store_put_all ?ml_Store_put_all ?mc_Store_put_all ?mp_Store_put_all ?ma_Store_take_out ?mi_Store_take_out ?ml_Store_take_out ?mc_Store_take_out ?mp_Store_take_out ?ma_Store_forget ?mi_Store_forget ?ml_Store_forget ?mc_Store_forget ?mp_Store_forget ?ma_Store_undo ?mi_Store_undo ?ml_Store_undo ?mc_Store_undo ?mp_Store_undo ?ma_Store_table ?mi_Store_table ?ml_Store_table ?mc_Store_table ?mp_Store_table ?ma_Store_order ?mi_Store_order ?ml_Store_order ?mc_Store_order ?mp_Store_order ?ma_Store_count ?mi_Store_count ?ml_Store_count ?mc_Store_count ?mp_Store_count ?ma_Store_histories ?mi_Store_histories ?ml_Store_histories ?mc_Store_histories ?mp_Store_histories ?ma_Store_operations ?mi_Store_operations ?ml_Store_operations ?mc_Store_operations ?mp_Store_operations ?ma_Store_journal ?mi_Store_journal ?ml_Store_journal ?mc_Store_journal ?mp_Store_journal ?ma_Store_as_of ?mi_Store_as_of ?ml_Store_as_of ?mc_Store_as_of ?mp_Store_as_of ?ma_Store___eq__ ?mi_Store___eq__ ?ml_Store___eq__ ?mc_Store___eq__ ?mp_Store___eq__ ?ma_Store___len__ ?mi_Store___len__ ?ml_Store___len__ ?mc_Store___len__ ?mp_Store___len__ ?ma_Store___repr__ ?mi_Store___repr__ ?ml_Store___repr__ ?mc_Store___repr__ ?mp_Store___repr__ ?u_UNKNOWN
    (case a11 => k_is); (case l11 => k_is); (case c11 => k_is); (case k11 => k_is)
    (case a12 => k_is); (case l12 => k_is); (case c12 => k_is); (case k12 => k_is)
    (case a13 => k_is); (case l13 => k_is); (case c13 => k_is); (case k13 => k_is)
    (case a14 => k_is); (case l14 => k_is); (case c14 => k_is); (case k14 => k_is)
    (case a16 => k_is); (case l16 => k_is); (case c16 => k_is); (case k16 => k_is)
    (case a17 => k_is); (case l17 => k_is); (case c17 => k_is); (case k17 => k_is)
    (case a18 => k_is); (case l18 => k_is); (case c18 => k_is); (case k18 => k_is)
    (case a19 => k_is); (case l19 => k_is); (case c19 => k_is); (case k19 => k_is)
    (case a20 => k_is); (case l20 => k_is); (case c20 => k_is); (case k20 => k_is)
    (case a21 => k_is); (case l21 => k_is); (case c21 => k_is); (case k21 => k_is)
    (case a22 => k_is); (case l22 => k_is); (case c22 => k_is); (case k22 => k_is)
    (case a23 => k_is); (case l23 => k_is); (case c23 => k_is); (case k23 => k_is)
    (case a24 => k_is); (case l24 => k_is); (case c24 => k_is); (case k24 => k_is)
    (case a26 => k_is); (case l26 => k_is); (case c26 => k_is); (case k26 => k_is)
    (case a27 => k_is); (case l27 => k_is); (case c27 => k_is); (case k27 => k_is)
    (case a28 => k_is); (case l28 => k_is); (case c28 => k_is); (case k28 => k_is)
    (case a29 => k_is); (case l29 => k_is); (case c29 => k_is); (case k29 => k_is)
    (case a30 => k_is); (case l30 => k_is); (case c30 => k_is); (case k30 => k_is)
    (case a31 => k_is); (case l31 => k_is); (case c31 => k_is); (case k31 => k_is)
    (case a32 => k_is); (case l32 => k_is); (case c32 => k_is); (case k32 => k_is)
    (case a33 => k_is); (case l33 => k_is); (case c33 => k_is); (case k33 => k_is)
    (case a34 => k_is); (case l34 => k_is); (case c34 => k_is); (case k34 => k_is)
    (case a35 => k_is); (case l35 => k_is); (case c35 => k_is); (case k35 => k_is)
    (case a36 => k_is); (case l36 => k_is); (case c36 => k_is); (case k36 => k_is)
    (case a37 => k_is); (case l37 => k_is); (case c37 => k_is); (case k37 => k_is)
    (case a38 => k_is); (case l38 => k_is); (case c38 => k_is); (case k38 => k_is)
    (case a40 => k_is); (case l40 => k_is); (case c40 => k_is); (case k40 => k_is)
    (case a41 => k_is); (case l41 => k_is); (case c41 => k_is); (case k41 => k_is)
    (case a43 => k_is); (case l43 => k_is); (case c43 => k_is); (case k43 => k_is)
    (case a44 => k_is); (case l44 => k_is); (case c44 => k_is); (case k44 => k_is)
    (case a45 => k_is); (case l45 => k_is); (case c45 => k_is); (case k45 => k_is)
    (case a46 => k_is); (case l46 => k_is); (case c46 => k_is); (case k46 => k_is)
    (case a47 => k_is); (case l47 => k_is); (case c47 => k_is); (case k47 => k_is)
    (case a51 => k_is); (case l51 => k_is); (case c51 => k_is); (case k51 => k_is)
    (case a52 => k_is); (case l52 => k_is); (case c52 => k_is); (case k52 => k_is)
    (case a53 => k_is); (case l53 => k_is); (case c53 => k_is); (case k53 => k_is)
    (case a54 => k_is); (case l54 => k_is); (case c54 => k_is); (case k54 => k_is)
    (case a55 => k_is); (case l55 => k_is); (case c55 => k_is); (case k55 => k_is)
    (case a56 => k_is); (case l56 => k_is); (case c56 => k_is); (case k56 => k_is)
    (case a57 => k_is); (case l57 => k_is); (case c57 => k_is); (case k57 => k_is)
    (case aC_Impossible => k_is); (case xL_Impossible => k_is); (case sa_Impossible => k_is); (case ga_Impossible => k_is); (case gg_Impossible => k_is); (case nf_Impossible => k_is); (case eC_Impossible => k_is); (case tC_Impossible => k_is); (case kC_Impossible => k_is); (case hd_Impossible => k_is); (case ha_Impossible => k_is); (case hm_Impossible => k_is); (case iC_Impossible => k_is); (case tI_Impossible => k_is); (case il_Impossible => k_is); (case ic_Impossible => k_is); (case ik_Impossible => k_is)
    (case aC_NoObject => k_is); (case xL_NoObject => k_is); (case sa_NoObject => k_is); (case ga_NoObject => k_is); (case gg_NoObject => k_is); (case nf_NoObject => k_is); (case eC_NoObject => k_is); (case tC_NoObject => k_is); (case kC_NoObject => k_is); (case hd_NoObject => k_is); (case ha_NoObject => k_is); (case hm_NoObject => k_is); (case iC_NoObject => k_is); (case tI_NoObject => k_is); (case il_NoObject => k_is); (case ic_NoObject => k_is); (case ik_NoObject => k_is)
    (case aC_NoState => k_is); (case xL_NoState => k_is); (case sa_NoState => k_is); (case ga_NoState => k_is); (case gg_NoState => k_is); (case nf_NoState => k_is); (case eC_NoState => k_is); (case tC_NoState => k_is); (case kC_NoState => k_is); (case hd_NoState => k_is); (case ha_NoState => k_is); (case hm_NoState => k_is); (case iC_NoState => k_is); (case tI_NoState => k_is); (case il_NoState => k_is); (case ic_NoState => k_is); (case ik_NoState => k_is)
    (case aC_NoWay => k_is); (case xL_NoWay => k_is); (case sa_NoWay => k_is); (case ga_NoWay => k_is); (case gg_NoWay => k_is); (case nf_NoWay => k_is); (case eC_NoWay => k_is); (case tC_NoWay => k_is); (case kC_NoWay => k_is); (case hd_NoWay => k_is); (case ha_NoWay => k_is); (case hm_NoWay => k_is); (case iC_NoWay => k_is); (case tI_NoWay => k_is); (case il_NoWay => k_is); (case ic_NoWay => k_is); (case ik_NoWay => k_is)
    (case aC_Needed => k_is); (case xL_Needed => k_is); (case sa_Needed => k_is); (case ga_Needed => k_is); (case gg_Needed => k_is); (case nf_Needed => k_is); (case eC_Needed => k_is); (case tC_Needed => k_is); (case kC_Needed => k_is); (case hd_Needed => k_is); (case ha_Needed => k_is); (case hm_Needed => k_is); (case iC_Needed => k_is); (case tI_Needed => k_is); (case il_Needed => k_is); (case ic_Needed => k_is); (case ik_Needed => k_is)
    (case aC_TooMany => k_is); (case xL_TooMany => k_is); (case sa_TooMany => k_is); (case ga_TooMany => k_is); (case gg_TooMany => k_is); (case nf_TooMany => k_is); (case eC_TooMany => k_is); (case tC_TooMany => k_is); (case kC_TooMany => k_is); (case hd_TooMany => k_is); (case ha_TooMany => k_is); (case hm_TooMany => k_is); (case iC_TooMany => k_is); (case tI_TooMany => k_is); (case il_TooMany => k_is); (case ic_TooMany => k_is); (case ik_TooMany => k_is)
    (case aC_Full => k_is); (case xL_Full => k_is); (case sa_Full => k_is); (case ga_Full => k_is); (case gg_Full => k_is); (case nf_Full => k_is); (case eC_Full => k_is); (case tC_Full => k_is); (case kC_Full => k_is); (case hd_Full => k_is); (case ha_Full => k_is); (case hm_Full => k_is); (case iC_Full => k_is); (case tI_Full => k_is); (case il_Full => k_is); (case ic_Full => k_is); (case ik_Full => k_is)
    (case ghn => k_is); (case ght => k_is)
    (case sb_Impossible_Impossible => first | rfl | k_is)
    (case sb_Impossible_NoObject => first | rfl | k_is)
    (case sb_Impossible_NoState => first | rfl | k_is)
    (case sb_Impossible_TooMany => first | rfl | k_is)
    (case sb_Impossible_ValueError => first | rfl | k_is)
    (case sb_Impossible_LookupError => first | rfl | k_is)
    (case sb_Impossible_RuntimeError => first | rfl | k_is)
    (case sb_Impossible_OverflowError => first | rfl | k_is)
    (case sb_Impossible_Needed => first | rfl | k_is)
    (case sb_Impossible_NoWay => first | rfl | k_is)
    (case sb_Impossible_Full => first | rfl | k_is)
    (case sb_NoObject_NoObject => first | rfl | k_is)
    (case sb_NoObject_Impossible => first | rfl | k_is)
    (case sb_NoObject_NoState => first | rfl | k_is)
    (case sb_NoObject_TooMany => first | rfl | k_is)
    (case sb_NoObject_ValueError => first | rfl | k_is)
    (case sb_NoObject_LookupError => first | rfl | k_is)
    (case sb_NoObject_RuntimeError => first | rfl | k_is)
    (case sb_NoObject_OverflowError => first | rfl | k_is)
    (case sb_NoObject_Needed => first | rfl | k_is)
    (case sb_NoObject_NoWay => first | rfl | k_is)
    (case sb_NoObject_Full => first | rfl | k_is)
    (case sb_NoState_NoState => first | rfl | k_is)
    (case sb_NoState_Impossible => first | rfl | k_is)
    (case sb_NoState_NoObject => first | rfl | k_is)
    (case sb_NoState_TooMany => first | rfl | k_is)
    (case sb_NoState_ValueError => first | rfl | k_is)
    (case sb_NoState_LookupError => first | rfl | k_is)
    (case sb_NoState_RuntimeError => first | rfl | k_is)
    (case sb_NoState_OverflowError => first | rfl | k_is)
    (case sb_NoState_Needed => first | rfl | k_is)
    (case sb_NoState_NoWay => first | rfl | k_is)
    (case sb_NoState_Full => first | rfl | k_is)
    (case sb_Needed_Needed => first | rfl | k_is)
    (case sb_Needed_Impossible => first | rfl | k_is)
    (case sb_Needed_NoObject => first | rfl | k_is)
    (case sb_Needed_NoState => first | rfl | k_is)
    (case sb_Needed_TooMany => first | rfl | k_is)
    (case sb_Needed_ValueError => first | rfl | k_is)
    (case sb_Needed_LookupError => first | rfl | k_is)
    (case sb_Needed_RuntimeError => first | rfl | k_is)
    (case sb_Needed_OverflowError => first | rfl | k_is)
    (case sb_Needed_NoWay => first | rfl | k_is)
    (case sb_Needed_Full => first | rfl | k_is)
    (case sb_NoWay_NoWay => first | rfl | k_is)
    (case sb_NoWay_Impossible => first | rfl | k_is)
    (case sb_NoWay_NoObject => first | rfl | k_is)
    (case sb_NoWay_NoState => first | rfl | k_is)
    (case sb_NoWay_TooMany => first | rfl | k_is)
    (case sb_NoWay_ValueError => first | rfl | k_is)
    (case sb_NoWay_LookupError => first | rfl | k_is)
    (case sb_NoWay_RuntimeError => first | rfl | k_is)
    (case sb_NoWay_OverflowError => first | rfl | k_is)
    (case sb_NoWay_Needed => first | rfl | k_is)
    (case sb_NoWay_Full => first | rfl | k_is)
    (case sb_Full_Full => first | rfl | k_is)
    (case sb_Full_Impossible => first | rfl | k_is)
    (case sb_Full_NoObject => first | rfl | k_is)
    (case sb_Full_NoState => first | rfl | k_is)
    (case sb_Full_TooMany => first | rfl | k_is)
    (case sb_Full_ValueError => first | rfl | k_is)
    (case sb_Full_LookupError => first | rfl | k_is)
    (case sb_Full_RuntimeError => first | rfl | k_is)
    (case sb_Full_OverflowError => first | rfl | k_is)
    (case sb_Full_Needed => first | rfl | k_is)
    (case sb_Full_NoWay => first | rfl | k_is)
    (case sb_TooMany_TooMany => first | rfl | k_is)
    (case sb_TooMany_Impossible => first | rfl | k_is)
    (case sb_TooMany_NoObject => first | rfl | k_is)
    (case sb_TooMany_NoState => first | rfl | k_is)
    (case sb_TooMany_ValueError => first | rfl | k_is)
    (case sb_TooMany_LookupError => first | rfl | k_is)
    (case sb_TooMany_RuntimeError => first | rfl | k_is)
    (case sb_TooMany_OverflowError => first | rfl | k_is)
    (case sb_TooMany_Needed => first | rfl | k_is)
    (case sb_TooMany_NoWay => first | rfl | k_is)
    (case sb_TooMany_Full => first | rfl | k_is)
    (case aC_Store => k_is)
    (case pg_Store => k_is)
    (case hd_Store => k_is)
    (case po_Store => k_is)
    (case sa_Store => k_is)
    (case mk_Store => k_is)
    (case kc_Store => k_is)
    (case nf_Store_states => k_is)
    (case nf_Store_events => k_is)
    (case ma_Store___init__ => k_is)
    (case mi_Store___init__ => k_is)
    (case ml_Store___init__ => k_is)
    (case mc_Store___init__ => k_is)
    (case mp_Store___init__ => k_is)
    (case ma_Store_put_in => k_is)
    (case mi_Store_put_in => k_is)
    (case ml_Store_put_in => k_is)
    (case mc_Store_put_in => k_is)
    (case mp_Store_put_in => k_is)
    (case ma_Store_put => k_is)
    (case mi_Store_put => k_is)
    (case ml_Store_put => k_is)
    (case mc_Store_put => k_is)
    (case mp_Store_put => k_is)
    (case ma_Store_put_all => k_is)
    (case mi_Store_put_all => k_is)
    (case ml_Store_put_all => k_is)
    (case mc_Store_put_all => k_is)
    (case mp_Store_put_all => k_is)
    (case ma_Store_take_out => k_is)
    (case mi_Store_take_out => k_is)
    (case ml_Store_take_out => k_is)
    (case mc_Store_take_out => k_is)
    (case mp_Store_take_out => k_is)
    (case ma_Store_forget => k_is)
    (case mi_Store_forget => k_is)
    (case ml_Store_forget => k_is)
    (case mc_Store_forget => k_is)
    (case mp_Store_forget => k_is)
    (case ma_Store_undo => k_is)
    (case mi_Store_undo => k_is)
    (case ml_Store_undo => k_is)
    (case mc_Store_undo => k_is)
    (case mp_Store_undo => k_is)
    (case ma_Store_table => k_is)
    (case mi_Store_table => k_is)
    (case ml_Store_table => k_is)
    (case mc_Store_table => k_is)
    (case mp_Store_table => k_is)
    (case ma_Store_order => k_is)
    (case mi_Store_order => k_is)
    (case ml_Store_order => k_is)
    (case mc_Store_order => k_is)
    (case mp_Store_order => k_is)
    (case ma_Store_count => k_is)
    (case mi_Store_count => k_is)
    (case ml_Store_count => k_is)
    (case mc_Store_count => k_is)
    (case mp_Store_count => k_is)
    (case ma_Store_histories => k_is)
    (case mi_Store_histories => k_is)
    (case ml_Store_histories => k_is)
    (case mc_Store_histories => k_is)
    (case mp_Store_histories => k_is)
    (case ma_Store_operations => k_is)
    (case mi_Store_operations => k_is)
    (case ml_Store_operations => k_is)
    (case mc_Store_operations => k_is)
    (case mp_Store_operations => k_is)
    (case ma_Store_journal => k_is)
    (case mi_Store_journal => k_is)
    (case ml_Store_journal => k_is)
    (case mc_Store_journal => k_is)
    (case mp_Store_journal => k_is)
    (case ma_Store_as_of => k_is)
    (case mi_Store_as_of => k_is)
    (case ml_Store_as_of => k_is)
    (case mc_Store_as_of => k_is)
    (case mp_Store_as_of => k_is)
    (case ma_Store___eq__ => k_is)
    (case mi_Store___eq__ => k_is)
    (case ml_Store___eq__ => k_is)
    (case mc_Store___eq__ => k_is)
    (case mp_Store___eq__ => k_is)
    (case ma_Store___len__ => k_is)
    (case mi_Store___len__ => k_is)
    (case ml_Store___len__ => k_is)
    (case mc_Store___len__ => k_is)
    (case mp_Store___len__ => k_is)
    (case ma_Store___repr__ => k_is)
    (case mi_Store___repr__ => k_is)
    (case ml_Store___repr__ => k_is)
    (case mc_Store___repr__ => k_is)
    (case mp_Store___repr__ => k_is)
    (case z_LookupError => k_is)
    (case z_OverflowError => k_is)
    (case z_RuntimeError => k_is)
    (case z_ValueError => k_is)
    (case z_abs => k_is)
    (case z_all => k_is)
    (case z_bool => k_is)
    (case z_enumerate => k_is)
    (case z_int => k_is)
    (case z_isinstance => k_is)
    (case z_len => k_is)
    (case z_list => k_is)
    (case z_max => k_is)
    (case z_min => k_is)
    (case z_range => k_is)
    (case z_repr => k_is)
    (case z_str => k_is)
    (case z_sum => k_is)
    (case z_tuple => k_is)
    (case z_zip => k_is)
    (case u_UNKNOWN => k_is)

