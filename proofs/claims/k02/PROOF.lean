import PyProof.Rows.All
import Wide.All
import OpenK.AllK
import Wide.FinOn
import HandS.ForMost
import HandS.Zip
import HandS.IsInst
import HandS.Defaults

import PySem.Challenge.RW_nearslot_k02_what_is_needed
set_option Elab.async false
set_option linter.all false
set_option maxRecDepth 100000
namespace NS
open PySem L2
/-! ### a def of the text, what it keeps -/
structure Df (K : PySem.W.Frag) (mg : Str → Option Value) (x : Str) (st : Stmt) (ps : List Str) (f : Addr) (fd : FuncData) : Prop where
  F : Fun K x x st f fd
  b : Binds K fd ps []
  g : mg x = some (.ref f)
structure Kn (P : Program) (w : World) (K : PySem.W.Frag) (mg : Str → Option Value) (base : Heap) (k : Nat) (x : Str) (st : Stmt) (ps : List Str) (sp : Sp) (f : Addr) (fd : FuncData) : Prop where
  D : Df K mg x st ps f fd
  G : FnOk P w K mg base CX0 k f fd ps sp
/-! ### a call by keywords alone -/
def tCallN0 (m : Nat) (sp : Sp) (gV : List V → List V → List V) (E : XK) (tk : TA) : TE := fun σ H Q => tk σ H fun zs H2 => zs.length = m ∧ sp (gV [] zs) H2 Q E
theorem pe_callN0 {X : Cx} {CX : CXT} {k : Nat} {f : Addr} {fd : FuncData} {ps ks : List Str} {sp : Sp} {E : XK} {x : Str} {p pos : Pos} {kws : List Keyword} {tk : TA} {g : List Value → List Value → List Value} {gV : List V → List V → List V}
    (F : FnOk X.prog X.w X.K X.mg X.base CX k f fd ps sp) (hr : Room k X.A) (hg : Gl X x) (hm : X.mg x = some (.ref f)) (hk : PySem.W.keepIn X.K (.ref f) = true) (hb : KBn X.K fd ps 0 ks g gV) (hx : Passes CX X E)
    (hkw : PK X kws tk) (hall : (backToKw pos (keywordEach kws X.env)).all (·.1.isSome) = true := by rfl) (hks : (backToKw pos (keywordEach kws X.env)).filterMap (·.1) = ks := by rfl)
    (hdb : (x == ("__debug__" : Str)) = false := by decide)
    (hpl : (backToKw pos (keywordEach kws X.env)).any (·.1.isNone) = false := by rfl) :
    PE X (.Call (.Name x p) [] kws pos) (tCallN0 ks.length sp gV E tk) := by
  refine ⟨fun pins s σ H Q I h => ?_⟩
  refine PySem.wpAny_Call_Name_kw (ld_glob I hg hm ?_ hdb)
  refine PySem.W.callWith_KW0 (h₀ := X.base) I.ok.mod.kin hk hall (thn (hkw.run pos pins s σ H _ I h) fun ws s2 ⟨zs, H2, I2, rz, l2, q2⟩ => ⟨I2.kIn, ?_⟩) hpl
  rw [hks]
  exact run_fnN F hr hb hx I2 .nil rz rfl l2 q2
/-! ### heaps -/
theorem same_upd {H : Hp} {p : Addr} {o : HO} (h : H p = none) : Same H (upd H p o) := fun b x e => by
  rw [upd_ne (ne_of_none e h)]
  exact e
theorem Same.tup {K : PySem.W.Frag} {H H' : Hp} {a : Addr} {xs : List V} (e : Same H H') (h : SqT K H a xs) : SqT K H' a xs := by
  rcases h with (h | ⟨o, h⟩) | h
  · exact .inl (.inl (e _ _ h))
  · exact .inl (.inr ⟨o, e _ _ h⟩)
  · exact .inr h
theorem sqT {K : PySem.W.Frag} {H : Hp} {a : Addr} {xs : List V} (h : H a = some (.tup xs)) : SqT K H a xs := .inl (.inl h)
theorem sqL {K : PySem.W.Frag} {H : Hp} {a : Addr} {xs : List V} (h : H a = some (.lst xs)) : SqL K H a xs := .inl (.inl h)
/-- a new object that changes later on -/
theorem Same.mut {H H' : Hp} {p : Addr} {o : HO} (e : Same H H') (h : H p = none) : Same H (upd H' p o) := fun a u ha => by
  rw [upd_ne (ne_of_none ha h)]
  exact e a u ha
mutual
theorem dp_same {K : PySem.W.Frag} {H H' : Hp} (e : Same H H') : ∀ {v : V} {d : PyData}, Dp K H v d → Dp K H' v d
  | _, _, .non => .non
  | _, _, .bl b => .bl b
  | _, _, .int i => .int i
  | _, _, .str x => .str x
  | _, _, .lst h a => .lst (e.seq h) (dp_sameA e a)
  | _, _, .tup h a => .tup (Same.tup e h) (dp_sameA e a)
theorem dp_sameA {K : PySem.W.Frag} {H H' : Hp} (e : Same H H') : ∀ {vs : List V} {ds : List PyData}, DpAll K H vs ds → DpAll K H' vs ds
  | _, _, .nil => .nil
  | _, _, .cons a b => .cons (dp_same e a) (dp_sameA e b)
end
theorem small {n : Nat} (h : n ≤ 1000) : n ≤ sizeLine := Nat.le_of_lt (small1000 h)
/-! ### types -/
theorem tyL {K : PySem.W.Frag} {H : Hp} {a : Addr} {xs : List V} (h : SqL K H a xs) : TyX K H (.ref a) (.type "list") := by
  rcases h with (h | ⟨o, h⟩) | ⟨o, its, n, h, c, _⟩
  · exact .base (.lst h)
  · exact .base (.frz h)
  · exact .kList h c
theorem tyT {K : PySem.W.Frag} {H : Hp} {a : Addr} {xs : List V} (h : SqT K H a xs) : TyX K H (.ref a) (.type "tuple") := by
  rcases h with (h | ⟨o, h⟩) | ⟨o, its, n, h, c, _⟩
  · exact .base (.tup h)
  · exact .fTuple h
  · exact .kTuple h c
theorem kit_y {K : PySem.W.Frag} {t : Value} {b : String} {cs : List Value} (h : PySem.W.kitOne K t (.type b) = some true) : PySem.W.kitAny K t (.type b :: cs) = some true := kitAny_cons h (fun z => nomatch z) fun _ => rfl
theorem kit_n {K : PySem.W.Frag} {t : Value} {b : String} {cs : List Value} {r : Bool} (h : PySem.W.kitOne K t (.type b) = some false) (hr : PySem.W.kitAny K t cs = some r) : PySem.W.kitAny K t (.type b :: cs) = some r := kitAny_cons h (fun _ => hr) fun z => nomatch z
theorem dec_t {p : Prop} [Decidable p] (h : p) {Q : Bool → Prop} (q : Q true) : Q (decide p) := by
  rw [decide_eq_true h]
  exact q
/-! ### comprehensions over zip -/
theorem lc_zipL {K : PySem.W.Frag} {a b : Addr} {xs ys : List V} {g : TG} {tt : TT} {te : TE} {vs : List Nat} {σ : L2.St} {H1 : Hp} {D : Addr} {Qd : Hp → Prop} (hl : xs.length = ys.length) (Pv : Nat → Hp → Prop) (h0 : Pv 0 (upd H1 D (.lst []))) (hq : ∀ i H, Pv i H → SqL K H a xs ∧ SqL K H b ys)
    (hs : ∀ (i : Nat) (x y : V) (T : Addr) (H : Hp), xs[i]? = some x → ys[i]? = some y → Pv i H → H T = none → g (.ref T) (wipe σ vs) (upd H T (.tup [x, y])) fun σ2 H2 => wipe σ2 vs = wipe σ vs ∧ tt σ2 H2 fun b H3 =>
      if b = true then te σ2 H3 fun y H4 => ∃ acc, H4 D = some (.lst acc) ∧ acc.length < sizeLine ∧ Pv (i + 1) (upd H4 D (.lst (acc ++ [y]))) else Pv (i + 1) H3) (hd : ∀ H, Pv xs.length H → Qd H) :
    ∃ W : Nat → Nat → Hp → Prop, (∃ m, W 0 m (upd H1 D (.lst []))) ∧ ∀ i m H, W i m H →
      ((Itz K a b).stop i H ∧ Qd H) ∨ ((Itz K a b).go i H ∧ ∃ Nx : Hp → Prop, (∀ H', Nx H' → ∃ m', m' < m ∧ W (i + 1) m' H') ∧ ∀ x H', (Itz K a b).yld i H x H' → g x (wipe σ vs) H' fun σ2 H2 => wipe σ2 vs = wipe σ vs ∧ tt σ2 H2 fun b H3 =>
        if b = true then te σ2 H3 fun y H4 => ∃ acc, H4 D = some (.lst acc) ∧ acc.length < sizeLine ∧ Nx (upd H4 D (.lst (acc ++ [y]))) else Nx H3) := by
  refine ⟨fun i m H => m = xs.length - i ∧ i ≤ xs.length ∧ Pv i H, ⟨xs.length, by simp, Nat.zero_le _, h0⟩, ?_⟩
  rintro i m H ⟨rfl, hi, p⟩
  obtain ⟨qx, qy⟩ := hq i H p
  by_cases hlt : i < xs.length
  · have hx : xs[i]? = some xs[i] := List.getElem?_eq_getElem hlt
    have hlt2 : i < ys.length := by omega
    have hy : ys[i]? = some ys[i] := List.getElem?_eq_getElem hlt2
    refine .inr ⟨⟨xs, ys, _, _, qx, qy, hx, hy⟩, Pv (i + 1), fun H' p' => ⟨xs.length - (i + 1), by omega, rfl, hlt, p'⟩, fun v H' y => ?_⟩
    obtain ⟨T, x', y', rfl, hT, rfl, f1, f2⟩ := y
    exact hs i x' y' T H (f1 xs qx) (f2 ys qy) p hT
  · have e : i = xs.length := by omega
    subst e
    exact .inl ⟨⟨xs, ys, qx, qy, Or.inl (Nat.le_refl _)⟩, hd H p⟩
theorem lc_zipT {K : PySem.W.Frag} {a b : Addr} {xs ys : List V} {g : TG} {tt : TT} {te : TE} {vs : List Nat} {σ : L2.St} {H1 : Hp} {D : Addr} {Qd : Hp → Prop} (hl : xs.length = ys.length) (Pv : Nat → Hp → Prop) (h0 : Pv 0 (upd H1 D (.lst []))) (hq : ∀ i H, Pv i H → SqT K H a xs ∧ SqT K H b ys)
    (hs : ∀ (i : Nat) (x y : V) (T : Addr) (H : Hp), xs[i]? = some x → ys[i]? = some y → Pv i H → H T = none → g (.ref T) (wipe σ vs) (upd H T (.tup [x, y])) fun σ2 H2 => wipe σ2 vs = wipe σ vs ∧ tt σ2 H2 fun b H3 =>
      if b = true then te σ2 H3 fun y H4 => ∃ acc, H4 D = some (.lst acc) ∧ acc.length < sizeLine ∧ Pv (i + 1) (upd H4 D (.lst (acc ++ [y]))) else Pv (i + 1) H3) (hd : ∀ H, Pv xs.length H → Qd H) :
    ∃ W : Nat → Nat → Hp → Prop, (∃ m, W 0 m (upd H1 D (.lst []))) ∧ ∀ i m H, W i m H →
      ((RZ.ItzT K a b).stop i H ∧ Qd H) ∨ ((RZ.ItzT K a b).go i H ∧ ∃ Nx : Hp → Prop, (∀ H', Nx H' → ∃ m', m' < m ∧ W (i + 1) m' H') ∧ ∀ x H', (RZ.ItzT K a b).yld i H x H' → g x (wipe σ vs) H' fun σ2 H2 => wipe σ2 vs = wipe σ vs ∧ tt σ2 H2 fun b H3 =>
        if b = true then te σ2 H3 fun y H4 => ∃ acc, H4 D = some (.lst acc) ∧ acc.length < sizeLine ∧ Nx (upd H4 D (.lst (acc ++ [y]))) else Nx H3) := by
  refine ⟨fun i m H => m = xs.length - i ∧ i ≤ xs.length ∧ Pv i H, ⟨xs.length, by simp, Nat.zero_le _, h0⟩, ?_⟩
  rintro i m H ⟨rfl, hi, p⟩
  obtain ⟨qx, qy⟩ := hq i H p
  by_cases hlt : i < xs.length
  · have hx : xs[i]? = some xs[i] := List.getElem?_eq_getElem hlt
    have hlt2 : i < ys.length := by omega
    have hy : ys[i]? = some ys[i] := List.getElem?_eq_getElem hlt2
    refine .inr ⟨⟨xs, ys, _, _, qx, qy, hx, hy⟩, Pv (i + 1), fun H' p' => ⟨xs.length - (i + 1), by omega, rfl, hlt, p'⟩, fun v H' y => ?_⟩
    obtain ⟨T, x', y', rfl, hT, rfl, f1, f2⟩ := y
    exact hs i x' y' T H (f1 xs qx) (f2 ys qy) p hT
  · have e : i = xs.length := by omega
    subst e
    exact .inl ⟨⟨xs, ys, qx, qy, Or.inl (Nat.le_refl _)⟩, hd H p⟩
/-! ### the source of draws -/
/-- the object of a source that may be drawn from n times more -/
def SrcO (n : Nat) (o : HO) : Prop := ∃ a b c : Int, o = .lst [.int a, .int b, .int c] ∧ 0 ≤ a ∧ 0 ≤ b ∧ b < 2147483648 ∧ 0 ≤ c ∧ c + (n : Int) ≤ 1000000000000
def Src (H : Hp) (s : Addr) (n : Nat) : Prop := ∃ o, H s = some o ∧ SrcO n o
theorem SrcO.mono {n m : Nat} {o : HO} (h : SrcO n o) (l : m ≤ n) : SrcO m o := by
  obtain ⟨a, b, c, e, h1, h2, h3, h4, h5⟩ := h
  exact ⟨a, b, c, e, h1, h2, h3, h4, by omega⟩
theorem Src.mono {H : Hp} {s : Addr} {n m : Nat} (h : Src H s n) (l : m ≤ n) : Src H s m := let ⟨o, e, q⟩ := h; ⟨o, e, q.mono l⟩
def dist (c w : Int) : Int := if c - w < 0 then -(c - w) else c - w
def near (w c x : Int) : Bool := HT.lexLt [dist x w, x] [dist c w, c]
/-- what an object in c with the wish w needs, of a row of n cells -/
def needsL (n : Nat) (c w : Int) : List Int := ((List.range n).map fun (i : Nat) => (i : Int)).filter (near w c)
theorem needsL_succ (n : Nat) (c w : Int) : needsL (n + 1) c w = needsL n c w ++ (if near w c (n : Int) = true then [(n : Int)] else []) := by
  unfold needsL
  rw [List.range_succ, List.map_append, List.filter_append]
  congr 1
  simp only [List.map_cons, List.map_nil, List.filter_cons, List.filter_nil]
theorem needsL_len (n : Nat) (c w : Int) : (needsL n c w).length ≤ n := by
  unfold needsL
  refine Nat.le_trans (List.length_filter_le _ _) ?_
  simp
end NS
namespace NS
theorem src_a (z : Int) (k : Bool) : 0 ≤ (if z < 0 then -z else z) * (if k = true then 1 else 0) := by
  have h : 0 ≤ (if z < 0 then -z else z) := by split <;> omega
  generalize (if z < 0 then -z else z) = y at h
  cases k
  · rw [if_neg Bool.false_ne_true, Int.mul_zero]
    exact Int.le_refl 0
  · rw [if_pos rfl, Int.mul_one]
    exact h
theorem cmul_b (x : Int) (k : Bool) : L2.CMul x (if k = true then 1 else 0) := .inr (by cases k <;> exact ⟨by decide, by decide⟩)
section
open PySem L2
variable {X : Cx} {K : PySem.W.Frag}
theorem op_ltTK (e : X.K = K) (hu : X.A.units < cLine) : OpR X (compareOp .Lt) (rLtT K) := by subst e; exact op_ltT hu
theorem ix_listK (e : X.K = K) : IxR X (rIxL K) := by subst e; exact ix_list
theorem ix_tupK (e : X.K = K) : IxR X (rIxT K) := by subst e; exact ix_tup
theorem call_lenK (e : X.K = K) : CallR X (.builtin "len") (fun xs H Q => ∃ p ys, xs = [.ref p] ∧ (SqL K H p ys ∨ SqT K H p ys) ∧ Q (.int ys.length) H) := by subst e; exact call_len_seq
theorem call_isiKK (e : X.K = K) : CallR X (.builtin "isinstance") (rIsi K) := by subst e; exact call_isi
theorem call_isiTK (e : X.K = K) : CallR X (.builtin "isinstance") (rIsiT K) := by subst e; exact call_isiT
theorem op_inK (e : X.K = K) : OpR X (compareOp .In) (rIn K false) := by subst e; exact op_in_seq
theorem op_notInK (e : X.K = K) : OpR X (compareOp .NotIn) (rIn K true) := by subst e; exact op_notIn_seq
theorem cr_allK (e : X.K = K) (hc : X.calm = true) : CallR X (.builtin "all") (rAll K) := by subst e; exact cr_all hc
theorem cr_anyK (e : X.K = K) (hc : X.calm = true) : CallR X (.builtin "any") (rAny K) := by subst e; exact cr_any hc
theorem call_tupleK (e : X.K = K) : CallR X (.type "tuple") (fun xs H Q => ∃ p ys, xs = [.ref p] ∧ ((SqL K H p ys ∧ ∀ l, H l = none → Q (.ref l) (upd H l (.tup ys))) ∨ (SqT K H p ys ∧ Q (.ref p) H))) := by subst e; exact call_tuple_of
theorem call_listK (e : X.K = K) : CallR X (.type "list") (fun xs H Q => ∃ p ys, xs = [.ref p] ∧ (SqL K H p ys ∨ SqT K H p ys) ∧ ∀ l, H l = none → Q (.ref l) (upd H l (.lst ys))) := by subst e; exact call_list_of
theorem op_eqDK (e : X.K = K) (hu : X.A.units + 64 < cLine) : OpR X (compareOp .Eq) (rEqD K) := by subst e; exact op_eqD hu
theorem op_neDK (e : X.K = K) (hu : X.A.units + 64 < cLine) : OpR X (compareOp .NotEq) (rNeD K) := by subst e; exact op_neD hu
theorem pg_tupK {es : List Expr} {k : Nat} {pos : Pos} {t : TGs} {n : Nat} (e : X.K = K) (hc : X.calm = true) (h : PGs X es t)
    (hn : (assignEach es X.env).length = n := by rfl) (hst : (assignEach es X.env).findIdx? (·.1) = none := by rfl) : PG X (.Tuple es k pos) (gTup K n t) := by subst e; exact pg_tup hc h hn hst
end
end NS
namespace NS
open PySem L2
/-- all but s stays -/
def Stay (s : Addr) (H H' : Hp) : Prop := ∀ b o, b ≠ s → H b = some o → H' b = some o
theorem Stay.refl (s : Addr) (H : Hp) : Stay s H H := fun _ _ _ h => h
theorem Stay.trans {s : Addr} {H H1 H2 : Hp} (a : Stay s H H1) (b : Stay s H1 H2) : Stay s H H2 := fun c o n h => b c o n (a c o n h)
theorem stay_upd {s : Addr} {H : Hp} {o : HO} : Stay s H (upd H s o) := fun b x n e => by
  rw [upd_ne n]
  exact e
theorem Stay.of {s : Addr} {H H' : Hp} (e : Same H H') : Stay s H H' := fun b o _ h => e b o h
theorem same_stay {s : Addr} {H H' : Hp} {o : HO} (hn : H s = none) (e : Stay s (upd H s o) H') : Same H H' := fun b x h => by
  have nb : b ≠ s := ne_of_none h hn
  exact e b x nb (by rw [upd_ne nb]; exact h)
theorem Stay.mut {s : Addr} {H H' : Hp} {p : Addr} {o : HO} (e : Stay s H H') (h : H p = none) : Stay s H (upd H' p o) := fun a u n ha => by
  rw [upd_ne (ne_of_none ha h)]
  exact e a u n ha
theorem Stay.seq {K : PySem.W.Frag} {s : Addr} {H H' : Hp} {a : Addr} {xs : List V} (e : Stay s H H') (n : a ≠ s) (h : SqL K H a xs) : SqL K H' a xs := by
  rcases h with (h | ⟨o, h⟩) | h
  · exact .inl (.inl (e _ _ n h))
  · exact .inl (.inr ⟨o, e _ _ n h⟩)
  · exact .inr h
theorem Stay.tup {K : PySem.W.Frag} {s : Addr} {H H' : Hp} {a : Addr} {xs : List V} (e : Stay s H H') (n : a ≠ s) (h : SqT K H a xs) : SqT K H' a xs := by
  rcases h with (h | ⟨o, h⟩) | h
  · exact .inl (.inl (e _ _ n h))
  · exact .inl (.inr ⟨o, e _ _ n h⟩)
  · exact .inr h
/-! ### data -/
def dT (ns : List Int) : PyData := .tuple (ns.map PyData.int)
def dL (ns : List Int) : PyData := .list (ns.map PyData.int)
theorem dp_ints {K : PySem.W.Frag} {H : Hp} : ∀ ns : List Int, DpAll K H (ns.map V.int) (ns.map PyData.int)
  | [] => .nil
  | n :: ns => .cons (.int n) (dp_ints ns)
theorem dp_T {K : PySem.W.Frag} {H : Hp} {a : Addr} {ns : List Int} (h : SqT K H a (ns.map V.int)) : Dp K H (.ref a) (dT ns) := .tup h (dp_ints ns)
theorem dp_L {K : PySem.W.Frag} {H : Hp} {a : Addr} {ns : List Int} (h : SqL K H a (ns.map V.int)) : Dp K H (.ref a) (dL ns) := .lst h (dp_ints ns)
theorem atI_neg1 (x : Int) (r : List Int) : atI ((x :: r).map V.int) (-1) = some (.int ((x :: r).getLast (List.cons_ne_nil x r))) := by
  have hz : ((x :: r).map V.int) = ((x :: r).dropLast.map V.int) ++ [.int ((x :: r).getLast (List.cons_ne_nil _ _))] := by
    rw [← List.map_singleton, ← List.map_append, List.dropLast_concat_getLast]
  rw [hz]
  exact atI_last _ _
/-- the last and the first of what is needed lie beside the cell -/
def edgeB (n : Nat) (c w : Int) : Bool := match needsL n c w with
  | [] => true
  | x :: r => decide ((x :: r).getLast (List.cons_ne_nil x r) + 1 = c) || decide (x - 1 = c)
theorem edge_all : ((List.range 13).all fun n => (List.range n).all fun c => (List.range n).all fun w => edgeB n (c : Nat) (w : Nat)) = true := by decide +kernel
theorem edge {n c w : Nat} (hn : n ≤ 12) (hc : c < n) (hw : w < n) : edgeB n (c : Int) (w : Int) = true := by
  have h := edge_all
  rw [List.all_eq_true] at h
  have h1 := h n (List.mem_range.mpr (by omega))
  rw [List.all_eq_true] at h1
  have h2 := h1 c (List.mem_range.mpr hc)
  rw [List.all_eq_true] at h2
  exact h2 w (List.mem_range.mpr hw)
end NS
namespace NS
open PySem L2
theorem lay_ints : ∀ ns : List Int, PyData.canLayAll0 (ns.map PyData.int) = true
  | [] => rfl
  | _ :: r => by simp [PyData.canLayAll0, PyData.canLay0, lay_ints r]
theorem dep_ints : ∀ ns : List Int, PyData.depthAll (ns.map PyData.int) = 0
  | [] => rfl
  | _ :: r => by simp [PyData.depthAll, PyData.depth, dep_ints r]
theorem sh_T (ns : List Int) : SeqAt.shaped (dT ns) = true := by
  simp [SeqAt.shaped, dT, PyData.canLay0, PyData.depth, lay_ints, dep_ints]
theorem sh_L (ns : List Int) : SeqAt.shaped (dL ns) = true := by
  simp [SeqAt.shaped, dL, PyData.canLay0, PyData.depth, lay_ints, dep_ints]
end NS
namespace NS
open PySem L2
theorem nd_int {a b : Int} (h : a = b) (c : (!decide (V.int a = V.int b)) = true) : False := by
  rw [h, decide_eq_true rfl] at c
  cases c
end NS

namespace NS
open PySem L2
mutual
def depthD : PyData → Nat
  | .list ds => depthL ds + 1
  | .tuple ds => depthL ds + 1
  | _ => 0
def depthL : List PyData → Nat
  | [] => 0
  | d :: ds => max (depthD d) (depthL ds)
end
theorem depthL_get : ∀ {ds : List PyData} {d : PyData} {i : Nat}, ds[i]? = some d → depthD d ≤ depthL ds
  | [], d, i, h => by simp at h
  | e :: ds, d, 0, h => by
    have q : e = d := Option.some.inj h
    subst q
    unfold depthL
    exact Nat.le_max_left _ _
  | e :: ds, d, i + 1, h => by
    have q := depthL_get (ds := ds) (d := d) (i := i) (by simpa using h)
    unfold depthL
    exact Nat.le_trans q (Nat.le_max_right _ _)
theorem dpAll_len {K : PySem.W.Frag} {H : Hp} : ∀ {vs : List V} {ds : List PyData}, DpAll K H vs ds → vs.length = ds.length
  | _, _, .nil => rfl
  | _, _, .cons _ b => congrArg (· + 1) (dpAll_len b)
theorem dpAll_get {K : PySem.W.Frag} {H : Hp} : ∀ {vs : List V} {ds : List PyData} {i : Nat} {v : V}, DpAll K H vs ds → vs[i]? = some v → ∃ d, ds[i]? = some d ∧ Dp K H v d
  | _, _, _, _, .nil, h => by simp at h
  | _, _, 0, v, .cons a _, h => by
    have q := Option.some.inj h
    subst q
    exact ⟨_, rfl, a⟩
  | _, _, i + 1, v, .cons _ b, h => by
    obtain ⟨d, e, q⟩ := dpAll_get (i := i) (v := v) b (by simpa using h)
    exact ⟨d, by simpa using e, q⟩
mutual
def wideD : PyData → Nat
  | .list ds => max ds.length (wideL ds)
  | .tuple ds => max ds.length (wideL ds)
  | _ => 0
def wideL : List PyData → Nat
  | [] => 0
  | d :: ds => max (wideD d) (wideL ds)
end
theorem wideL_get : ∀ {ds : List PyData} {d : PyData} {i : Nat}, ds[i]? = some d → wideD d ≤ wideL ds
  | [], d, i, h => by simp at h
  | e :: ds, d, 0, h => by
    have q : e = d := Option.some.inj h
    subst q
    unfold wideL
    exact Nat.le_max_left _ _
  | e :: ds, d, i + 1, h => by
    have q := wideL_get (ds := ds) (d := d) (i := i) (by simpa using h)
    unfold wideL
    exact Nat.le_trans q (Nat.le_max_right _ _)
theorem depth_ints : ∀ ns : List Int, depthL (ns.map PyData.int) = 0
  | [] => by unfold depthL; rfl
  | n :: ns => by
    show depthL (PyData.int n :: ns.map PyData.int) = 0
    unfold depthL
    rw [depth_ints ns]
    unfold depthD
    rfl
theorem wide_ints : ∀ ns : List Int, wideL (ns.map PyData.int) = 0
  | [] => by unfold wideL; rfl
  | n :: ns => by
    show wideL (PyData.int n :: ns.map PyData.int) = 0
    unfold wideL
    rw [wide_ints ns]
    unfold wideD
    rfl
theorem depth_T (ns : List Int) : depthD (dT ns) = 1 := by
  unfold dT depthD
  rw [depth_ints]
theorem wide_T (ns : List Int) : wideD (dT ns) = ns.length := by
  unfold dT wideD
  rw [wide_ints, List.length_map]
  omega
theorem depth_L (ns : List Int) : depthD (dL ns) = 1 := by
  unfold dL depthD
  rw [depth_ints]
theorem wide_L (ns : List Int) : wideD (dL ns) = ns.length := by
  unfold dL wideD
  rw [wide_ints, List.length_map]
  omega
theorem depth_list (ds : List PyData) : depthD (.list ds) = depthL ds + 1 := by rw [depthD]
theorem depth_tuple (ds : List PyData) : depthD (.tuple ds) = depthL ds + 1 := by rw [depthD]
theorem depthL_nil : depthL [] = 0 := by rw [depthL]
theorem depthL_cons (d : PyData) (ds : List PyData) : depthL (d :: ds) = max (depthD d) (depthL ds) := by rw [depthL]
theorem wide_list (ds : List PyData) : wideD (.list ds) = max ds.length (wideL ds) := by rw [wideD]
theorem wide_tuple (ds : List PyData) : wideD (.tuple ds) = max ds.length (wideL ds) := by rw [wideD]
theorem wideL_nil : wideL [] = 0 := by rw [wideL]
theorem wideL_cons (d : PyData) (ds : List PyData) : wideL (d :: ds) = max (wideD d) (wideL ds) := by rw [wideL]
end NS

namespace NS
open PySem L2
def top (i : Nat) : Stmt := PySem.Challenge.pw_nearslot_k02_what_is_needed.main.body.getD i (.Pass ⟨0, 0, 0, 0⟩)
abbrev s_nearness : Stmt := top 1
abbrev s_needs : Stmt := top 2
abbrev s_law_source : Stmt := top 4
abbrev s_law_draw : Stmt := top 5
abbrev s_law_equal : Stmt := top 6
abbrev s_law_needs : Stmt := top 7
abbrev s_law_holds : Stmt := top 8
abbrev s_law : Stmt := top 9

theorem sc_nearness : FnScope ["cell", "wish"] ["cell", "wish"] (defScope s_nearness) := ⟨rfl, rfl, rfl, by decide +kernel, rfl, by decide +kernel, by decide +kernel⟩
theorem sc_needs : FnScope ["size", "cell", "wish", "own", "other"] ["size", "cell", "wish"] (defScope s_needs) := ⟨rfl, rfl, rfl, by decide +kernel, rfl, by decide +kernel, by decide +kernel⟩
theorem sc_law_source : FnScope ["_law_script", "_law_index", "_law_core"] ["_law_script", "_law_index"] (defScope s_law_source) := ⟨rfl, rfl, rfl, by decide +kernel, rfl, by decide +kernel, by decide +kernel⟩
theorem sc_law_draw : FnScope ["_law_source_here", "_law_bound", "_law_found", "_law_once"] ["_law_source_here", "_law_bound"] (defScope s_law_draw) := ⟨rfl, rfl, rfl, by decide +kernel, rfl, by decide +kernel, by decide +kernel⟩
theorem sc_law_equal : FnScope ["_law_found", "_law_due", "_law_lone", "_law_mate"] ["_law_found", "_law_due"] (defScope s_law_equal) := ⟨rfl, rfl, rfl, by decide +kernel, rfl, by decide +kernel, by decide +kernel⟩
theorem sc_law_needs : FnScope ["_law_width", "_law_spot", "_law_hope", "_law_at"] ["_law_width", "_law_spot", "_law_hope"] (defScope s_law_needs) := ⟨rfl, rfl, rfl, by decide +kernel, rfl, by decide +kernel, by decide +kernel⟩
theorem sc_law_holds : FnScope ["_law_source_here", "_law_width", "_law_spot", "_law_hope", "_law_due", "_law_told"] ["_law_source_here"] (defScope s_law_holds) := ⟨rfl, rfl, rfl, by decide +kernel, rfl, by decide +kernel, by decide +kernel⟩
theorem sc_law : FnScope ["_law_script", "_law_index"] ["_law_script"] (defScope s_law) := ⟨rfl, rfl, rfl, by decide +kernel, rfl, by decide +kernel, by decide +kernel⟩

def pm_kb_needs_wish_cell_size {α : Type} : List α → List α
  | [a0, a1, a2] => [a2, a1, a0]
  | l => l
theorem kb_needs_wish_cell_size {K : PySem.W.Frag} {f : Addr} {fd : FuncData} (F : Fun K "needs" "needs" s_needs f fd) : KBn K fd ["size", "cell", "wish"] 0 ["wish", "cell", "size"] (fun _ ws => pm_kb_needs_wish_cell_size ws) (fun _ zs => pm_kb_needs_wish_cell_size zs) := by
  obtain ⟨oc, od, kV, doc, pm, an, cdv, ct, osl, rfl, lk, hcd⟩ := F.ex
  refine ⟨fun s us ws X l1 l2 => match us, ws, l1, l2 with | [], [_, _, _], _, _ => .of_eq rfl, fun {vs us zs ws} r1 r2 => ?_⟩
  exact (match r2 with
    | .nil => .nil
    | (.cons a0 .nil) => (.cons a0 .nil)
    | (.cons a0 (.cons a1 .nil)) => (.cons a0 (.cons a1 .nil))
    | (.cons a0 (.cons a1 (.cons a2 .nil))) => (.cons a2 (.cons a1 (.cons a0 .nil)))
    | (.cons a0 (.cons a1 (.cons a2 (.cons b r)))) => (.cons a0 (.cons a1 (.cons a2 (.cons b r)))))

structure Bt (mg : Str → Option Value) : Prop where
  abs : mg "abs" = none
  all : mg "all" = none
  bool : mg "bool" = none
  int : mg "int" = none
  isinstance : mg "isinstance" = none
  len : mg "len" = none
  list : mg "list" = none
  max : mg "max" = none
  min : mg "min" = none
  range : mg "range" = none
  str : mg "str" = none
  tuple : mg "tuple" = none
  zip : mg "zip" = none

section
variable {P : Program} {w : World} {K : PySem.W.Frag} {mg : Str → Option Value} {base : Heap}
/-! ### nearness -/
def spNearness : Sp := fun vs H Q _ => ∃ c w : Int, vs = [.int c, .int w] ∧ ∀ p, H p = none → Q (.ref p) (upd H p (.tup [.int (dist c w), .int c]))
theorem ok_nearness (T : Bt mg) {f : Addr} {fd : FuncData} {k : Nat} (D : Df K mg "nearness" s_nearness ["cell", "wish"] f fd) : Kn P w K mg base (k + 1) "nearness" s_nearness ["cell", "wish"] spNearness f fd := by
  refine ⟨D, D.F.ok sc_nearness (fun vs H Q E h => ?_) (fun cdv A outer s H vs Q E hr h => ?_)⟩
  · obtain ⟨a, ns, rfl, _⟩ := h
    rfl
  obtain ⟨c, w', rfl, q⟩ := h
  refine ⟨_, (pss_one (ps_ret (pe_tup (pa_cons (pe_callB call_abs (by rfl) T.abs (by decide +kernel) (pa_cons (pe_op op_sub (pv 0) (pv 1)) pa_nil)) (pa_cons (pv 0) pa_nil))))), ?_⟩
  exact ⟨_, rfl, _, rfl, _, _, rfl, rfl, _, rfl, _, rfl, (by show 2 ≤ sizeLine; decide), fun p hp => q p hp⟩

/-! ### needs -/
def spNeeds : Sp := fun vs H Q _ => ∃ (n : Nat) (c w : Int), vs = [.int n, .int c, .int w] ∧ n ≤ 100 ∧ ∀ p H', Same H H' → H p = none → H' p = some (.tup ((needsL n c w).map V.int)) → Q (.ref p) H'
theorem ok_needs (T : Bt mg) {f f1 : Addr} {fd fd1 : FuncData} {k : Nat} (D : Df K mg "needs" s_needs ["size", "cell", "wish"] f fd) (k_nearness : Kn P w K mg base (k + 1) "nearness" s_nearness ["cell", "wish"] spNearness f1 fd1) : Kn P w K mg base (k + 2) "needs" s_needs ["size", "cell", "wish"] spNeeds f fd := by
  refine ⟨D, D.F.ok sc_needs (fun vs H Q E h => ?_) (fun cdv A outer s H vs Q E hr h => ?_)⟩
  · obtain ⟨n, c, w', rfl, _⟩ := h
    rfl
  obtain ⟨n, c, w', rfl, hn, q⟩ := h
  refine ⟨_, (pss_cons (ps_set (i := 3) sc_needs.nd rfl (.inr rfl) (pe_call k_nearness.G (hr.mono (by omega)) (by rfl) k_nearness.D.g k_nearness.D.F.kp k_nearness.D.b .nil pass0 (pa_cons (pv 1) (pa_cons (pv 2) pa_nil))))
      (pss_one (ps_ret (pe_callTy (call_tupleK (K := K) rfl) (by rfl) T.tuple (by decide +kernel) (pa_cons (pe_lc (own := [("other", 4)]) (by rfl) sc_needs.nd (pi_range1 (by rfl) T.range (pa_cons (pv 0) pa_nil)) (blkOk_by (own := [("other", 4)]) (N := ["size", "cell", "wish", "own", "other"]) (sc := defScope s_needs) (by decide +kernel)) (fun _ _ _ _ _ => (pg_name (i := 4) sc_needs.nd rfl (.inl rfl))) (fun _ _ _ _ _ => (pts_one (pt_cmpR (op_ltTK (K := K) rfl hr.units0) (pe_call k_nearness.G (hr.mono (by omega)) (by rfl) k_nearness.D.g k_nearness.D.F.kp k_nearness.D.b .nil pass0 (pa_cons (pv 4) (pa_cons (pv 2) pa_nil))) (pv 3) (nomark _)))) (fun _ _ _ _ _ => (pv 4))) pa_nil))))), ?_⟩
  -- own = nearness(cell, wish)
  refine ⟨_, rfl, _, rfl, c, w', rfl, fun o ho => ?_⟩
  -- the comprehension
  refine ⟨_, rfl, (n : Int), rfl, by omega, by omega, fun D' hD => ?_⟩
  have so : Same H (upd H o (.tup [.int (dist c w'), .int c])) := same_upd ho
  have en : ((n : Int)).toNat = n := Int.toNat_natCast n
  rw [en]
  refine lc_range (lo := 0) (n := n) (fun i H2 => Same (upd H o (.tup [.int (dist c w'), .int c])) H2 ∧ H2 D' = some (.lst ((needsL i c w').map V.int))) ⟨same_upd hD, upd_same⟩ (fun i H2 hi hP => ?_) (fun H2 hP => ?_)
  · obtain ⟨s2, e2⟩ := hP
    refine ⟨rfl, _, rfl, _, rfl, _, _, rfl, fun p hp => ?_⟩
    have h1 : Same H2 (upd H2 p (.tup [.int (dist (0 + (i : Int)) w'), .int (0 + (i : Int))])) := same_upd hp
    refine ⟨_, rfl, p, o, [dist (0 + (i : Int)) w', 0 + (i : Int)], [dist c w', c], rfl, rfl, sqT upd_same, sqT (h1 _ _ (s2 _ _ upd_same)), _, rfl, ?_⟩
    have ez : (0 : Int) + (i : Int) = (i : Int) := Int.zero_add _
    have hsz : ((needsL i c w').map V.int).length < sizeLine := by
      rw [List.length_map]
      exact small1000 (Nat.le_trans (needsL_len i c w') (by omega))
    rw [ez]
    rw [ez] at h1
    refine ite2 (fun hb => ?_) (fun hb => ?_)
    · refine ⟨_, rfl, _, h1 _ _ e2, hsz, ?_, ?_⟩
      · exact Same.mut (s2.trans h1) hD
      · rw [upd_same, needsL_succ, if_pos (show near w' c (i : Int) = true from hb), List.map_append]
        rfl
    · refine ⟨s2.trans h1, ?_⟩
      rw [needsL_succ, if_neg (show ¬ near w' c (i : Int) = true from hb), List.append_nil]
      exact h1 _ _ e2
  · obtain ⟨s2, e2⟩ := hP
    refine ⟨D', _, rfl, .inl ⟨sqL e2, fun l hl => ?_⟩⟩
    exact q l _ ((so.trans s2).trans (same_upd hl)) (so.free (s2.free hl)) upd_same

/-! ### _law_source -/
def spSource (K : PySem.W.Frag) : Sp := fun vs H Q _ => ∃ (a : Addr) (ns : List Int) (i : Nat), vs = [.ref a, .int i] ∧ SqL K H a (ns.map V.int) ∧ ns.length ≤ 63 ∧ i ≤ 63 ∧ ∀ p o, H p = none → SrcO 1000000000000 o → Q (.ref p) (upd H p o)
theorem ok_source (T : Bt mg) {f : Addr} {fd : FuncData} {k : Nat} (D : Df K mg "_law_source" s_law_source ["_law_script", "_law_index"] f fd) : Kn P w K mg base (k + 1) "_law_source" s_law_source ["_law_script", "_law_index"] (spSource K) f fd := by
  refine ⟨D, D.F.ok sc_law_source (fun vs H Q E h => ?_) (fun cdv A outer s H vs Q E hr h => ?_)⟩
  · obtain ⟨a, ns, i, rfl, _⟩ := h
    rfl
  obtain ⟨a, ns, i, rfl, hS, h63, hi, q⟩ := h
  refine ⟨_, (pss_cons (ps_set (i := 2) sc_law_source.nd rfl (.inl rfl) pe_int)
      (pss_cons (ps_if (pt_cmpR op_lt (pv 1) (pe_callB (call_lenK (K := K) rfl) (by rfl) T.len (by decide +kernel) (pa_cons (pv 0) pa_nil)) (nomark _)) (pss_one (ps_set (i := 2) sc_law_source.nd rfl (.inl rfl) (pe_ix (ix_listK (K := K) rfl) (pv 0) (pv 1) (fun _ _ => rfl)))) pss_nil)
      (pss_one (ps_ret (pe_lst (pa_cons (pe_op op_mul (pe_callB call_abs (by rfl) T.abs (by decide +kernel) (pa_cons (pv 2) pa_nil)) (pe_callTy call_int1 (by rfl) T.int (by decide +kernel) (pa_cons (pe_cmpR op_ge (pe_callB call_abs (by rfl) T.abs (by decide +kernel) (pa_cons (pv 2) pa_nil)) (pe_op op_pow pe_int pe_int) (nomark _)) pa_nil))) (pa_cons (pe_op op_mod (pe_op op_mul (pe_op op_add (pe_op op_add (pe_op op_mod (pv 2) pe_int) (pe_op op_mul pe_int (pv 1))) pe_int) pe_int) pe_int) (pa_cons pe_int pa_nil)))))))), ?_⟩
  refine ⟨_, rfl, _, rfl, a, _, rfl, .inl hS, _, _, rfl, rfl, _, rfl, ?_⟩
  refine ite2 (fun c => ?_) (fun c => ?_)
  · have c' : (i : Int) < (((ns.map V.int).length : Nat) : Int) := of_decide_eq_true c
    rw [List.length_map] at c'
    have g : (ns.map V.int)[i]? = some (.int ns[i]) := by
      rw [List.getElem?_map, List.getElem?_eq_getElem (by omega)]
      rfl
    refine ⟨_, rfl, _, rfl, a, _, _, _, rfl, rfl, hS, atI_nat g, ?_⟩
    generalize ns[i] = z
    refine ⟨_, rfl, _, rfl, _, rfl, _, rfl, _, _, rfl, rfl, ⟨by decide, by decide, by decide⟩, _, _, rfl, rfl, .inr ⟨_, rfl, _, _, rfl, rfl, cmul_b _ _, ?_⟩⟩
    refine ⟨_, rfl, _, _, rfl, rfl, (by show (0 : Int) < 2147483563; decide), _, rfl, _, _, rfl, rfl, .inl ⟨by decide, by decide⟩, _, _, rfl, rfl, _, _, rfl, rfl, _, _, rfl, rfl, .inr ⟨by decide, by decide⟩, _, _, rfl, rfl, (by show (0 : Int) < 2147483543; decide), (by show 3 ≤ sizeLine; decide), fun p hp => q p _ hp ?_⟩
    exact ⟨_, _, _, rfl, src_a z _, Int.emod_nonneg _ (by decide), Int.lt_trans (Int.emod_lt_of_pos _ (by decide)) (by decide), Int.le_refl 0, by decide⟩
  · refine ⟨_, rfl, _, rfl, _, rfl, _, rfl, _, _, rfl, rfl, ⟨by decide, by decide, by decide⟩, _, _, rfl, rfl, .inr ⟨_, rfl, _, _, rfl, rfl, cmul_b _ _, ?_⟩⟩
    refine ⟨_, rfl, _, _, rfl, rfl, (by show (0 : Int) < 2147483563; decide), _, rfl, _, _, rfl, rfl, .inl ⟨by decide, by decide⟩, _, _, rfl, rfl, _, _, rfl, rfl, _, _, rfl, rfl, .inr ⟨by decide, by decide⟩, _, _, rfl, rfl, (by show (0 : Int) < 2147483543; decide), (by show 3 ≤ sizeLine; decide), fun p hp => q p _ hp ?_⟩
    exact ⟨_, _, _, rfl, src_a 0 _, Int.emod_nonneg _ (by decide), Int.lt_trans (Int.emod_lt_of_pos _ (by decide)) (by decide), Int.le_refl 0, by decide⟩

/-! ### _law_draw, of at most ten million -/
def spDraw : Sp := fun vs H Q _ => ∃ (s : Addr) (m : Int) (n : Nat), vs = [.ref s, .int m] ∧ 0 < m ∧ m ≤ 10000000 ∧ Src H s (n + 1) ∧ ∀ r o, 0 ≤ r → r < m → SrcO n o → Q (.int r) (upd H s o)
theorem ok_draw (T : Bt mg) {f : Addr} {fd : FuncData} {k : Nat} (D : Df K mg "_law_draw" s_law_draw ["_law_source_here", "_law_bound"] f fd) : Kn P w K mg base (k + 1) "_law_draw" s_law_draw ["_law_source_here", "_law_bound"] spDraw f fd := by
  refine ⟨D, D.F.ok sc_law_draw (fun vs H Q E h => ?_) (fun cdv A outer s H vs Q E hr h => ?_)⟩
  · obtain ⟨a, m, n, rfl, _⟩ := h
    rfl
  obtain ⟨s', m, n, rfl, hm0, hm, ⟨_, hs, a, b, c, rfl, ha, hb0, hb, hc0, hc⟩, q⟩ := h
  refine ⟨_, (pss_cons (ps_if (pt_cmpR op_gt (pe_ix (ix_listK (K := K) rfl) (pv 0) pe_int (fun _ _ => rfl)) pe_int (nomark _)) (pss_cons (ps_set (i := 2) sc_law_draw.nd rfl (.inl rfl) (pe_op op_mod (pe_ix (ix_listK (K := K) rfl) (pv 0) pe_int (fun _ _ => rfl)) (pv 1)))
      (pss_cons (ps_asg (pe_op op_fdiv (pe_ix (ix_listK (K := K) rfl) (pv 0) pe_int (fun _ _ => rfl)) (pv 1)) (pg_sub (pv 0) pe_int set_list))
      (pss_one (ps_ret (pv 2))))) pss_nil)
      (pss_cons (ps_if (pt_cmpR op_gt (pv 1) (pe_op op_pow pe_int pe_int) (nomark _)) (pss_one ps_never) pss_nil)
      (pss_cons (ps_asg (pe_op op_add (pe_ix (ix_listK (K := K) rfl) (pv 0) pe_int (fun _ _ => rfl)) pe_int) (pg_sub (pv 0) pe_int set_list))
      (pss_cons (ps_set (i := 3) sc_law_draw.nd rfl (.inl rfl) (pe_op op_mod (pe_op op_pow (pe_op op_add (pe_ix (ix_listK (K := K) rfl) (pv 0) pe_int (fun _ _ => rfl)) (pe_op op_mul pe_int (pe_ix (ix_listK (K := K) rfl) (pv 0) pe_int (fun _ _ => rfl)))) pe_int) pe_int))
      (pss_one (ps_ret (pe_op op_mod (pe_op op_fdiv (pe_op op_mod (pe_op op_add (pe_op op_mul (pv 3) (pe_op op_add (pe_op op_mod (pv 3) pe_int) pe_int)) (pe_op op_mul (pe_ix (ix_listK (K := K) rfl) (pv 0) pe_int (fun _ _ => rfl)) pe_int)) pe_int) pe_int) (pv 1)))))))), ?_⟩
  refine ⟨_, rfl, s', _, _, _, rfl, rfl, sqL hs, atI_nat (j := 0) rfl, _, _, rfl, rfl, _, rfl, ?_⟩
  refine ite2 (fun hp => ?_) (fun hp => ?_)
  · refine ⟨_, rfl, s', _, _, _, rfl, rfl, sqL hs, atI_nat (j := 0) rfl, _, rfl, _, _, rfl, rfl, hm0, ?_⟩
    refine ⟨_, rfl, s', _, _, _, rfl, rfl, sqL hs, atI_nat (j := 0) rfl, _, rfl, _, _, rfl, rfl, ⟨hm0, by omega⟩, ?_⟩
    refine ⟨_, rfl, s', _, _, 0, rfl, rfl, hs, rfl, ?_⟩
    refine ⟨_, rfl, ?_⟩
    exact q _ _ (Int.emod_nonneg _ (by omega)) (Int.emod_lt_of_pos _ hm0) ⟨_, _, _, rfl, Int.ediv_nonneg ha (by omega), hb0, hb, hc0, by omega⟩
  · refine ⟨_, rfl, _, _, rfl, rfl, ⟨by decide, by decide, by decide⟩, _, _, rfl, rfl, _, rfl, ?_⟩
    refine ite2 (fun hp2 => ?_) (fun hp2 => ?_)
    · have z : ((10 : Int) ^ (7 : Int).toNat) < m := of_decide_eq_true hp2
      have z2 : ((10 : Int) ^ (7 : Int).toNat) = 10000000 := by decide
      rw [z2] at z
      omega
    · refine ⟨_, rfl, s', _, _, _, rfl, rfl, sqL hs, atI_nat (j := 2) rfl, _, _, rfl, rfl, ?_⟩
      refine ⟨_, rfl, s', _, _, 2, rfl, rfl, hs, rfl, ?_⟩
      have hs2 : (upd H s' (.lst [.int a, .int b, .int (c + 1)])) s' = some (.lst [.int a, .int b, .int (c + 1)]) := upd_same
      refine ⟨_, rfl, s', _, _, _, rfl, rfl, sqL hs2, atI_nat (j := 1) rfl, _, rfl, s', _, _, _, rfl, rfl, sqL hs2, atI_nat (j := 2) rfl, _, _, rfl, rfl, .inl ⟨by decide, by decide⟩, _, _, rfl, rfl, _, _, rfl, rfl, ⟨by decide, by decide, ?_⟩, _, _, rfl, rfl, (by show (0 : Int) < 2147483579; decide), ?_⟩
      · have h64 : (2 : Nat) ^ 64 = 18446744073709551616 := by decide
        rw [h64]
        omega
      · refine ⟨_, rfl, _, rfl, _, _, rfl, rfl, (by show (0 : Int) < 40009; decide), _, _, rfl, rfl, _, _, rfl, rfl, ?_, _, rfl, s', _, _, _, rfl, rfl, sqL hs2, atI_nat (j := 2) rfl, _, _, rfl, rfl, .inr ⟨by decide, by decide⟩, _, _, rfl, rfl, _, _, rfl, rfl, (by show (0 : Int) < 2147483647; decide), _, _, rfl, rfl, ⟨by decide, by decide⟩, _, rfl, _, _, rfl, rfl, hm0, ?_⟩
        · refine .inl ⟨?_, ?_⟩
          · exact Int.lt_of_lt_of_le (by decide) (Int.emod_nonneg _ (by decide))
          · exact Int.lt_trans (Int.emod_lt_of_pos _ (by decide)) (by decide)
        · exact q _ _ (Int.emod_nonneg _ (by omega)) (Int.emod_lt_of_pos _ hm0) ⟨_, _, _, rfl, ha, hb0, hb, by omega, by omega⟩

/-! ### _law_needs -/
def spLawNeeds : Sp := fun vs H Q _ => ∃ (n : Nat) (c w : Int), vs = [.int n, .int c, .int w] ∧ n ≤ 100 ∧ ∀ p H', Same H H' → H p = none → H' p = some (.lst ((needsL n c w).map V.int)) → Q (.ref p) H'
theorem ok_lawneeds (T : Bt mg) {f : Addr} {fd : FuncData} {k : Nat} (D : Df K mg "_law_needs" s_law_needs ["_law_width", "_law_spot", "_law_hope"] f fd) : Kn P w K mg base (k + 1) "_law_needs" s_law_needs ["_law_width", "_law_spot", "_law_hope"] spLawNeeds f fd := by
  refine ⟨D, D.F.ok sc_law_needs (fun vs H Q E h => ?_) (fun cdv A outer s H vs Q E hr h => ?_)⟩
  · obtain ⟨n, c, w', rfl, _⟩ := h
    rfl
  obtain ⟨n, c, w', rfl, hn, q⟩ := h
  refine ⟨_, (pss_one (ps_ret (pe_lc (own := [("_law_at", 3)]) (by rfl) sc_law_needs.nd (pi_range1 (by rfl) T.range (pa_cons (pv 0) pa_nil)) (blkOk_by (own := [("_law_at", 3)]) (N := ["_law_width", "_law_spot", "_law_hope", "_law_at"]) (sc := defScope s_law_needs) (by decide +kernel)) (fun _ _ _ _ _ => (pg_name (i := 3) sc_law_needs.nd rfl (.inl rfl))) (fun _ _ _ _ _ => (pts_one (pt_cmpR (op_ltTK (K := K) rfl hr.units0) (pe_tup (pa_cons (pe_callB call_abs (by rfl) T.abs (by decide +kernel) (pa_cons (pe_op op_sub (pv 3) (pv 2)) pa_nil)) (pa_cons (pv 3) pa_nil))) (pe_tup (pa_cons (pe_callB call_abs (by rfl) T.abs (by decide +kernel) (pa_cons (pe_op op_sub (pv 1) (pv 2)) pa_nil)) (pa_cons (pv 1) pa_nil))) (nomark _)))) (fun _ _ _ _ _ => (pv 3))))), ?_⟩
  refine ⟨_, rfl, (n : Int), rfl, by omega, by omega, fun D' hD => ?_⟩
  have en : ((n : Int)).toNat = n := Int.toNat_natCast n
  rw [en]
  refine lc_range (lo := 0) (n := n) (fun i H2 => Same H H2 ∧ H2 D' = some (.lst ((needsL i c w').map V.int))) ⟨same_upd hD, upd_same⟩ (fun i H2 hi hP => ?_) (fun H2 hP => q D' H2 hP.1 hD hP.2)
  obtain ⟨s2, e2⟩ := hP
  have ez : (0 : Int) + (i : Int) = (i : Int) := Int.zero_add _
  rw [ez]
  refine ⟨rfl, _, rfl, _, rfl, _, _, rfl, rfl, _, rfl, _, rfl, (by show 2 ≤ sizeLine; decide), fun p hp => ?_⟩
  have h1 : Same H2 (upd H2 p (.tup [.int (dist (i : Int) w'), .int (i : Int)])) := same_upd hp
  refine ⟨_, rfl, _, rfl, _, _, rfl, rfl, _, rfl, _, rfl, (by show 2 ≤ sizeLine; decide), fun p2 hp2 => ?_⟩
  have h2 : Same (upd H2 p (.tup [.int (dist (i : Int) w'), .int (i : Int)])) (upd (upd H2 p (.tup [.int (dist (i : Int) w'), .int (i : Int)])) p2 (.tup [.int (dist c w'), .int c])) := same_upd hp2
  refine ⟨p, p2, [dist (i : Int) w', (i : Int)], [dist c w', c], rfl, rfl, sqT (h2 _ _ upd_same), sqT upd_same, _, rfl, ?_⟩
  have hsz : ((needsL i c w').map V.int).length < sizeLine := by
    rw [List.length_map]
    exact small1000 (Nat.le_trans (needsL_len i c w') (by omega))
  refine ite2 (fun hb => ?_) (fun hb => ?_)
  · refine ⟨_, rfl, _, h2 _ _ (h1 _ _ e2), hsz, Same.mut ((s2.trans h1).trans h2) hD, ?_⟩
    rw [upd_same, needsL_succ, if_pos (show near w' c (i : Int) = true from hb), List.map_append]
    rfl
  · refine ⟨(s2.trans h1).trans h2, ?_⟩
    rw [needsL_succ, if_neg (show ¬ near w' c (i : Int) = true from hb), List.append_nil]
    exact h2 _ _ (h1 _ _ e2)

/-! ### _law_equal, of two values that are the same data -/
def spEqual (K : PySem.W.Frag) (n : Nat) : Sp := fun vs H Q _ => ∃ (x y : V) (d : PyData), vs = [x, y] ∧ Dp K H x d ∧ Dp K H y d ∧ depthD d + 1 ≤ n ∧ wideD d ≤ 500 ∧ ∀ H', Same H H' → Q (.bl true) H'
theorem all_rep (n : Nat) : (List.replicate n true).all id = true := by simp
theorem ok_equal1 (T : Bt mg) {f : Addr} {fd : FuncData} {n : Nat} (D : Df K mg "_law_equal" s_law_equal ["_law_found", "_law_due"] f fd) (G : FnOk P w K mg base CX0 n f fd ["_law_found", "_law_due"] (spEqual K n)) : FnOk P w K mg base CX0 (n + 1) f fd ["_law_found", "_law_due"] (spEqual K (n + 1)) := by
  have k_law_equal : Kn P w K mg base n "_law_equal" s_law_equal ["_law_found", "_law_due"] (spEqual K n) f fd := ⟨D, G⟩
  refine D.F.ok sc_law_equal (fun vs H Q E h => ?_) (fun cdv A outer s H vs Q E hr h => ?_)
  · obtain ⟨x, y, d, rfl, _⟩ := h
    rfl
  obtain ⟨x, y, d, rfl, hx, hy, hd, hw, q⟩ := h
  refine ⟨_, (pss_cons (ps_if (pt_val (pe_callB (call_isiTK (K := K) rfl) (by rfl) T.isinstance (by decide +kernel) (pa_cons (pv 1) (pa_cons (pe_tup (pa_cons (pe_bltn (v := .ty "list") (by rfl) T.list (by decide +kernel) rfl) (pa_cons (pe_bltn (v := .ty "tuple") (by rfl) T.tuple (by decide +kernel) rfl) pa_nil))) pa_nil)))) (pss_cons (ps_if (PW.pt (pw_or (pt_cmpR op_ne (pe_callB (call_isiKK (K := K) rfl) (by rfl) T.isinstance (by decide +kernel) (pa_cons (pv 0) (pa_cons (pe_bltn (v := .ty "list") (by rfl) T.list (by decide +kernel) rfl) pa_nil))) (pe_callB (call_isiKK (K := K) rfl) (by rfl) T.isinstance (by decide +kernel) (pa_cons (pv 1) (pa_cons (pe_bltn (v := .ty "list") (by rfl) T.list (by decide +kernel) rfl) pa_nil))) (nomark _)) (pw_or1 (pt_cmpR op_ne (pe_callB (call_isiKK (K := K) rfl) (by rfl) T.isinstance (by decide +kernel) (pa_cons (pv 0) (pa_cons (pe_bltn (v := .ty "tuple") (by rfl) T.tuple (by decide +kernel) rfl) pa_nil))) (pe_callB (call_isiKK (K := K) rfl) (by rfl) T.isinstance (by decide +kernel) (pa_cons (pv 1) (pa_cons (pe_bltn (v := .ty "tuple") (by rfl) T.tuple (by decide +kernel) rfl) pa_nil))) (nomark _))))) (pss_one (ps_ret pe_bl)) pss_nil)
      (pss_one (ps_ret (pe_and (pe_cmpR op_eq (pe_callB (call_lenK (K := K) rfl) (by rfl) T.len (by decide +kernel) (pa_cons (pv 0) pa_nil)) (pe_callB (call_lenK (K := K) rfl) (by rfl) T.len (by decide +kernel) (pa_cons (pv 1) pa_nil)) (nomark _)) (pe_one (pe_callB (cr_allK (K := K) rfl rfl) (by rfl) T.all (by decide +kernel) (pa_cons (pe_lc (own := [("_law_lone", 2), ("_law_mate", 3)]) (by rfl) sc_law_equal.nd (RZ.pi_zipA (by rfl) T.zip (pa_cons (pv 0) (pa_cons (pv 1) pa_nil))) (blkOk_by (own := [("_law_lone", 2), ("_law_mate", 3)]) (N := ["_law_found", "_law_due", "_law_lone", "_law_mate"]) (sc := defScope s_law_equal) (by decide +kernel)) (fun _ _ _ _ _ => (pg_tupK (K := K) (n := 2) rfl rfl (pgs_cons (pg_name (i := 2) sc_law_equal.nd rfl (.inl rfl)) (pgs_cons (pg_name (i := 3) sc_law_equal.nd rfl (.inl rfl)) pgs_nil)))) (fun _ _ _ _ _ => pts_nil) (fun _ _ _ _ _ => (pe_call k_law_equal.G (hr.mono (by omega)) (by rfl) k_law_equal.D.g k_law_equal.D.F.kp k_law_equal.D.b .nil pass0 (pa_cons (pv 2) (pa_cons (pv 3) pa_nil))))) pa_nil))))))) pss_nil)
      (pss_cons (ps_if (PW.pt (pw_or (pt_cmpR op_isN (pv 1) pe_non (nomark _)) (pw_or1 (pt_val (pe_callB (call_isiKK (K := K) rfl) (by rfl) T.isinstance (by decide +kernel) (pa_cons (pv 1) (pa_cons (pe_bltn (v := .ty "str") (by rfl) T.str (by decide +kernel) rfl) pa_nil))))))) (pss_one (ps_ret (pe_and (pe_cmpR op_eq (pv 0) (pv 1) (nomark _)) (pe_one (pe_cmpR op_eq (pe_callB (call_isiKK (K := K) rfl) (by rfl) T.isinstance (by decide +kernel) (pa_cons (pv 0) (pa_cons (pe_bltn (v := .ty "str") (by rfl) T.str (by decide +kernel) rfl) pa_nil))) (pe_callB (call_isiKK (K := K) rfl) (by rfl) T.isinstance (by decide +kernel) (pa_cons (pv 1) (pa_cons (pe_bltn (v := .ty "str") (by rfl) T.str (by decide +kernel) rfl) pa_nil))) (nomark _)))))) pss_nil)
      (pss_one (ps_ret (pe_and (pe_callB (call_isiKK (K := K) rfl) (by rfl) T.isinstance (by decide +kernel) (pa_cons (pv 0) (pa_cons (pe_bltn (v := .ty "int") (by rfl) T.int (by decide +kernel) rfl) pa_nil))) (pe_and (pe_cmpR op_eq (pe_callB (call_isiKK (K := K) rfl) (by rfl) T.isinstance (by decide +kernel) (pa_cons (pv 0) (pa_cons (pe_bltn (v := .ty "bool") (by rfl) T.bool (by decide +kernel) rfl) pa_nil))) (pe_callB (call_isiKK (K := K) rfl) (by rfl) T.isinstance (by decide +kernel) (pa_cons (pv 1) (pa_cons (pe_bltn (v := .ty "bool") (by rfl) T.bool (by decide +kernel) rfl) pa_nil))) (nomark _)) (pe_one (pe_cmpR op_eq (pv 0) (pv 1) (nomark _))))))))), ?_⟩
  have sb : ∀ {tp : Addr}, H tp = none → Same H (upd H tp (.tup [.ty "list", .ty "tuple"])) := fun h => same_upd h
  have cs2 : Paired ClsV [.ty "list", .ty "tuple"] [.type "list", .type "tuple"] := .cons (.ty _) (.cons (.ty _) .nil)
  cases hx with
  | non =>
    cases hy
    refine ⟨_, rfl, (by show 2 ≤ sizeLine; decide), fun tp htp => ⟨_, tp, _, _, _, _, rfl, upd_same, cs2, .base .non, kit_n (kit_ty (by decide +kernel)) (kit_n (kit_ty (by decide +kernel)) kitAny_nil), _, rfl, iteF ?_⟩⟩
    refine ⟨_, rfl, rfl, _, rfl, iteT ?_⟩
    refine iteT ?_
    refine ⟨_, rfl, _, rfl, rfl, true, rfl, ?_⟩
    refine iteT ?_
    refine ⟨_, rfl, _, _, _, _, _, rfl, .ty _, .base .non, kit_ty (r := false) (by decide +kernel), _, rfl, _, _, _, _, _, rfl, .ty _, .base .non, kit_ty (r := false) (by decide +kernel), rfl, ?_⟩
    exact q _ (sb htp)
  | bl b =>
    cases hy
    refine ⟨_, rfl, (by show 2 ≤ sizeLine; decide), fun tp htp => ⟨_, tp, _, _, _, _, rfl, upd_same, cs2, .base (.bl _), kit_n (kit_ty (by decide +kernel)) (kit_n (kit_ty (by decide +kernel)) kitAny_nil), _, rfl, iteF ?_⟩⟩
    refine ⟨_, rfl, rfl, _, rfl, ?_⟩
    refine iteF ?_
    refine ⟨_, rfl, _, _, _, _, _, rfl, .ty _, .base (.bl _), kit_ty (r := false) (by decide +kernel), _, rfl, iteF ?_⟩
    refine ⟨_, rfl, _, _, _, _, _, rfl, .ty _, .base (.bl _), kit_ty (r := true) (by decide +kernel), _, rfl, iteT ?_⟩
    refine ⟨_, rfl, _, _, _, _, _, rfl, .ty _, .base (.bl _), kit_ty (r := true) (by decide +kernel), _, rfl, _, _, _, _, _, rfl, .ty _, .base (.bl _), kit_ty (r := true) (by decide +kernel), rfl, true, rfl, iteT ?_⟩
    refine ⟨_, rfl, _, rfl, rfl, ?_⟩
    exact dec_t rfl (Q := fun b => Q (.bl b) _) (q _ (sb htp))
  | int i =>
    cases hy
    refine ⟨_, rfl, (by show 2 ≤ sizeLine; decide), fun tp htp => ⟨_, tp, _, _, _, _, rfl, upd_same, cs2, .base (.int _), kit_n (kit_ty (by decide +kernel)) (kit_n (kit_ty (by decide +kernel)) kitAny_nil), _, rfl, iteF ?_⟩⟩
    refine ⟨_, rfl, rfl, _, rfl, ?_⟩
    refine iteF ?_
    refine ⟨_, rfl, _, _, _, _, _, rfl, .ty _, .base (.int _), kit_ty (r := false) (by decide +kernel), _, rfl, iteF ?_⟩
    refine ⟨_, rfl, _, _, _, _, _, rfl, .ty _, .base (.int _), kit_ty (r := true) (by decide +kernel), _, rfl, iteT ?_⟩
    refine ⟨_, rfl, _, _, _, _, _, rfl, .ty _, .base (.int _), kit_ty (r := false) (by decide +kernel), _, rfl, _, _, _, _, _, rfl, .ty _, .base (.int _), kit_ty (r := false) (by decide +kernel), rfl, true, rfl, iteT ?_⟩
    refine ⟨_, rfl, _, rfl, rfl, ?_⟩
    exact dec_t rfl (Q := fun b => Q (.bl b) _) (q _ (sb htp))
  | str z =>
    cases hy
    refine ⟨_, rfl, (by show 2 ≤ sizeLine; decide), fun tp htp => ⟨_, tp, _, _, _, _, rfl, upd_same, cs2, .base (.str _), kit_n (kit_ty (by decide +kernel)) (kit_n (kit_ty (by decide +kernel)) kitAny_nil), _, rfl, iteF ?_⟩⟩
    refine ⟨_, rfl, rfl, _, rfl, ?_⟩
    refine iteF ?_
    refine ⟨_, rfl, _, _, _, _, _, rfl, .ty _, .base (.str _), kit_ty (r := true) (by decide +kernel), _, rfl, iteT ?_⟩
    refine ⟨_, rfl, _, rfl, rfl, true, dec_t (Q := fun b => V.bl b = V.bl true) rfl rfl, ?_⟩
    refine iteT ?_
    refine ⟨_, rfl, _, _, _, _, _, rfl, .ty _, .base (.str _), kit_ty (r := true) (by decide +kernel), _, rfl, _, _, _, _, _, rfl, .ty _, .base (.str _), kit_ty (r := true) (by decide +kernel), rfl, ?_⟩
    exact q _ (sb htp)
  | @lst a xs ds hS hA =>
    cases hy with
    | @lst b ys _ hS2 hA2 =>
    refine ⟨_, rfl, (by show 2 ≤ sizeLine; decide), fun tp htp => ⟨_, tp, _, _, _, _, rfl, upd_same, cs2, tyL ((sb htp).seq hS2), kit_y (kit_ty (by decide +kernel)), _, rfl, iteT ?_⟩⟩
    have hS' := (sb htp).seq hS
    have hS2' := (sb htp).seq hS2
    refine ⟨_, rfl, _, _, _, _, _, rfl, .ty _, tyL hS', kit_ty (r := true) (by decide +kernel), _, rfl, _, _, _, _, _, rfl, .ty _, tyL hS2', kit_ty (r := true) (by decide +kernel), rfl, false, rfl, iteF ?_⟩
    refine ⟨_, rfl, _, _, _, _, _, rfl, .ty _, tyL hS', kit_ty (r := false) (by decide +kernel), _, rfl, _, _, _, _, _, rfl, .ty _, tyL hS2', kit_ty (r := false) (by decide +kernel), rfl, false, rfl, iteF ?_⟩
    have l1 := dpAll_len hA
    have l2 := dpAll_len hA2
    have wl : ds.length ≤ 500 := Nat.le_trans (Nat.le_trans (Nat.le_max_left _ _) (by unfold wideD at hw; exact hw)) (Nat.le_refl _)
    have ww : wideL ds ≤ 500 := Nat.le_trans (Nat.le_trans (Nat.le_max_right _ _) (by unfold wideD at hw; exact hw)) (Nat.le_refl _)
    refine ⟨_, rfl, a, _, rfl, .inl hS', _, rfl, b, _, rfl, .inl hS2', rfl, true, dec_t (Q := fun b => V.bl b = V.bl true) (by rw [l1, l2]) rfl, iteT ?_⟩
    refine ⟨_, rfl, _, rfl, a, b, xs, ys, rfl, .inl ⟨hS', hS2', fun L hL => ?_⟩⟩
    refine lc_zipL (by rw [l1, l2]) (fun i H2 => Same (upd H tp (.tup [.ty "list", .ty "tuple"])) H2 ∧ H2 L = some (.lst ((List.replicate i true).map V.bl))) ⟨same_upd hL, upd_same⟩ (fun i H2 hP => ⟨hP.1.seq hS', hP.1.seq hS2'⟩) (fun i x y T' H2 gx gy hP hT => ?_) (fun H2 hP => ?_)
    · obtain ⟨s2, e2⟩ := hP
      have h1 : Same H2 (upd H2 T' (.tup [x, y])) := same_upd hT
      refine ⟨T', [x, y], rfl, sqT upd_same, rfl, x, [y], rfl, y, [], rfl, rfl, rfl, ?_⟩
      obtain ⟨d1, g1, p1⟩ := dpAll_get hA gx
      obtain ⟨d2, g2, p2⟩ := dpAll_get hA2 gy
      rw [g1] at g2
      cases g2
      have hdd := depthL_get g1
      have hww := wideL_get g1
      have hd' : depthL ds + 1 + 1 ≤ n + 1 := by unfold depthD at hd; exact hd
      refine ⟨_, rfl, _, rfl, x, y, d1, rfl, dp_same (((sb htp).trans s2).trans h1) p1, dp_same (((sb htp).trans s2).trans h1) p2, by omega, by omega, fun H3 h3 => ?_⟩
      have hi : i < xs.length := (List.getElem?_eq_some_iff.mp gx).1
      refine ⟨_, h3 _ _ (h1 _ _ e2), ?_, Same.mut ((s2.trans h1).trans h3) hL, ?_⟩
      · rw [List.length_map, List.length_replicate]
        exact small1000 (by omega)
      · rw [upd_same, List.replicate_succ', List.map_append]
        rfl
    · obtain ⟨s2, e2⟩ := hP
      refine ⟨L, _, rfl, sqL e2, ?_⟩
      rw [all_rep]
      exact q _ ((sb htp).trans s2)
  | @tup a xs ds hS hA =>
    cases hy with
    | @tup b ys _ hS2 hA2 =>
    refine ⟨_, rfl, (by show 2 ≤ sizeLine; decide), fun tp htp => ⟨_, tp, _, _, _, _, rfl, upd_same, cs2, tyT (Same.tup (sb htp) hS2), kit_n (kit_ty (by decide +kernel)) (kit_y (kit_ty (by decide +kernel))), _, rfl, iteT ?_⟩⟩
    have hS' := Same.tup (sb htp) hS
    have hS2' := Same.tup (sb htp) hS2
    refine ⟨_, rfl, _, _, _, _, _, rfl, .ty _, tyT hS', kit_ty (r := false) (by decide +kernel), _, rfl, _, _, _, _, _, rfl, .ty _, tyT hS2', kit_ty (r := false) (by decide +kernel), rfl, false, rfl, iteF ?_⟩
    refine ⟨_, rfl, _, _, _, _, _, rfl, .ty _, tyT hS', kit_ty (r := true) (by decide +kernel), _, rfl, _, _, _, _, _, rfl, .ty _, tyT hS2', kit_ty (r := true) (by decide +kernel), rfl, false, rfl, iteF ?_⟩
    have l1 := dpAll_len hA
    have l2 := dpAll_len hA2
    have wl : ds.length ≤ 500 := Nat.le_trans (Nat.le_trans (Nat.le_max_left _ _) (by unfold wideD at hw; exact hw)) (Nat.le_refl _)
    have ww : wideL ds ≤ 500 := Nat.le_trans (Nat.le_trans (Nat.le_max_right _ _) (by unfold wideD at hw; exact hw)) (Nat.le_refl _)
    refine ⟨_, rfl, a, _, rfl, .inr hS', _, rfl, b, _, rfl, .inr hS2', rfl, true, dec_t (Q := fun b => V.bl b = V.bl true) (by rw [l1, l2]) rfl, iteT ?_⟩
    refine ⟨_, rfl, _, rfl, a, b, xs, ys, rfl, .inr ⟨hS', hS2', fun L hL => ?_⟩⟩
    refine lc_zipT (by rw [l1, l2]) (fun i H2 => Same (upd H tp (.tup [.ty "list", .ty "tuple"])) H2 ∧ H2 L = some (.lst ((List.replicate i true).map V.bl))) ⟨same_upd hL, upd_same⟩ (fun i H2 hP => ⟨Same.tup hP.1 hS', Same.tup hP.1 hS2'⟩) (fun i x y T' H2 gx gy hP hT => ?_) (fun H2 hP => ?_)
    · obtain ⟨s2, e2⟩ := hP
      have h1 : Same H2 (upd H2 T' (.tup [x, y])) := same_upd hT
      refine ⟨T', [x, y], rfl, sqT upd_same, rfl, x, [y], rfl, y, [], rfl, rfl, rfl, ?_⟩
      obtain ⟨d1, g1, p1⟩ := dpAll_get hA gx
      obtain ⟨d2, g2, p2⟩ := dpAll_get hA2 gy
      rw [g1] at g2
      cases g2
      have hdd := depthL_get g1
      have hww := wideL_get g1
      have hd' : depthL ds + 1 + 1 ≤ n + 1 := by unfold depthD at hd; exact hd
      refine ⟨_, rfl, _, rfl, x, y, d1, rfl, dp_same (((sb htp).trans s2).trans h1) p1, dp_same (((sb htp).trans s2).trans h1) p2, by omega, by omega, fun H3 h3 => ?_⟩
      have hi : i < xs.length := (List.getElem?_eq_some_iff.mp gx).1
      refine ⟨_, h3 _ _ (h1 _ _ e2), ?_, Same.mut ((s2.trans h1).trans h3) hL, ?_⟩
      · rw [List.length_map, List.length_replicate]
        exact small1000 (by omega)
      · rw [upd_same, List.replicate_succ', List.map_append]
        rfl
    · obtain ⟨s2, e2⟩ := hP
      refine ⟨L, _, rfl, sqL e2, ?_⟩
      rw [all_rep]
      exact q _ ((sb htp).trans s2)
theorem ok_equal (T : Bt mg) {f : Addr} {fd : FuncData} (D : Df K mg "_law_equal" s_law_equal ["_law_found", "_law_due"] f fd) : ∀ n : Nat, FnOk P w K mg base CX0 n f fd ["_law_found", "_law_due"] (spEqual K n)
  | 0 => by
    have no : ∀ vs H Q E, ¬ spEqual K 0 vs H Q E := fun vs H Q E h => by
      obtain ⟨x, y, d, _, _, _, h1, _⟩ := h
      omega
    exact ⟨fun vs H Q E h => absurd h (no vs H Q E), fun A outer s H args us vs Q E _ _ _ _ h => absurd h (no vs H Q E)⟩
  | n + 1 => ok_equal1 T D (ok_equal T D n)


/-! ### _law_holds -/
def spHolds : Sp := fun vs H Q _ => ∃ (s : Addr), vs = [.ref s] ∧ Src H s 1000 ∧ ∀ H', Stay s H H' → Q (.bl true) H'
theorem ok_holds (T : Bt mg) {f f1 f2 f3 f4 : Addr} {fd fd1 fd2 fd3 fd4 : FuncData} (D : Df K mg "_law_holds" s_law_holds ["_law_source_here"] f fd)
    (k_needs : Kn P w K mg base 2 "needs" s_needs ["size", "cell", "wish"] spNeeds f1 fd1) (k_law_draw : Kn P w K mg base 1 "_law_draw" s_law_draw ["_law_source_here", "_law_bound"] spDraw f2 fd2)
    (k_law_equal : Kn P w K mg base 3 "_law_equal" s_law_equal ["_law_found", "_law_due"] (spEqual K 3) f3 fd3) (k_law_needs : Kn P w K mg base 1 "_law_needs" s_law_needs ["_law_width", "_law_spot", "_law_hope"] spLawNeeds f4 fd4) : Kn P w K mg base 4 "_law_holds" s_law_holds ["_law_source_here"] spHolds f fd := by
  refine ⟨D, D.F.ok sc_law_holds (fun vs H Q E h => ?_) (fun cdv A outer s H vs Q E hr h => ?_)⟩
  · obtain ⟨s', rfl, _⟩ := h
    rfl
  obtain ⟨s', rfl, hsrc, q⟩ := h
  refine ⟨_, (pss_cons (ps_set (i := 1) sc_law_holds.nd rfl (.inl rfl) (pe_op op_add pe_int (pe_call k_law_draw.G (hr.mono (by omega)) (by rfl) k_law_draw.D.g k_law_draw.D.F.kp k_law_draw.D.b .nil pass0 (pa_cons (pv 0) (pa_cons pe_int pa_nil)))))
      (pss_cons (ps_for PassesOwn.never rfl (pi_range1 (by rfl) T.range (pa_cons (pv 1) pa_nil)) (pg_name (i := 2) sc_law_holds.nd rfl (.inl rfl)) (pss_one (ps_for PassesOwn.never rfl (pi_range1 (by rfl) T.range (pa_cons (pv 1) pa_nil)) (pg_name (i := 3) sc_law_holds.nd rfl (.inl rfl)) (pss_cons (ps_set (i := 4) sc_law_holds.nd rfl (.inl rfl) (pe_callTy (call_tupleK (K := K) rfl) (by rfl) T.tuple (by decide +kernel) (pa_cons (pe_call k_law_needs.G (hr.mono (by omega)) (by rfl) k_law_needs.D.g k_law_needs.D.F.kp k_law_needs.D.b .nil pass0 (pa_cons (pv 1) (pa_cons (pv 2) (pa_cons (pv 3) pa_nil)))) pa_nil)))
      (pss_cons (ps_if (pt_not (pt_val (pe_call k_law_equal.G (hr.mono (by omega)) (by rfl) k_law_equal.D.g k_law_equal.D.F.kp k_law_equal.D.b .nil pass0 (pa_cons (pe_lst (pa_cons (pe_call k_needs.G (hr.mono (by omega)) (by rfl) k_needs.D.g k_needs.D.F.kp k_needs.D.b .nil pass0 (pa_cons (pv 1) (pa_cons (pv 2) (pa_cons (pv 3) pa_nil)))) (pa_cons (pe_callN0 k_needs.G (hr.mono (by omega)) (by rfl) k_needs.D.g k_needs.D.F.kp (kb_needs_wish_cell_size k_needs.D.F) pass0 (pk_cons (pv 3) (pk_cons (pv 2) (pk_cons (pv 1) pk_nil)))) pa_nil))) (pa_cons (pe_lst (pa_cons (pv 4) (pa_cons (pv 4) pa_nil))) pa_nil))))) (pss_one (ps_ret pe_bl)) pss_nil)
      (pss_one (ps_if (PW.pt (pw_and (pt_cmpR (op_neDK (K := K) rfl hr.units) (pv 4) (pe_tup pa_nil) (nomark _)) (pw_and (pt_cmpR op_ne (pe_op op_add (pe_ix (ix_tupK (K := K) rfl) (pv 4) (pe_un un_neg pe_int) (fun _ _ => rfl)) pe_int) (pv 2) (nomark _)) (pw_and1 (pt_cmpR op_ne (pe_op op_sub (pe_ix (ix_tupK (K := K) rfl) (pv 4) pe_int (fun _ _ => rfl)) pe_int) (pv 2) (nomark _)))))) (pss_one (ps_ret pe_bl)) pss_nil)))))))
      (pss_cons (ps_set (i := 5) sc_law_holds.nd rfl (.inl rfl) (pe_lst (pa_cons (pe_call k_needs.G (hr.mono (by omega)) (by rfl) k_needs.D.g k_needs.D.F.kp k_needs.D.b .nil pass0 (pa_cons pe_int (pa_cons pe_int (pa_cons pe_int pa_nil)))) (pa_cons (pe_call k_needs.G (hr.mono (by omega)) (by rfl) k_needs.D.g k_needs.D.F.kp k_needs.D.b .nil pass0 (pa_cons pe_int (pa_cons pe_int (pa_cons pe_int pa_nil)))) (pa_cons (pe_call k_needs.G (hr.mono (by omega)) (by rfl) k_needs.D.g k_needs.D.F.kp k_needs.D.b .nil pass0 (pa_cons pe_int (pa_cons pe_int (pa_cons pe_int pa_nil)))) (pa_cons (pe_call k_needs.G (hr.mono (by omega)) (by rfl) k_needs.D.g k_needs.D.F.kp k_needs.D.b .nil pass0 (pa_cons pe_int (pa_cons pe_int (pa_cons pe_int pa_nil)))) (pa_cons (pe_call k_needs.G (hr.mono (by omega)) (by rfl) k_needs.D.g k_needs.D.F.kp k_needs.D.b .nil pass0 (pa_cons pe_int (pa_cons pe_int (pa_cons pe_int pa_nil)))) (pa_cons (pe_call k_needs.G (hr.mono (by omega)) (by rfl) k_needs.D.g k_needs.D.F.kp k_needs.D.b .nil pass0 (pa_cons pe_int (pa_cons pe_int (pa_cons pe_int pa_nil)))) pa_nil))))))))
      (pss_one (ps_ret (pe_call k_law_equal.G (hr.mono (by omega)) (by rfl) k_law_equal.D.g k_law_equal.D.F.kp k_law_equal.D.b .nil pass0 (pa_cons (pv 5) (pa_cons (pe_lst (pa_cons (pe_tup (pa_cons pe_int (pa_cons pe_int pa_nil))) (pa_cons (pe_tup (pa_cons pe_int pa_nil)) (pa_cons (pe_tup pa_nil) (pa_cons (pe_tup (pa_cons pe_int (pa_cons pe_int (pa_cons pe_int (pa_cons pe_int pa_nil))))) (pa_cons (pe_tup (pa_cons pe_int (pa_cons pe_int pa_nil))) (pa_cons (pe_tup pa_nil) pa_nil))))))) pa_nil)))))))), ?_⟩
  -- the width
  refine ⟨_, rfl, s', 12, 999, rfl, by decide, by decide, hsrc, fun r o r0 r1 hO => ?_⟩
  obtain ⟨n, hn⟩ : ∃ n : Nat, 1 + r = (n : Int) := ⟨(1 + r).toNat, by omega⟩
  refine ⟨_, _, rfl, rfl, ?_⟩
  dsimp only
  rw [hn]
  have n1 : 1 ≤ n := by omega
  have n12 : n ≤ 12 := by omega
  have st0 : Stay s' H (upd H s' o) := stay_upd
  generalize upd H s' o = H1 at st0
  -- the loops
  refine ⟨_, rfl, (n : Int), rfl, by omega, by omega, ?_⟩
  have en : ((n : Int)).toNat = n := Int.toNat_natCast n
  rw [en]
  refine for_range (lo := 0) (n := n) (fun i σ H' => ∃ y2 y3 y4, σ = [some (.ref s'), some (.int (n : Int)), y2, y3, y4, none] ∧ Same H1 H') ⟨_, _, _, rfl, Same.refl _⟩ (fun i σ H2 hi hP => ?_) (fun σ H2 hP => ?_)
  · obtain ⟨y2, y3, y4, rfl, s2⟩ := hP
    refine ⟨_, rfl, (n : Int), rfl, by omega, by omega, ?_⟩
    rw [en]
    refine for_range (lo := 0) (n := n) (fun j σ H' => ∃ y3 y4, σ = [some (.ref s'), some (.int (n : Int)), some (.int (0 + (i : Int))), y3, y4, none] ∧ Same H1 H') ⟨_, _, rfl, s2⟩ (fun j σ H3 hj hP => ?_) (fun σ H3 hP => ?_)
    · obtain ⟨y3, y4, rfl, s3⟩ := hP
      have ez : (0 : Int) + (i : Int) = (i : Int) := Int.zero_add _
      have ej : (0 : Int) + (j : Int) = (j : Int) := Int.zero_add _
      rw [ez, ej]
      -- due
      refine ⟨_, rfl, _, rfl, _, rfl, n, (i : Int), (j : Int), rfl, by omega, fun p H4 s4 np ep => ?_⟩
      refine ⟨p, _, rfl, .inl ⟨sqL ep, fun due hdue => ?_⟩⟩
      have s5 : Same H4 (upd H4 due (.tup ((needsL n (i : Int) (j : Int)).map V.int))) := same_upd hdue
      have e5 : (upd H4 due (.tup ((needsL n (i : Int) (j : Int)).map V.int))) due = some (.tup ((needsL n (i : Int) (j : Int)).map V.int)) := upd_same
      generalize upd H4 due (.tup ((needsL n (i : Int) (j : Int)).map V.int)) = H5 at s5 e5
      -- the two calls of needs
      refine ⟨_, rfl, _, rfl, _, rfl, n, (i : Int), (j : Int), rfl, by omega, fun p1 H6 s6 np1 ep1 => ?_⟩
      refine ⟨_, rfl, _, rfl, _, rfl, rfl, n, (i : Int), (j : Int), rfl, by omega, fun p2 H7 s7 np2 ep2 => ?_⟩
      refine ⟨(by show 2 ≤ sizeLine; decide), fun l1 hl1 => ?_⟩
      have s8 : Same H7 (upd H7 l1 (.lst [.ref p1, .ref p2])) := same_upd hl1
      have e8 : (upd H7 l1 (.lst [.ref p1, .ref p2])) l1 = some (.lst [.ref p1, .ref p2]) := upd_same
      generalize upd H7 l1 (.lst [.ref p1, .ref p2]) = H8 at s8 e8
      refine ⟨_, rfl, _, rfl, (by show 2 ≤ sizeLine; decide), fun l2 hl2 => ?_⟩
      have s9 : Same H8 (upd H8 l2 (.lst [.ref due, .ref due])) := same_upd hl2
      have e9 : (upd H8 l2 (.lst [.ref due, .ref due])) l2 = some (.lst [.ref due, .ref due]) := upd_same
      generalize upd H8 l2 (.lst [.ref due, .ref due]) = H9 at s9 e9
      have edue : H9 due = some (.tup ((needsL n (i : Int) (j : Int)).map V.int)) := s9 _ _ (s8 _ _ (s7 _ _ (s6 _ _ e5)))
      have hlen := needsL_len n (i : Int) (j : Int)
      refine ⟨.ref l1, .ref l2, .list [dT (needsL n (i : Int) (j : Int)), dT (needsL n (i : Int) (j : Int))], rfl,
        .lst (sqL (s9 _ _ e8)) (.cons (dp_T (sqT (s9 _ _ (s8 _ _ (s7 _ _ ep1))))) (.cons (dp_T (sqT (s9 _ _ (s8 _ _ ep2)))) .nil)),
        .lst (sqL e9) (.cons (dp_T (sqT edue)) (.cons (dp_T (sqT edue)) .nil)), ?_, ?_, fun H10 s10 => ?_⟩
      · rw [depth_list, depthL_cons, depthL_cons, depthL_nil, depth_T]
        decide
      · rw [wide_list, wideL_cons, wideL_cons, wideL_nil, wide_T]
        show max 2 _ ≤ 500
        omega
      · refine ⟨_, rfl, iteF ?_⟩
        have edue2 := s10 _ _ edue
        have sAll : Same H1 H10 := (((((s3.trans s4).trans s5).trans s6).trans s7).trans s8).trans (s9.trans s10)
        -- due != () and ..
        refine ⟨_, rfl, (by show 0 ≤ sizeLine; decide), fun e0 he0 => ?_⟩
        have s11 : Same H10 (upd H10 e0 (.tup [])) := same_upd he0
        have e11 : (upd H10 e0 (.tup [])) e0 = some (.tup []) := upd_same
        generalize upd H10 e0 (.tup []) = H11 at s11 e11
        have edue3 := s11 _ _ edue2
        have hE := edge n12 hi hj
        unfold edgeB at hE
        refine ⟨_, dT [], dp_T (sqT edue3), dp_T (sqT e11), sh_T _, sh_T _, _, rfl, ?_⟩
        cases hl : needsL n (i : Int) (j : Int) with
        | nil => exact ⟨_, _, rfl, sAll.trans s11⟩
        | cons x r =>
          rw [hl] at hE edue3
          refine ⟨_, rfl, _, rfl, due, _, _, _, rfl, rfl, sqT edue3, atI_neg1 x r, _, _, rfl, rfl, _, rfl, rfl, _, rfl, ?_⟩
          refine ite2 (fun c1 => ?_) (fun c1 => ⟨_, _, rfl, sAll.trans s11⟩)
          refine ⟨_, rfl, due, _, _, _, rfl, rfl, sqT edue3, atI_nat (j := 0) rfl, _, _, rfl, rfl, _, rfl, rfl, _, rfl, ?_⟩
          refine ite2 (fun c2 => ?_) (fun c2 => ⟨_, _, rfl, sAll.trans s11⟩)
          exfalso
          simp only [Bool.or_eq_true, decide_eq_true_eq] at hE
          rcases hE with hE | hE
          · exact nd_int hE c1
          · exact nd_int hE c2
    · obtain ⟨y3, y4, rfl, s3⟩ := hP
      exact ⟨_, _, _, rfl, s3⟩
  · obtain ⟨y2, y3, y4, rfl, s2⟩ := hP
    have v1 : needsL 5 3 2 = [1, 2] := by decide +kernel
    have v2 : needsL 5 1 2 = [2] := by decide +kernel
    have v3 : needsL 5 2 2 = [] := by decide +kernel
    have v4 : needsL 5 4 1 = [0, 1, 2, 3] := by decide +kernel
    have v5 : needsL 3 0 2 = [1, 2] := by decide +kernel
    have v6 : needsL 1 0 0 = [] := by decide +kernel
    refine ⟨5, 3, 2, rfl, by decide, fun p1 H3 s3 n3 e3 => ?_⟩
    refine ⟨5, 1, 2, rfl, by decide, fun p2 H4 s4 n4 e4 => ?_⟩
    refine ⟨5, 2, 2, rfl, by decide, fun p3 H5 s5 n5 e5 => ?_⟩
    refine ⟨5, 4, 1, rfl, by decide, fun p4 H6 s6 n6 e6 => ?_⟩
    refine ⟨3, 0, 2, rfl, by decide, fun p5 H7 s7 n7 e7 => ?_⟩
    refine ⟨1, 0, 0, rfl, by decide, fun p6 H8 s8 n8 e8 => ?_⟩
    rw [v1] at e3
    rw [v2] at e4
    rw [v3] at e5
    rw [v4] at e6
    rw [v5] at e7
    rw [v6] at e8
    refine ⟨(by show 6 ≤ sizeLine; decide), fun l hl => ?_⟩
    have t1 := fun {xs} => @same_upd H8 l xs hl
    refine ⟨_, rfl, (by show 2 ≤ sizeLine; decide), fun q1 hq1 => ⟨(by show 1 ≤ sizeLine; decide), fun q2 hq2 => ⟨(by show 0 ≤ sizeLine; decide), fun q3 hq3 => ⟨(by show 4 ≤ sizeLine; decide), fun q4 hq4 => ⟨(by show 2 ≤ sizeLine; decide), fun q5 hq5 => ⟨(by show 0 ≤ sizeLine; decide), fun q6 hq6 => ⟨(by show 6 ≤ sizeLine; decide), fun l2 hl2 => ?_⟩⟩⟩⟩⟩⟩⟩
    have w1 := @same_upd _ _ (.tup [.int 1, .int 2]) hq1
    have w2 := @same_upd _ _ (.tup [.int 2]) hq2
    have w3 := @same_upd _ _ (.tup []) hq3
    have w4 := @same_upd _ _ (.tup [.int 0, .int 1, .int 2, .int 3]) hq4
    have w5 := @same_upd _ _ (.tup [.int 1, .int 2]) hq5
    have w6 := @same_upd _ _ (.tup []) hq6
    have w7 := @same_upd _ _ (.lst [.ref q1, .ref q2, .ref q3, .ref q4, .ref q5, .ref q6]) hl2
    have t1 := @same_upd _ _ (.lst [.ref p1, .ref p2, .ref p3, .ref p4, .ref p5, .ref p6]) hl
    have b7 := w7
    have b6 := w6.trans b7
    have b5 := w5.trans b6
    have b4 := w4.trans b5
    have b3 := w3.trans b4
    have b2 := w2.trans b3
    have b1 := w1.trans b2
    have a8 := t1.trans b1
    have a7 := s8.trans a8
    have a6 := s7.trans a7
    have a5 := s6.trans a6
    have a4 := s5.trans a5
    have a3 := s4.trans a4
    refine ⟨.ref l, .ref l2, .list [dT [1, 2], dT [2], dT [], dT [0, 1, 2, 3], dT [1, 2], dT []], rfl,
      .lst (sqL (b1 _ _ upd_same)) (.cons (dp_T (sqT (a3 _ _ e3))) (.cons (dp_T (sqT (a4 _ _ e4))) (.cons (dp_T (sqT (a5 _ _ e5))) (.cons (dp_T (sqT (a6 _ _ e6))) (.cons (dp_T (sqT (a7 _ _ e7))) (.cons (dp_T (sqT (a8 _ _ e8))) .nil)))))),
      .lst (sqL upd_same) (.cons (dp_T (ns := [1, 2]) (sqT (b2 _ _ upd_same))) (.cons (dp_T (ns := [2]) (sqT (b3 _ _ upd_same))) (.cons (dp_T (ns := []) (sqT (b4 _ _ upd_same))) (.cons (dp_T (ns := [0, 1, 2, 3]) (sqT (b5 _ _ upd_same))) (.cons (dp_T (ns := [1, 2]) (sqT (b6 _ _ upd_same))) (.cons (dp_T (ns := []) (sqT (b7 _ _ upd_same))) .nil)))))),
      by decide +kernel, by decide +kernel, fun H9 s9 => ?_⟩
    exact q _ (st0.trans (Stay.of ((s2.trans (s3.trans a3)).trans s9)))

/-! ### law -/
def lawLevel : Nat := 5
def spLaw (K : PySem.W.Frag) : Sp := fun vs H Q _ => ∃ (a : Addr) (ns : List Int), vs = [.ref a] ∧ SqL K H a (ns.map V.int) ∧ ns.length ≤ 63 ∧ ∀ H', Q (.bl true) H'
theorem lawStart {Kw : Params → PySem.W.Frag} (w : World) (H : Hp) (a : Addr) (ns : List Int) (hl : ns.length ≤ 63) (_ : L2.Only H) (hS : SqL (Kw w.params) H a (ns.map V.int)) : spLaw (Kw w.params) [.ref a] H (fun v _ => v = .bl true) (fun _ _ _ => False) := ⟨a, ns, rfl, hS, hl, fun _ => rfl⟩
theorem ok_law (T : Bt mg) {f f1 f2 : Addr} {fd fd1 fd2 : FuncData} (D : Df K mg "law" s_law ["_law_script"] f fd)
    (k_law_source : Kn P w K mg base 1 "_law_source" s_law_source ["_law_script", "_law_index"] (spSource K) f1 fd1) (k_law_holds : Kn P w K mg base 4 "_law_holds" s_law_holds ["_law_source_here"] spHolds f2 fd2) : FnOk P w K mg base CX0 lawLevel f fd ["_law_script"] (spLaw K) := by
  refine D.F.ok sc_law (fun vs H Q E h => ?_) (fun cdv A outer s H vs Q E hr h => ?_)
  · obtain ⟨a, ns, rfl, _⟩ := h
    rfl
  obtain ⟨a, ns, rfl, hS, h63, q⟩ := h
  refine ⟨_, (pss_one (ps_ret (pe_callB (cr_allK (K := K) rfl rfl) (by rfl) T.all (by decide +kernel) (pa_cons (pe_lc (own := [("_law_index", 1)]) (by rfl) sc_law.nd (pi_range1 (by rfl) T.range (pa_cons (pe_callB (call_max2 rfl) (by rfl) T.max (by decide +kernel) (pa_cons pe_int (pa_cons (pe_callB (call_min2 rfl) (by rfl) T.min (by decide +kernel) (pa_cons pe_int (pa_cons (pe_callB (call_lenK (K := K) rfl) (by rfl) T.len (by decide +kernel) (pa_cons (pv 0) pa_nil)) pa_nil))) pa_nil))) pa_nil)) (blkOk_by (own := [("_law_index", 1)]) (N := ["_law_script", "_law_index"]) (sc := defScope s_law) (by decide +kernel)) (fun _ _ _ _ _ => (pg_name (i := 1) sc_law.nd rfl (.inl rfl))) (fun _ _ _ _ _ => pts_nil) (fun _ _ _ _ _ => (pe_call k_law_holds.G (hr.mono (by omega)) (by rfl) k_law_holds.D.g k_law_holds.D.F.kp k_law_holds.D.b .nil pass0 (pa_cons (pe_call k_law_source.G (hr.mono (by omega)) (by rfl) k_law_source.D.g k_law_source.D.F.kp k_law_source.D.b .nil pass0 (pa_cons (pv 0) (pa_cons (pv 1) pa_nil))) pa_nil)))) pa_nil)))), ?_⟩
  refine ⟨_, rfl, a, _, rfl, .inl hS, _, _, rfl, _, _, rfl, ?_⟩
  rw [List.length_map]
  obtain ⟨m, hm, hm2⟩ : ∃ m : Nat, (if (if (ns.length : Int) < 2 then (ns.length : Int) else 2) > 1 then (if (ns.length : Int) < 2 then (ns.length : Int) else 2) else 1) = (m : Int) ∧ m ≤ 2 := by
    refine ⟨(if (if (ns.length : Int) < 2 then (ns.length : Int) else 2) > 1 then (if (ns.length : Int) < 2 then (ns.length : Int) else 2) else 1).toNat, ?_, ?_⟩
    · split <;> (split <;> omega)
    · split <;> (split <;> omega)
  rw [hm]
  refine ⟨(m : Int), rfl, by omega, by omega, fun L hL => ?_⟩
  have en : ((m : Int)).toNat = m := Int.toNat_natCast m
  rw [en]
  refine lc_range (lo := 0) (n := m) (fun i H2 => Same H H2 ∧ H2 L = some (.lst ((List.replicate i true).map V.bl))) ⟨same_upd hL, upd_same⟩ (fun i H2 hi hP => ?_) (fun H2 hP => ?_)
  · obtain ⟨s2, e2⟩ := hP
    have ez : (0 : Int) + (i : Int) = (i : Int) := Int.zero_add _
    rw [ez]
    refine ⟨rfl, ?_⟩
    refine ⟨_, rfl, _, rfl, a, ns, i, rfl, s2.seq hS, h63, by omega, fun p o hp hO => ?_⟩
    refine ⟨p, rfl, ⟨o, upd_same, hO.mono (by decide)⟩, fun H3 s3 => ?_⟩
    have s4 : Same H2 H3 := same_stay hp s3
    refine ⟨_, s4 _ _ e2, ?_, Same.mut (s2.trans s4) hL, ?_⟩
    · rw [List.length_map, List.length_replicate]
      exact small1000 (by omega)
    · rw [upd_same, List.replicate_succ', List.map_append]
      rfl
  · obtain ⟨s2, e2⟩ := hP
    refine ⟨L, _, rfl, sqL e2, ?_⟩
    rw [all_rep]
    exact q _

theorem fin (T : Bt mg)
    {f1 : Addr} {fd1 : FuncData} (D_nearness : Df K mg "nearness" s_nearness ["cell", "wish"] f1 fd1)
    {f2 : Addr} {fd2 : FuncData} (D_needs : Df K mg "needs" s_needs ["size", "cell", "wish"] f2 fd2)
    {f4 : Addr} {fd4 : FuncData} (D_law_source : Df K mg "_law_source" s_law_source ["_law_script", "_law_index"] f4 fd4)
    {f5 : Addr} {fd5 : FuncData} (D_law_draw : Df K mg "_law_draw" s_law_draw ["_law_source_here", "_law_bound"] f5 fd5)
    {f6 : Addr} {fd6 : FuncData} (D_law_equal : Df K mg "_law_equal" s_law_equal ["_law_found", "_law_due"] f6 fd6)
    {f7 : Addr} {fd7 : FuncData} (D_law_needs : Df K mg "_law_needs" s_law_needs ["_law_width", "_law_spot", "_law_hope"] f7 fd7)
    {f8 : Addr} {fd8 : FuncData} (D_law_holds : Df K mg "_law_holds" s_law_holds ["_law_source_here"] f8 fd8)
    {f9 : Addr} {fd9 : FuncData} (D_law : Df K mg "law" s_law ["_law_script"] f9 fd9)
    : FnOk P w K mg base CX0 lawLevel f9 fd9 ["_law_script"] (spLaw K) := by
  have kn := ok_nearness (P := P) (w := w) (base := base) (k := 0) T D_nearness
  have kN := ok_needs (k := 0) T D_needs kn
  have kS := ok_source (P := P) (w := w) (base := base) (k := 0) T D_law_source
  have kD := ok_draw (P := P) (w := w) (base := base) (k := 0) T D_law_draw
  have kL := ok_lawneeds (P := P) (w := w) (base := base) (k := 0) T D_law_needs
  have kE := ok_equal (P := P) (w := w) (base := base) T D_law_equal 3
  have kH := ok_holds T D_law_holds kN kD ⟨D_law_equal, kE⟩ kL
  exact ok_law T D_law kS kH
end
theorem all_mk {l : PySem.W.OpenLaw} {w : World} {K : PySem.W.Frag} {h : Heap} {mg : Str → Option Value} {fa f1 f2 f4 f5 f6 f7 f8 f9 : Addr} (X : K.In h) (G : h.Ns mainGlobals mg) (hfa : mg "law" = some (.ref fa))
    {od1 an1 od2 an2 od4 an4 od5 an5 od6 an6 od7 an7 od8 an8 od9 an9 : Option Addr} {sl1 sl2 sl4 sl5 sl6 sl7 sl8 sl9 : Array (Option Value)} {oc1 kV1 dc1 pm1 cd1 ct1 oc2 kV2 dc2 pm2 cd2 ct2 oc4 kV4 dc4 pm4 cd4 ct4 oc5 kV5 dc5 pm5 cd5 ct5 oc6 kV6 dc6 pm6 cd6 ct6 oc7 kV7 dc7 pm7 cd7 ct7 oc8 kV8 dc8 pm8 cd8 ct8 oc9 kV9 dc9 pm9 cd9 ct9 : Value}
    (a1 : PySem.W.nsIn K mainGlobals "nearness" = some (some (.ref f1))) (l1 : K.lookup f1 = some ⟨oc1, od1, .func (PySem.W.fnOf "nearness" "nearness" (defArgs s_nearness) (defBody s_nearness) (defScope s_nearness) .none kV1 dc1 pm1 an1 cd1 ct1), sl1⟩) (c1 : PySem.W.codeIn K cd1 "nearness" = true) (k1 : PySem.W.keepIn K (.ref f1) = true)
    (a2 : PySem.W.nsIn K mainGlobals "needs" = some (some (.ref f2))) (l2 : K.lookup f2 = some ⟨oc2, od2, .func (PySem.W.fnOf "needs" "needs" (defArgs s_needs) (defBody s_needs) (defScope s_needs) .none kV2 dc2 pm2 an2 cd2 ct2), sl2⟩) (c2 : PySem.W.codeIn K cd2 "needs" = true) (k2 : PySem.W.keepIn K (.ref f2) = true)
    (a4 : PySem.W.nsIn K mainGlobals "_law_source" = some (some (.ref f4))) (l4 : K.lookup f4 = some ⟨oc4, od4, .func (PySem.W.fnOf "_law_source" "_law_source" (defArgs s_law_source) (defBody s_law_source) (defScope s_law_source) .none kV4 dc4 pm4 an4 cd4 ct4), sl4⟩) (c4 : PySem.W.codeIn K cd4 "_law_source" = true) (k4 : PySem.W.keepIn K (.ref f4) = true)
    (a5 : PySem.W.nsIn K mainGlobals "_law_draw" = some (some (.ref f5))) (l5 : K.lookup f5 = some ⟨oc5, od5, .func (PySem.W.fnOf "_law_draw" "_law_draw" (defArgs s_law_draw) (defBody s_law_draw) (defScope s_law_draw) .none kV5 dc5 pm5 an5 cd5 ct5), sl5⟩) (c5 : PySem.W.codeIn K cd5 "_law_draw" = true) (k5 : PySem.W.keepIn K (.ref f5) = true)
    (a6 : PySem.W.nsIn K mainGlobals "_law_equal" = some (some (.ref f6))) (l6 : K.lookup f6 = some ⟨oc6, od6, .func (PySem.W.fnOf "_law_equal" "_law_equal" (defArgs s_law_equal) (defBody s_law_equal) (defScope s_law_equal) .none kV6 dc6 pm6 an6 cd6 ct6), sl6⟩) (c6 : PySem.W.codeIn K cd6 "_law_equal" = true) (k6 : PySem.W.keepIn K (.ref f6) = true)
    (a7 : PySem.W.nsIn K mainGlobals "_law_needs" = some (some (.ref f7))) (l7 : K.lookup f7 = some ⟨oc7, od7, .func (PySem.W.fnOf "_law_needs" "_law_needs" (defArgs s_law_needs) (defBody s_law_needs) (defScope s_law_needs) .none kV7 dc7 pm7 an7 cd7 ct7), sl7⟩) (c7 : PySem.W.codeIn K cd7 "_law_needs" = true) (k7 : PySem.W.keepIn K (.ref f7) = true)
    (a8 : PySem.W.nsIn K mainGlobals "_law_holds" = some (some (.ref f8))) (l8 : K.lookup f8 = some ⟨oc8, od8, .func (PySem.W.fnOf "_law_holds" "_law_holds" (defArgs s_law_holds) (defBody s_law_holds) (defScope s_law_holds) .none kV8 dc8 pm8 an8 cd8 ct8), sl8⟩) (c8 : PySem.W.codeIn K cd8 "_law_holds" = true) (k8 : PySem.W.keepIn K (.ref f8) = true)
    (a9 : PySem.W.nsIn K mainGlobals "law" = some (some (.ref f9))) (l9 : K.lookup f9 = some ⟨oc9, od9, .func (PySem.W.fnOf "law" "law" (defArgs s_law) (defBody s_law) (defScope s_law) .none kV9 dc9 pm9 an9 cd9 ct9), sl9⟩) (c9 : PySem.W.codeIn K cd9 "law" = true) (k9 : PySem.W.keepIn K (.ref f9) = true)
    (z_abs : PySem.W.nsIn K mainGlobals "abs" = some none) (z_all : PySem.W.nsIn K mainGlobals "all" = some none) (z_bool : PySem.W.nsIn K mainGlobals "bool" = some none) (z_int : PySem.W.nsIn K mainGlobals "int" = some none) (z_isinstance : PySem.W.nsIn K mainGlobals "isinstance" = some none) (z_len : PySem.W.nsIn K mainGlobals "len" = some none) (z_list : PySem.W.nsIn K mainGlobals "list" = some none) (z_max : PySem.W.nsIn K mainGlobals "max" = some none) (z_min : PySem.W.nsIn K mainGlobals "min" = some none) (z_range : PySem.W.nsIn K mainGlobals "range" = some none) (z_str : PySem.W.nsIn K mainGlobals "str" = some none) (z_tuple : PySem.W.nsIn K mainGlobals "tuple" = some none) (z_zip : PySem.W.nsIn K mainGlobals "zip" = some none)
     :
    ∃ fd : FuncData, (∀ (s : Shared) (v : Value), BindsTo s fd ⟨[v], []⟩ [("_law_script", v)]) ∧ ∀ base : Heap, K.In base → base.Ns mainGlobals mg → FnOk l.prog w K mg base CX0 lawLevel fa fd ["_law_script"] (spLaw K) := by
  have e := hfa.symm.trans (PySem.W.mg_of X G a9)
  cases e
  have D1 : Df K mg "nearness" s_nearness ["cell", "wish"] _ _ := ⟨fun_mk (st := s_nearness) l1 c1 k1, (fun_mk (st := s_nearness) l1 c1 k1).binds (ps := ["cell", "wish"]) fun _ _ _ _ _ _ us hl => match us, hl with | [_, _], _ => rfl, PySem.W.mg_of X G a1⟩
  have D2 : Df K mg "needs" s_needs ["size", "cell", "wish"] _ _ := ⟨fun_mk (st := s_needs) l2 c2 k2, (fun_mk (st := s_needs) l2 c2 k2).binds (ps := ["size", "cell", "wish"]) fun _ _ _ _ _ _ us hl => match us, hl with | [_, _, _], _ => rfl, PySem.W.mg_of X G a2⟩
  have D4 : Df K mg "_law_source" s_law_source ["_law_script", "_law_index"] _ _ := ⟨fun_mk (st := s_law_source) l4 c4 k4, (fun_mk (st := s_law_source) l4 c4 k4).binds (ps := ["_law_script", "_law_index"]) fun _ _ _ _ _ _ us hl => match us, hl with | [_, _], _ => rfl, PySem.W.mg_of X G a4⟩
  have D5 : Df K mg "_law_draw" s_law_draw ["_law_source_here", "_law_bound"] _ _ := ⟨fun_mk (st := s_law_draw) l5 c5 k5, (fun_mk (st := s_law_draw) l5 c5 k5).binds (ps := ["_law_source_here", "_law_bound"]) fun _ _ _ _ _ _ us hl => match us, hl with | [_, _], _ => rfl, PySem.W.mg_of X G a5⟩
  have D6 : Df K mg "_law_equal" s_law_equal ["_law_found", "_law_due"] _ _ := ⟨fun_mk (st := s_law_equal) l6 c6 k6, (fun_mk (st := s_law_equal) l6 c6 k6).binds (ps := ["_law_found", "_law_due"]) fun _ _ _ _ _ _ us hl => match us, hl with | [_, _], _ => rfl, PySem.W.mg_of X G a6⟩
  have D7 : Df K mg "_law_needs" s_law_needs ["_law_width", "_law_spot", "_law_hope"] _ _ := ⟨fun_mk (st := s_law_needs) l7 c7 k7, (fun_mk (st := s_law_needs) l7 c7 k7).binds (ps := ["_law_width", "_law_spot", "_law_hope"]) fun _ _ _ _ _ _ us hl => match us, hl with | [_, _, _], _ => rfl, PySem.W.mg_of X G a7⟩
  have D8 : Df K mg "_law_holds" s_law_holds ["_law_source_here"] _ _ := ⟨fun_mk (st := s_law_holds) l8 c8 k8, (fun_mk (st := s_law_holds) l8 c8 k8).binds (ps := ["_law_source_here"]) fun _ _ _ _ _ _ us hl => match us, hl with | [_], _ => rfl, PySem.W.mg_of X G a8⟩
  have D9 : Df K mg "law" s_law ["_law_script"] _ _ := ⟨fun_mk (st := s_law) l9 c9 k9, (fun_mk (st := s_law) l9 c9 k9).binds (ps := ["_law_script"]) fun _ _ _ _ _ _ us hl => match us, hl with | [_], _ => rfl, PySem.W.mg_of X G a9⟩
  have T : Bt mg := ⟨PySem.W.mg_none_of X G z_abs, PySem.W.mg_none_of X G z_all, PySem.W.mg_none_of X G z_bool, PySem.W.mg_none_of X G z_int, PySem.W.mg_none_of X G z_isinstance, PySem.W.mg_none_of X G z_len, PySem.W.mg_none_of X G z_list, PySem.W.mg_none_of X G z_max, PySem.W.mg_none_of X G z_min, PySem.W.mg_none_of X G z_range, PySem.W.mg_none_of X G z_str, PySem.W.mg_none_of X G z_tuple, PySem.W.mg_none_of X G z_zip⟩
  exact ⟨PySem.W.fnOf "law" "law" (defArgs s_law) (defBody s_law) (defScope s_law) .none kV9 dc9 pm9 an9 cd9 ct9, fun s v => .of_eq rfl, fun base _ _ => fin T D1 D2 D4 D5 D6 D7 D8 D9⟩

end NS
open PySem PySem.W PyProof.Rows
set_option maxRecDepth 100000 in
set_option maxHeartbeats 0 in
theorem PySem.Challenge.cw_nearslot_k02_what_is_needed_holds : PySem.Challenge.rw_nearslot_k02_what_is_needed.Holds := by
  w_on; o_law; k_head; (case hw => w_witness2)
  k_fill
  refine L2.walk_of (l := PySem.Challenge.rw_nearslot_k02_what_is_needed) (n := 63) (k := NS.lawLevel) (x := "_law_script") (CX := fun _ => L2.CX0) (sp := fun w => NS.spLaw _) rfl (by decide) rfl ⟨rfl, by decide, by decide⟩ (fun w h Y => PySem.W.kIn_of Y) ?F NS.lawStart (fun _ _ _ _ _ h => h)
  case F =>
    intro w mg fa h KX G hmg
    refine' NS.all_mk KX G hmg ?a1 ?l1 ?c1 ?k1 ?a2 ?l2 ?c2 ?k2 ?a4 ?l4 ?c4 ?k4 ?a5 ?l5 ?c5 ?k5 ?a6 ?l6 ?c6 ?k6 ?a7 ?l7 ?c7 ?k7 ?a8 ?l8 ?c8 ?k8 ?a9 ?l9 ?c9 ?k9 ?z_abs ?z_all ?z_bool ?z_int ?z_isinstance ?z_len ?z_list ?z_max ?z_min ?z_range ?z_str ?z_tuple ?z_zip
    (case a1 => k_is); (case l1 => k_is); (case c1 => k_is); (case k1 => k_is)
    (case a2 => k_is); (case l2 => k_is); (case c2 => k_is); (case k2 => k_is)
    (case a4 => k_is); (case l4 => k_is); (case c4 => k_is); (case k4 => k_is)
    (case a5 => k_is); (case l5 => k_is); (case c5 => k_is); (case k5 => k_is)
    (case a6 => k_is); (case l6 => k_is); (case c6 => k_is); (case k6 => k_is)
    (case a7 => k_is); (case l7 => k_is); (case c7 => k_is); (case k7 => k_is)
    (case a8 => k_is); (case l8 => k_is); (case c8 => k_is); (case k8 => k_is)
    (case a9 => k_is); (case l9 => k_is); (case c9 => k_is); (case k9 => k_is)
    (case z_abs => k_is)
    (case z_all => k_is)
    (case z_bool => k_is)
    (case z_int => k_is)
    (case z_isinstance => k_is)
    (case z_len => k_is)
    (case z_list => k_is)
    (case z_max => k_is)
    (case z_min => k_is)
    (case z_range => k_is)
    (case z_str => k_is)
    (case z_tuple => k_is)
    (case z_zip => k_is)


