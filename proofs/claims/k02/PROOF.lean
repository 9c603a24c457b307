import PyProof.Rows.All
import Wide.All
import OpenK.AllK
import Wide.FinOn
import HandS.Base
import HandS.Call
import HandS.List
import HandS.Comp
import HandS.Ends
import HandS.Dict
import HandS.Iter
import HandS.Text
import HandS.Words
import HandS.Codes
import HandS.Defaults
import HandS.IsInst
import HandS.MakeKwOnly
import HandS.DictComp
import HandS.DictEq
import HandS.More
import HandS.Conv
import HandS.FStr
import HandS.Style
import KE.KDictZip
import KE.KFmtOwn
import HandS.Walk
import HandS.WordsDict
import PySem.Challenge.RW_raisekeys_k02_desks
set_option Elab.async false
set_option linter.all false
set_option maxRecDepth 100000
set_option maxHeartbeats 4000000
namespace RK
open PySem PySem.Spec PyProof.Rows L2
/-! ### heaps -/
theorem same_new {H : Hp} {p : Addr} (h : H p = none) (o : HO) : Same H (upd H p o) := fun b u q => by rw [upd_ne (ne_of_none q h)]; exact q
theorem new_ex {H : Hp} {p : Addr} (h : H p = none) (o : HO) : ∃ H', H' = upd H p o ∧ Same H H' ∧ H' p = some o := ⟨_, rfl, same_new h o, upd_same⟩
/-- all but b stands as it stood -/
def Keep (b : Addr) (H H' : Hp) : Prop := ∀ a o, a ≠ b → H a = some o → H' a = some o
theorem Keep.refl (b : Addr) (H : Hp) : Keep b H H := fun _ _ _ h => h
theorem Keep.trans {b : Addr} {H H1 H2 : Hp} (a : Keep b H H1) (c : Keep b H1 H2) : Keep b H H2 := fun x o n h => c x o n (a x o n h)
theorem Keep.of {b : Addr} {H H1 : Hp} (a : Same H H1) : Keep b H H1 := fun x o _ h => a x o h
theorem Keep.upd {b : Addr} {H H1 : Hp} {o : HO} (a : Keep b H H1) : Keep b H (upd H1 b o) := fun x u n h => by rw [upd_ne n]; exact a x u n h
theorem Keep.tup {b t : Addr} {H H1 : Hp} {xs ys : List V} (k : Keep b H H1) (hb : H b = some (.lst ys)) (h : H t = some (.tup xs)) : H1 t = some (.tup xs) := k t _ (ne_of h hb (by intro z; cases z)) h
theorem Keep.dK {b t : Addr} {H H1 : Hp} {xs : List (Key × V)} {ys : List V} (k : Keep b H H1) (hb : H b = some (.lst ys)) (h : H t = some (.dK xs)) : H1 t = some (.dK xs) := k t _ (ne_of h hb (by intro z; cases z)) h
/-- fresh behind is fresh before -/
theorem Keep.free {b l : Addr} {H H1 : Hp} (k : Keep b H H1) (n : l ≠ b) (h : H1 l = none) : H l = none := by
  cases q : H l with
  | none => rfl
  | some o =>
    rw [k l o n q] at h
    cases h
/-- a bag: the script's copy at s, how many are taken, the great number, the salt -/
structure BagC (H : Hp) (b s : Addr) (ns : List Int) (i : Nat) (big salt : Int) : Prop where
  hb : H b = some (.lst [.ref s, .int i, .int big, .int salt])
  hs : H s = some (.lst (ns.map V.int))
  ne : s ≠ b
  hi : i ≤ ns.length
  hn : ns.length ≤ 63
  h0 : 0 ≤ big
  h1 : 0 ≤ salt
  h2 : salt < 2147483647
def Bag (b s : Addr) (H : Hp) : Prop := ∃ ns i big salt, BagC H b s ns i big salt
theorem Bag.hb {b s : Addr} {H : Hp} (B : Bag b s H) : ∃ ys, H b = some (.lst ys) := by
  obtain ⟨ns, i, big, salt, B⟩ := B
  exact ⟨_, B.hb⟩
theorem Bag.hs {b s : Addr} {H : Hp} (B : Bag b s H) : ∃ ys, H s = some (.lst ys) := by
  obtain ⟨ns, i, big, salt, B⟩ := B
  exact ⟨_, B.hs⟩
theorem Bag.ne {b s : Addr} {H : Hp} (B : Bag b s H) : s ≠ b := by
  obtain ⟨ns, i, big, salt, B⟩ := B
  exact B.ne
theorem Bag.same {b s : Addr} {H H1 : Hp} (B : Bag b s H) (e : Same H H1) : Bag b s H1 := by
  obtain ⟨ns, i, big, salt, B⟩ := B
  exact ⟨ns, i, big, salt, e _ _ B.hb, e _ _ B.hs, B.ne, B.hi, B.hn, B.h0, B.h1, B.h2⟩
theorem Bag.new {b s p : Addr} {H : Hp} {o : HO} (B : Bag b s H) (h : H p = none) : Bag b s (upd H p o) := B.same (same_new h o)
theorem Bag.upd {b s p : Addr} {H : Hp} {o : HO} (B : Bag b s H) (h1 : p ≠ b) (h2 : p ≠ s) : Bag b s (upd H p o) := by
  obtain ⟨ns, i, big, salt, B⟩ := B
  exact ⟨ns, i, big, salt, by rw [upd_ne h1.symm]; exact B.hb, by rw [upd_ne h2.symm]; exact B.hs, B.ne, B.hi, B.hn, B.h0, B.h1, B.h2⟩
theorem Keep.of_tup {b s t : Addr} {H H1 : Hp} {xs : List V} (k : Keep b H H1) (B : Bag b s H) (h : H t = some (.tup xs)) : H1 t = some (.tup xs) := by
  obtain ⟨ys, hb⟩ := B.hb
  exact k.tup hb h
theorem bool_same {a b : Bool} {p : Prop} (h1 : a = true ↔ p) (h2 : b = true ↔ p) : a = b := by
  cases a <;> cases b <;> simp_all
theorem sz {n : Nat} (h : n ≤ 1000) : n ≤ sizeLine := Nat.le_of_lt (small1000 h)
theorem szl {n : Nat} (h : n ≤ 100000) : n < sizeLine := Nat.lt_of_le_of_lt h (by decide)
def spBag (K : PySem.W.Frag) : Sp := fun vs H Q _ => ∃ (a : Addr) (ns : List Int), vs = [.ref a] ∧ SqL K H a (ns.map V.int) ∧ ns.length ≤ 63 ∧ ∀ H' b s, Same H H' → H b = none → H s = none → Bag b s H' → Q (.ref b) H'
def spPull : Sp := fun vs H Q _ => ∃ (b s : Addr) (n : Int), vs = [.ref b, .int n] ∧ Bag b s H ∧ 1 ≤ n ∧ n ≤ 100000 ∧ ∀ r H', 0 ≤ r → r < n → Keep b H H' → Bag b s H' → Q (.int r) H'
theorem cut63 (ns : List Int) (h : ns.length ≤ 63) : cutV (ns.map V.int) none (some 63) = ns.map V.int := by
  unfold cutV
  rw [HT.sIx_none, show HT.sIx (ns.map V.int).length (ns.map V.int).length (some 63) = min 63 (ns.map V.int).length from HT.sIx_nat _ _ 63]
  rw [List.drop_zero, List.length_map]
  exact List.take_of_length_le (by rw [List.length_map]; omega)
theorem at0 {α : Type} {x : α} {xs : List α} : atI (x :: xs) 0 = some x := atI_nat (j := 0) rfl
theorem at1 {α : Type} {x y : α} {xs : List α} : atI (x :: y :: xs) 1 = some y := atI_nat (j := 1) rfl
theorem at2 {α : Type} {x y z : α} {xs : List α} : atI (x :: y :: z :: xs) 2 = some z := atI_nat (j := 2) rfl
theorem at3 {α : Type} {x y z w : α} {xs : List α} : atI (x :: y :: z :: w :: xs) 3 = some w := atI_nat (j := 3) rfl
/-! ### a call by keywords alone -/
section
variable {X : Cx} {CX : CXT} {k : Nat} {f : Addr} {fd : FuncData} {ps ks : List Str} {sp : Sp} {E : XK} {x : Str} {p pos : Pos} {kws : List Keyword} {tk : TA} {g : List Value → List Value → List Value} {gV : List V → List V → List V}
theorem pe_callK0 (F : FnOk X.prog X.w X.K X.mg X.base CX k f fd ps sp) (hr : Room k X.A) (hg : Gl X x) (hm : X.mg x = some (.ref f)) (hk : PySem.W.keepIn X.K (.ref f) = true) (hb : KBinds X.K fd ps ks g gV) (hx : Passes CX X E) (hkw : PK X kws tk)
    (hall : (backToKw pos (keywordEach kws X.env)).all (·.1.isSome) = true := by rfl) (hks : (backToKw pos (keywordEach kws X.env)).filterMap (·.1) = ks := by rfl) (hdb : (x == ("__debug__" : Str)) = false := by decide)
    (hpl : ((backTo pos (starEach [] X.env)).any (·.1) || (backToKw pos (keywordEach kws X.env)).any (·.1.isNone)) = false := by rfl) :
    PE X (.Call (.Name x p) [] kws pos) (tCallK sp gV E tNil tk) := by
  refine ⟨fun pins s σ H Q I h => ?_⟩
  refine wpAny_Call_Name_kw (ld_glob I hg hm ?_ hdb)
  refine PySem.W.callWith_KW0 (h₀ := X.base) I.ok.mod.kin hk hall ?_ hpl
  refine thn (hkw.run pos pins s σ H _ I h) fun ws s2 ⟨zs, H2, I2, rz, q2⟩ => ⟨I2.kIn, ?_⟩
  rw [hks]
  exact run_fnk F hr hb hx I2 .nil rz q2
end
/-! ### len, list(..) by name -/
def rLenQ (K : PySem.W.Frag) : List V → Hp → VK → Prop := fun xs H Q => ∃ p ys, xs = [.ref p] ∧ (SqL K H p ys ∨ SqT K H p ys) ∧ Q (.int ys.length) H
theorem call_lenQ {X : Cx} : CallR X (.builtin "len") (rLenQ X.K) := call_len_seq
def rListQ (K : PySem.W.Frag) : List V → Hp → VK → Prop := fun xs H Q => ∃ p ys, xs = [.ref p] ∧ (SqL K H p ys ∨ SqT K H p ys) ∧ ∀ l, H l = none → Q (.ref l) (upd H l (.lst ys))
theorem call_listQ {X : Cx} : CallR X (.type "list") (rListQ X.K) := call_list_of
/-! ### data -/
section
variable {K : PySem.W.Frag} {H H' : Hp}
theorem same_tup {a : Addr} {xs : List V} (e : Same H H') (h : SqT K H a xs) : SqT K H' a xs := by
  rcases h with (h | ⟨o, h⟩) | h
  · exact .inl (.inl (e _ _ h))
  · exact .inl (.inr ⟨o, e _ _ h⟩)
  · exact .inr h
mutual
theorem dp_same (e : Same H H') : ∀ {v : V} {d : PyData}, Dp K H v d → Dp K H' v d
  | _, _, .non => .non
  | _, _, .bl b => .bl b
  | _, _, .int i => .int i
  | _, _, .str x => .str x
  | _, _, .lst h a => .lst (e.seq h) (dpAll_same e a)
  | _, _, .tup h a => .tup (same_tup e h) (dpAll_same e a)
theorem dpAll_same (e : Same H H') : ∀ {vs : List V} {ds : List PyData}, DpAll K H vs ds → DpAll K H' vs ds
  | _, _, .nil => .nil
  | _, _, .cons h a => .cons (dp_same e h) (dpAll_same e a)
end
theorem dpAll_len : ∀ {vs : List V} {ds : List PyData}, DpAll K H vs ds → vs.length = ds.length
  | _, _, .nil => rfl
  | _, _, .cons _ a => congrArg Nat.succ (dpAll_len a)
theorem dpAll_at : ∀ {vs : List V} {ds : List PyData} {i : Nat} {d : PyData}, DpAll K H vs ds → ds[i]? = some d → ∃ v, vs[i]? = some v ∧ Dp K H v d
  | _, _, _, _, .nil, h => by simp at h
  | _, _, 0, _, .cons (v := v) q _, h => by
    have e := Option.some.inj h
    exact ⟨v, rfl, e ▸ q⟩
  | _, _, i + 1, _, .cons _ a, h => dpAll_at (i := i) a h
def leafD : PyData → Bool
  | .none => true | .bool _ => true | .int _ => true | .str _ => true | _ => false
def okD : Nat → PyData → Bool
  | 0, d => leafD d
  | n + 1, .list ds => decide (ds.length ≤ 1000) && ds.all (okD n)
  | n + 1, .tuple ds => decide (ds.length ≤ 1000) && ds.all (okD n)
  | _ + 1, d => leafD d
def tyN : PyData → String
  | .none => "NoneType" | .bool _ => "bool" | .int _ => "int" | .str _ => "str" | .list _ => "list" | .tuple _ => "tuple" | .dict _ => "dict"
def isT : PyData → Bool
  | .tuple _ => true | _ => false
def isL : PyData → Bool
  | .list _ => true | _ => false
def isB : PyData → Bool
  | .bool _ => true | _ => false
theorem ty_of {v : V} {d : PyData} (h : Dp K H v d) : TyX K H v (.type (tyN d)) := by
  cases h with
  | non => exact .base .non
  | bl b => exact .base (.bl b)
  | int i => exact .base (.int i)
  | str x => exact .base (.str x)
  | lst h _ =>
    rcases h with (h | ⟨o, h⟩) | ⟨o, its, n, l, c, _⟩
    · exact .base (.lst h)
    · exact .base (.frz h)
    · exact .kList l c
  | tup h _ =>
    rcases h with (h | ⟨o, h⟩) | ⟨o, its, n, l, c, _⟩
    · exact .base (.tup h)
    · exact .fTuple h
    · exact .kTuple l c
theorem ty_tup {a : Addr} {xs : List V} (h : SqT K H a xs) : TyX K H (.ref a) (.type "tuple") := by
  rcases h with (h | ⟨o, h⟩) | ⟨o, its, n, l, c, _⟩
  · exact .base (.tup h)
  · exact .fTuple h
  · exact .kTuple l c
theorem kT : ∀ d : PyData, PySem.W.kitOne K (.type (tyN d)) (.type "tuple") = some (isT d)
  | .none => kit_ty (by decide +kernel : kitB "NoneType" "tuple" = some false)
  | .bool _ => kit_ty (by decide +kernel : kitB "bool" "tuple" = some false)
  | .int _ => kit_ty (by decide +kernel : kitB "int" "tuple" = some false)
  | .str _ => kit_ty (by decide +kernel : kitB "str" "tuple" = some false)
  | .list _ => kit_ty (by decide +kernel : kitB "list" "tuple" = some false)
  | .tuple _ => kit_ty (by decide +kernel : kitB "tuple" "tuple" = some true)
  | .dict _ => kit_ty (by decide +kernel : kitB "dict" "tuple" = some false)
theorem kL : ∀ d : PyData, PySem.W.kitOne K (.type (tyN d)) (.type "list") = some (isL d)
  | .none => kit_ty (by decide +kernel : kitB "NoneType" "list" = some false)
  | .bool _ => kit_ty (by decide +kernel : kitB "bool" "list" = some false)
  | .int _ => kit_ty (by decide +kernel : kitB "int" "list" = some false)
  | .str _ => kit_ty (by decide +kernel : kitB "str" "list" = some false)
  | .list _ => kit_ty (by decide +kernel : kitB "list" "list" = some true)
  | .tuple _ => kit_ty (by decide +kernel : kitB "tuple" "list" = some false)
  | .dict _ => kit_ty (by decide +kernel : kitB "dict" "list" = some false)
theorem kB : ∀ d : PyData, PySem.W.kitOne K (.type (tyN d)) (.type "bool") = some (isB d)
  | .none => kit_ty (by decide +kernel : kitB "NoneType" "bool" = some false)
  | .bool _ => kit_ty (by decide +kernel : kitB "bool" "bool" = some true)
  | .int _ => kit_ty (by decide +kernel : kitB "int" "bool" = some false)
  | .str _ => kit_ty (by decide +kernel : kitB "str" "bool" = some false)
  | .list _ => kit_ty (by decide +kernel : kitB "list" "bool" = some false)
  | .tuple _ => kit_ty (by decide +kernel : kitB "tuple" "bool" = some false)
  | .dict _ => kit_ty (by decide +kernel : kitB "dict" "bool" = some false)
theorem kTL (d : PyData) : PySem.W.kitAny K (.type (tyN d)) [.type "tuple", .type "list"] = some (isT d || isL d) := by
  refine kitAny_cons (kT d) (fun e => ?_) (fun e => by rw [e]; rfl)
  refine kitAny_cons (kL d) (fun e2 => ?_) (fun e2 => by rw [e, e2]; rfl)
  rw [e, e2]
  exact kitAny_nil
end
def spLike (K : PySem.W.Frag) (n : Nat) : Sp := fun vs H Q _ => ∃ (x y : V) (d : PyData), vs = [x, y] ∧ Dp K H x d ∧ Dp K H y d ∧ okD n d = true ∧ ∀ H', Same H H' → Q (.bl true) H'
/-! ### rectangles -/
structure R where
  l : Int
  t : Int
  r : Int
  b : Int
def R.vs (p : R) : List V := [.int p.l, .int p.t, .int p.r, .int p.b]
def R.ds (p : R) : List PyData := [.int p.l, .int p.t, .int p.r, .int p.b]
def R.good (p : R) : Prop := -1000000000 ≤ p.l ∧ p.l ≤ 1000000000 ∧ -1000000000 ≤ p.t ∧ p.t ≤ 1000000000 ∧ -1000000000 ≤ p.r ∧ p.r ≤ 1000000000 ∧ -1000000000 ≤ p.b ∧ p.b ≤ 1000000000 ∧ p.l < p.r ∧ p.t < p.b
def R.has (p : R) (x y : Int) : Prop := p.l ≤ x ∧ x < p.r ∧ p.t ≤ y ∧ y < p.b
theorem R.dp {K : PySem.W.Frag} {H : Hp} (p : R) : DpAll K H p.vs p.ds := .cons (.int _) (.cons (.int _) (.cons (.int _) (.cons (.int _) .nil)))
def spRect : Sp := fun vs H Q _ => ∃ (b s : Addr) (c : Int), vs = [.ref b, .int c] ∧ Bag b s H ∧ 1 ≤ c ∧ c ≤ 100000000 ∧
  ∀ (x y x2 y2 : Int) H' p, Keep b H H' → Bag b s H' → H p = none → H' p = some (.tup (R.vs ⟨c * x, c * y, c * x2, c * y2⟩)) → -4 ≤ x → x ≤ 4 → -4 ≤ y → y ≤ 4 → x < x2 → x2 ≤ x + 4 → y < y2 → y2 ≤ y + 4 → Q (.ref p) H'
end RK
namespace RK
open PySem PySem.Spec PyProof.Rows L2
section
variable {X : Cx}
/-! ### a special method of an own class, called by the machine at A -/
theorem run_special {CX : CXT} {n : Nat} {f : Addr} {fd : FuncData} {ps : List Str} {sp : Sp} {E : XK} {A : Around} {pins : List (Addr × Obj)} {σ : L2.St} {H : Hp} {s : Shared} {us : List Value} {vs : List V} {Q : VK}
    (F : FnOk X.prog X.w X.K X.mg X.base CX n f fd ps sp) (hr : Room n A) (hf : A.frames = X.A.frames) (hb : Binds X.K fd ps []) (hx : Passes CX X E) (I : Inv X pins σ H s) (r : Vals vs us) (h : sp vs H Q E) :
    wpAny (model X.prog X.w) A (call (.ref f) us) (EP X pins σ Q) X.xe s := by
  have e0 : Env0 X.prog X.w X.K X.mg X.base A X.stack s H := by
    have e := I.env0
    exact ⟨by rw [hf]; exact e.frames, e.mod, e.bs, e.bsz, e.funs, e.frf, e.hok, e.bare⟩
  have hl := F.len _ _ _ _ h
  refine wpAny_call (codeAny_mono (F.run A X.stack s H ⟨us, []⟩ us vs Q E hr e0 (by
    have := hb s us I.kIn (by rw [List.append_nil, ← r.length]; exact hl)
    simpa using this) r h) fun r s' hq => ?_)
  cases r with
  | error e => exact hx pins σ H s e s' I hq
  | ok fl =>
    cases fl with
    | ret w => exact I.after hq
    | next => exact False.elim hq
    | brk => exact False.elim hq
    | cont => exact False.elim hq
/-- what is asked of y's type that an own == of C is tried first -/
inductive NotSub (K : PySem.W.Frag) (C : Addr) (H : Hp) : V → Prop
  | ins {a dx : Addr} {fs : List (Str × V)} : H a = some (.ins C dx fs) → NotSub K C H (.ref a)
  | dK {a : Addr} {kvs : List (Key × V)} : H a = some (.dK kvs) → PySem.W.subIn K (.type "dict") (.ref C) = some false → NotSub K C H (.ref a)
  | lst {a : Addr} {xs : List V} : H a = some (.lst xs) → PySem.W.subIn K (.type "list") (.ref C) = some false → NotSub K C H (.ref a)
theorem notSub_of {pins : List (Addr × Obj)} {σ : L2.St} {H : Hp} {s : Shared} {C : Addr} {y : V} {v : Value} (I : Inv X pins σ H s) (ry : RelV y v) (h : NotSub X.K C H y) :
    ∃ tb, PySem.W.Looks (model X.prog X.w) s.heap (typeOf v) tb ∧ PySem.W.notFirst X.K C tb = true := by
  cases h with
  | @ins a dx fs ha =>
    cases ry
    obtain ⟨mA, J, _⟩ := ins_get I.hok ha
    obtain ⟨od, J, _⟩ := J.look
    exact ⟨.ref C, J.type, by simp [PySem.W.notFirst]⟩
  | @dK a kvs ha hs =>
    cases ry
    obtain ⟨_, _, vs, _, o, es, ep, h1, h2, _⟩ := (show ObjOk X.prog X.w H s.heap a (.dK kvs) from I.hok a _ ha)
    refine ⟨.type "dict", ?_, by simp [PySem.W.notFirst, hs]⟩
    exact h2.1 ▸ (PySem.W.Looks.ld h1).andThen .now
  | @lst a xs ha hs =>
    cases ry
    obtain ⟨_, its, n, _, h1⟩ := (show ObjOk X.prog X.w H s.heap a (.lst xs) from I.hok a _ ha)
    refine ⟨.type "list", ?_, by simp [PySem.W.notFirst, hs]⟩
    exact (PySem.W.Looks.ld h1).andThen .now
/-- x == y by the own __eq__ of x's class -/
def rEqOwn (C : Addr) (sp : Sp) (K : PySem.W.Frag) (E : XK) : R2 := fun x y H Q => ∃ (a dx : Addr) (fs : List (Str × V)), x = .ref a ∧ H a = some (.ins C dx fs) ∧ NotSub K C H y ∧ sp [x, y] H (fun v H' => ∃ b, v = .bl b ∧ Q (.bl b) H') E
theorem op_eqOwn {CX : CXT} {n : Nat} {C f : Addr} {fd : FuncData} {ps : List Str} {sp : Sp} {E : XK} (F : FnOk X.prog X.w X.K X.mg X.base CX n f fd ps sp) (hr : Room n X.A)
    (hs : PySem.W.findIn X.K (.ref C) "__eq__" = some (some (.ref f))) (hf : PySem.W.isFn X.K (.ref f) = true) (hb : Binds X.K fd ps []) (hx : Passes CX X E) : OpR X (compareOp .Eq) (rEqOwn C sp X.K E) := by
  intro pins s σ H x y u v Q I rx ry h
  obtain ⟨a, dx, fs, rfl, ha, hn, h⟩ := h
  obtain ⟨tb, L, nf⟩ := notSub_of I ry hn
  cases rx
  obtain ⟨mA, J, _⟩ := ins_get I.hok ha
  obtain ⟨od, J, _⟩ := J.look
  obtain ⟨m, hF⟩ := I.fr
  show wpAny (model X.prog X.w) X.A (richCompare .Eq (.ref a) v) (EP X pins σ Q) X.xe s
  refine PySem.W.cmp_K (op := .Eq) (tb := tb) hr.units0 hF I.ok.mod.kin J L nf hs hf ?_
  refine wpAny_mono (run_special F hr rfl hb hx I (vs := [.ref a, y]) (.cons (show RelV (.ref a) (.ref a) from rfl) (.cons ry .nil)) h) (fun r s' q => ?_) fun _ _ z => z
  obtain ⟨z, H', I', rz, b, rfl, q⟩ := q
  cases rz
  exact ⟨.bl b, H', I', rfl, q⟩
/-- len(x), repr(x) by own methods -/
def rLenOwn (C : Addr) (sp : Sp) (E : XK) : List V → Hp → VK → Prop := fun vs H Q => ∃ (a dx : Addr) (fs : List (Str × V)), vs = [.ref a] ∧ H a = some (.ins C dx fs) ∧ sp [.ref a] H (fun v H' => ∃ i : Int, v = .int i ∧ 0 ≤ i ∧ i < 2 ^ 63 ∧ Q (.int i) H') E
theorem call_lenOwn {CX : CXT} {n : Nat} {C f : Addr} {fd : FuncData} {ps : List Str} {sp : Sp} {E : XK} (F : FnOk X.prog X.w X.K X.mg X.base CX n f fd ps sp) (hr : Room (n + 1) X.A)
    (hs : PySem.W.findIn X.K (.ref C) "__len__" = some (some (.ref f))) (hf : PySem.W.isFn X.K (.ref f) = true) (hb : Binds X.K fd ps []) (hx : Passes CX X E) : CallR X (.builtin "len") (rLenOwn C sp E) := by
  intro pins s σ H xs us Q I r h
  obtain ⟨a, dx, fs, rfl, ha, h⟩ := h
  obtain ⟨u, rfl, rx⟩ := vals1 r
  cases rx
  obtain ⟨mA, J, _⟩ := ins_get I.hok ha
  obtain ⟨od, J, _⟩ := J.look
  obtain ⟨m, hF⟩ := I.fr
  refine PySem.W.len_K hF I.ok.mod.kin J hs hf ?_
  refine wpAny_mono (run_special F hr.in1 rfl hb hx I (vs := [.ref a]) (.cons (show RelV (.ref a) (.ref a) from rfl) .nil) h) (fun r s' q => ?_) fun _ _ z => z
  obtain ⟨z, H', I', rz, i, rfl, h0, h1, q⟩ := q
  obtain ⟨t, rfl⟩ := rz
  exact ⟨⟨h0, h1⟩, .int i, H', I'.tok _, ⟨_, rfl⟩, q⟩
def rReprOwn (C : Addr) (sp : Sp) (E : XK) : List V → Hp → VK → Prop := fun vs H Q => ∃ (a dx : Addr) (fs : List (Str × V)), vs = [.ref a] ∧ H a = some (.ins C dx fs) ∧ sp [.ref a] H (fun v H' => ∃ z : Str, v = .str z ∧ Q (.str z) H') E
theorem call_reprOwn {CX : CXT} {n : Nat} {C f : Addr} {fd : FuncData} {ps : List Str} {sp : Sp} {E : XK} (F : FnOk X.prog X.w X.K X.mg X.base CX n f fd ps sp) (hr : Room (n + 1) X.A)
    (hs : PySem.W.findIn X.K (.ref C) "__repr__" = some (some (.ref f))) (hf : PySem.W.isFn X.K (.ref f) = true) (hb : Binds X.K fd ps []) (hx : Passes CX X E) : CallR X (.builtin "repr") (rReprOwn C sp E) := by
  intro pins s σ H xs us Q I r h
  obtain ⟨a, dx, fs, rfl, ha, h⟩ := h
  obtain ⟨u, rfl, rx⟩ := vals1 r
  cases rx
  obtain ⟨mA, J, _⟩ := ins_get I.hok ha
  obtain ⟨od, J, _⟩ := J.look
  obtain ⟨m, hF⟩ := I.fr
  refine PySem.W.repr_K hr.in1.units0 hF I.ok.mod.kin J hs hf ?_
  refine wpAny_mono (run_special F hr.in1 rfl hb hx I (vs := [.ref a]) (.cons (show RelV (.ref a) (.ref a) from rfl) .nil) h) (fun r s' q => ?_) fun _ _ z => z
  obtain ⟨z, H', I', rz, t, rfl, q⟩ := q
  obtain ⟨k, rfl⟩ := rz
  exact ⟨.str t, H', I', ⟨_, rfl⟩, q⟩
/-! ### == of two dicts, their values data -/
def eqvD (ds es : List (Key × PyData)) : Bool := ds.length == es.length && ds.all fun p => match (es.find? fun kv => decide (kv.1 = p.1)) with | some q => PyData.eqv p.2 q.2 | none => false
/-- the dict's values are the data ds -/
def DatD (K : PySem.W.Frag) (H : Hp) (kvs : List (Key × V)) (ds : List (Key × PyData)) : Prop := Paired (fun (p : Key × V) (q : Key × PyData) => p.1 = q.1 ∧ Dp K H p.2 q.2 ∧ SeqAt.shaped q.2 = true) kvs ds
theorem datD_find {K : PySem.W.Frag} {H : Hp} {k : Key} {P : Program} {w : World} : ∀ {kvs : List (Key × V)} {ds : List (Key × PyData)} {vs : List (Key × Value)}, DatD K H kvs ds → KV kvs vs →
    (valueAt vs k = none ∧ ds.find? (fun kv => decide (kv.1 = k)) = none) ∨ ∃ v u q, valueAt vs k = some u ∧ ds.find? (fun kv => decide (kv.1 = k)) = some q ∧ RelV v u ∧ Dp K H v q.2 ∧ SeqAt.shaped q.2 = true
  | _, _, _, .nil, .nil => .inl ⟨rfl, rfl⟩
  | _, _, _, .cons (a := p) (b := q) h t, .cons (b := r) h2 t2 => by
    obtain ⟨e1, d1, sh⟩ := h
    obtain ⟨e2, r2⟩ := h2
    obtain ⟨rk, rv⟩ := r
    have e2 : p.1 = rk := e2
    subst e2
    by_cases hk : p.1 = k
    · refine .inr ⟨p.2, rv, q, ?_, ?_, r2, d1, sh⟩
      · simp [valueAt, hk]
      · rw [List.find?_cons]
        simp [← e1, hk]
    · have hk2 : ¬ q.1 = k := fun z => hk (e1.trans z)
      rcases datD_find (k := k) (P := P) (w := w) t t2 with ⟨a1, a2⟩ | ⟨v, u, q', a1, a2, a3⟩
      · refine .inl ⟨?_, ?_⟩
        · rw [← a1]
          simp [valueAt, hk]
        · rw [List.find?_cons]
          simp [hk2, a2]
      · refine .inr ⟨v, u, q', ?_, ?_, a3⟩
        · rw [← a1]
          simp [valueAt, hk]
        · rw [List.find?_cons]
          simp [hk2, a2]
theorem hits_of {pins : List (Addr × Obj)} {σ : L2.St} {H : Hp} {s : Shared} (I : Inv X pins σ H s) {A : Around} (hu : A.units + 64 < cLine) {ls : List (Key × V)} {es : List (Key × PyData)} {vb : List (Key × Value)} (rb : KV ls vb) (de : DatD X.K H ls es) :
    ∀ {ks : List (Key × V)} {ds : List (Key × PyData)} {va : List (Key × Value)}, DatD X.K H ks ds → KV ks va →
      PySem.W.KeqHitsP X.prog X.w A s vb va (ds.all fun p => match (es.find? fun kv => decide (kv.1 = p.1)) with | some q => PyData.eqv p.2 q.2 | none => false)
  | _, _, _, .nil, .nil => .nil
  | _, _, _, .cons (a := p) (b := q) h t, .cons (b := r) h2 t2 => by
    obtain ⟨e1, d1, sh⟩ := h
    obtain ⟨e2, r2⟩ := h2
    obtain ⟨rk, rv⟩ := r
    have e2 : p.1 = rk := e2
    subst e2
    have ih := hits_of I hu rb de t t2
    rcases datD_find (k := p.1) (P := X.prog) (w := X.w) de rb with ⟨a1, a2⟩ | ⟨v, u, q', a1, a2, a3, a4, a5⟩
    · rw [List.all_cons, ← e1, a2]
      exact .miss a1
    · rw [List.all_cons, ← e1, a2]
      refine .hit a1 ?_ ih
      obtain ⟨as, r1⟩ := Dp.reads I q.2 p.2 rv d1 r2
      obtain ⟨bs, r2'⟩ := Dp.reads I q'.2 v u a4 a3
      exact (SeqAt.eqAt_reads q.2 q'.2 A s rv u as bs r1 r2' (SeqAt.canLay_of_shaped sh) (SeqAt.canLay_of_shaped a5) (SeqAt.room_of_shaped sh hu)).eqP
def rEqDct (K : PySem.W.Frag) : R2 := fun x y H Q => ∃ (a b : Addr) (ks ls : List (Key × V)) (ds es : List (Key × PyData)), x = .ref a ∧ y = .ref b ∧ H a = some (.dK ks) ∧ H b = some (.dK ls) ∧ DatD K H ks ds ∧ DatD K H ls es ∧ Q (.bl (eqvD ds es)) H
theorem op_eqDct (hu : X.A.units + 65 < cLine) : OpR X (compareOp .Eq) (rEqDct X.K) := by
  intro pins s σ H x y v u Q I rx ry h
  obtain ⟨a, b, ks, ls, ds, es, rfl, rfl, ha, hb, hd, he, q⟩ := h
  cases rx
  cases ry
  obtain ⟨_, ya, va, ra, da⟩ := (show ObjOk X.prog X.w H s.heap a (.dK ks) from I.hok a _ ha)
  obtain ⟨_, yb, vb, rb, db⟩ := (show ObjOk X.prog X.w H s.heap b (.dK ls) from I.hok b _ hb)
  show wpAny (model X.prog X.w) X.A (richCompare .Eq (.ref a) (.ref b)) (EP X pins σ Q) X.xe s
  refine PySem.W.rcP_dicts (knd := mixKind X.prog X.w) ya yb da db (by omega) (fun _ => hits_of I (A := X.A.in1) (by show X.A.units + 1 + 64 < cLine; omega) rb he hd ra) _ _ ?_
  have e1 : va.length = ds.length := by rw [← ra.length]; exact Paired.length hd
  have e2 : vb.length = es.length := by rw [← rb.length]; exact Paired.length he
  rw [e1, e2]
  exact ⟨.bl _, H, I, rfl, q⟩
/-! ### dict(zip(xs, ys)) -/
def tDictZip (K : PySem.W.Frag) (ta : TA) : TE := fun σ H Q => ta σ H fun vs H1 => ∃ (a b : Addr) (ks : List Key) (ys : List V), vs = [.ref a, .ref b] ∧ SqL K H1 a (ks.map kV) ∧ SqL K H1 b ys ∧ ks.length = ys.length ∧ ∀ p, H1 p = none → Q (.ref p) (upd H1 p (.dK (mergeK [] (ks.zip ys))))
theorem kv_zip : ∀ {ks : List Key} {ys : List V} {us ws : List Value}, Vals (ks.map kV) us → Vals ys ws → KV (ks.zip ys) (ks.zip ws)
  | [], _, _, _, _, _ => by
    rw [List.zip_nil_left, List.zip_nil_left]
    exact .nil
  | k :: ks, [], _, _, _, r2 => by
    cases r2
    exact .nil
  | k :: ks, y :: ys, _, _, r1, r2 => by
    cases r1 with
    | cons _ r1 =>
      cases r2 with
      | cons h r2 => exact .cons ⟨rfl, h⟩ (kv_zip r1 r2)
theorem vals_at {k : Key} {P : Program} {w : World} : ∀ {ks : List Key} {us : List Value} {i : Nat} {u : Value}, Vals (ks.map kV) us → us[i]? = some u → ∃ k, ks[i]? = some k ∧ (mixKind P w).is k u = true
  | [], _, _, _, r, h => by
    cases r
    simp at h
  | k :: ks, _, 0, _, r, h => by
    cases r with
    | cons h1 _ =>
      have e := Option.some.inj h
      subst e
      exact ⟨k, rfl, kV_is h1⟩
  | k' :: ks, _, i + 1, _, r, h => by
    cases r with
    | cons _ r => exact vals_at (k := k) (i := i) r h
theorem pe_dictZip {e e2 : Expr} {ta : TA} {p p2 pos pos2 : Pos} (hc : X.calm = true) (hg : Gl X "dict") (hm : X.mg "dict" = none) (hg2 : Gl X "zip") (hm2 : X.mg "zip" = none) (ha : PA X [e, e2] ta)
    (hs : starEach [e, e2] X.env = (false, eval e X.env) :: starEach [e2] X.env := by rfl) (hpl : (backTo pos2 (starEach [e2] X.env)).any (·.1) = false := by rfl)
    (hs2 : starEach [.Call (.Name "zip" p2) [e, e2] [] pos2] X.env = (false, eval (.Call (.Name "zip" p2) [e, e2] [] pos2) X.env) :: starEach [] X.env := by rfl) :
    PE X (.Call (.Name "dict" p) [.Call (.Name "zip" p2) [e, e2] [] pos2] [] pos) (tDictZip X.K ta) := by
  refine ⟨fun pins s σ H Q I h => ?_⟩
  refine Call_ (ld_blt I hg hm (show bootBuiltins "dict" = some (.type "dict") by decide +kernel) (PyProof.Rows.callWith_type1 (args_cons (Call_ (ld_blt I hg2 hm2 PyProof.Rows.boot_zip (PyProof.Rows.callWith_type1 (thn (ha.run pos2 pins s σ H _ I h) fun us s1 ⟨vs, H1, I1, r1, q1⟩ => ?_) hs hpl))) hs2) hs2 rfl))
  obtain ⟨a, b, ks, ys, ex, hqx, hqy, hln, q⟩ := q1
  subst ex
  cases r1 with
  | cons r rr =>
    cases rr with
    | cons r' rr =>
      cases rr
      cases r
      cases r'
      obtain ⟨its, rv, p1, z1⟩ := I1.list hqx
      obtain ⟨its2, rv2, p2', z2⟩ := I1.list hqy
      have la : a < s1.heap.objs.size := p1.lt
      have lb : b < s1.heap.objs.size := p2'.lt
      have hl1 : its.length = ks.length := by rw [← rv.length, List.length_map]
      have hl2 : its2.length = ks.length := by rw [← rv2.length, hln]
      refine call_zip_2 p1.isList p2'.isList fun h' hz hTI hTO h1 h2 hsz hk => args_nil ?_
      have I2 : Inv X pins σ H1 { s1 with heap := h' } := I1.kept (t' := s1.toks) hk
      have hmin : min its.toArray.size its2.toArray.size = ks.length := by rw [List.size_toArray, List.size_toArray, hl1, hl2, Nat.min_self]
      refine PySem.call_dict_pairs (s := { s1 with heap := h' }) (knd := mixKind X.prog X.w) (kvs := ks.zip its2) (PairArg.zip _ _ _ _ _ a b (PySem.W.ktu_apart s1.heap.objs.size a b la lb) its.toArray its2.toArray) (I1.ok.hd hc)
        ⟨hz, hTI, ⟨_, _, hTO⟩, h1, h2, p1.isList.at fun o e => hk _ o e, p2'.isList.at fun o e => hk _ o e⟩ ⟨?_, ?_⟩ ?_ ?_
      · rw [hmin, List.length_zip, hl2, Nat.min_self]
      · rintro i key v ⟨e1, e2⟩
        rw [List.getElem?_toArray] at e1 e2
        obtain ⟨k, hk1, hk2⟩ := vals_at (k := .inl 0) (P := X.prog) (w := X.w) rv e1
        exact ⟨k, by rw [List.getElem?_zip_eq_some]; exact ⟨hk1, e2⟩, hk2⟩
      · rw [hmin, ← hl1, ← rv.length]
        exact z1
      · intro h2' tk hd' hk2
        have hbig : s1.heap.objs.size ≤ h'.objs.size := by omega
        have fr : ∀ c, c ∈ [s1.heap.objs.size + 4, s1.heap.objs.size + 3, s1.heap.objs.size, s1.heap.objs.size + 1] → s1.heap.get? c = none := fun c hc' => by
          simp only [List.mem_cons, List.not_mem_nil, or_false] at hc'
          have : s1.heap.objs.size ≤ c := by rcases hc' with z | z | z | z <;> omega
          exact Heap.get?_none_of_le this
        have keep : ∀ c o, s1.heap.get? c = some o → h2'.get? c = some o := fun c o e => by
          refine hk2 c o (fun hm' => ?_) (hk _ _ e)
          rw [fr c hm'] at e
          cases e
        have hm' : (h'.objs.size == sysModules) = false := beq_eq_false_iff_ne.mpr (Nat.ne_of_gt (Nat.lt_of_lt_of_le I1.big hbig))
        have hlen : (mergeK [] (ks.zip ys)).length ≤ sizeLine := by
          refine Nat.le_trans (length_mergeK _ []) ?_
          rw [List.length_nil, Nat.zero_add, List.length_zip, ← hln, Nat.min_self, ← hl1, ← rv.length]
          exact z1
        exact ⟨.ref h'.objs.size, upd H1 h'.objs.size (.dK (mergeK [] (ks.zip ys))), I1.laid (t' := tk) keep hbig (show ObjOk X.prog X.w _ _ _ (.dK (mergeK [] (ks.zip ys))) from ⟨hlen, hm', merged [] (ks.zip its2), KV.merge (kv_zip rv rv2) .nil, hd'⟩), rfl, q _ (I1.hok.fresh hbig)⟩
end
theorem kit_me (K : PySem.W.Frag) (C : Addr) : PySem.W.kitOne K (.ref C) (.ref C) = some true := by
  unfold PySem.W.kitOne
  rw [if_pos (by simp)]
theorem kit_sub {K : PySem.W.Frag} {C : Addr} {n : String} (h1 : PySem.W.isClsIn K C = true) (h2 : PySem.W.typeIn K (.ref C) = some (.type "type")) (h3 : PySem.W.subIn K (.type n) (.ref C) = some false) : PySem.W.kitOne K (.type n) (.ref C) = some false := by
  unfold PySem.W.kitOne
  rw [if_neg (by simp)]
  show (if ((PySem.W.clsIn K C).isSome && PySem.W.typeIn K (.ref C) == some (.type "type")) = true then PySem.W.subIn K (.type n) (.ref C) else none) = some false
  have h1' : (PySem.W.clsIn K C).isSome = true := h1
  rw [h1', h2, if_pos (by simp)]
  exact h3
end RK
namespace RK
open PySem PySem.Spec PyProof.Rows L2
section
open PySem.W
variable {prog : Program} {w : World} {K : PySem.W.Frag} {A : Around} {E : Value → Shared → Prop} {s : Shared} {x C f : Addr} {ox : Obj} {od : Option Obj}
theorem ifBound_B {M : Model} {name : Str} {id : String} {args : List Value} {Q : Option Value → Shared → Prop} (X : K.In s.heap) (I : InstAt s.heap x ox C od) (hs : findIn K (.ref C) name = some (some (.builtin id)))
    (hb : ∀ self, bindSpecial (.builtin id) self = pure (.builtin id, [self])) (h : wpAny M A (call (.builtin id) (.ref x :: args)) (fun v => Q (some v)) E s) : wpAny M A (callSpecialIfBound? (.ref x) name args) Q E s := by
  simp only [callSpecialIfBound?, bindSpecialIfBound?]
  refine wpAny_holding (wpAny_bind (wpAny_bind (wpAny_bind (I.type.here ((looks_findIn X hs).here ?_)))))
  refine wpAny_bind (wpAny_askSetting (wpAny_ite ?_))
  have fin : wpAny M A (call (.builtin id) ([.ref x] ++ args) >>= fun v => pure (some v)) Q E s := wpAny_bind (wpAny_mono h (fun v s' h' => wpAny_pure h') fun _ _ h' => h')
  split
  · exact wpAny_bind ((Looks.of_pure (hb _)).here (wpAny_pure (by exact fin)))
  · exact wpAny_tryCatch (wpAny_bind ((Looks.of_pure (hb _)).here (wpAny_pure (by exact fin))))
open Builtin in
theorem obj_ne {v : Value} {Q : Value → Shared → Prop} (hu : A.in1.units < cLine) (X : K.In s.heap) (I : InstAt s.heap x ox C od) (hm : mroIn K C (.type "object") = some true) (hr : findIn K (.ref C) "__eq__" = some (some (.ref f))) (hf : isFn K (.ref f) = true)
    (h : wpAny (model prog w) A.in1 (call (.ref f) [.ref x, v]) (fun r s' => ∃ b, r = .bool b ∧ Q (.bool (!b)) s') E s) : wpAny (model prog w) A (call (.builtin "object.__ne__") [.ref x, v]) Q E s := by
  refine wpAny_call (codeAny_call_builtin (by decide +kernel) PySem.F.cmpEntry_ne (check_slot (i := "object.__ne__") (owner := "object") (n := "__ne__") PySem.F.cmpKind_ne PySem.F.cmpSplit_ne (I.type.andThen (looks_mroIn X hm)) (PySem.F.cmpArgs_ne _ _) ?_))
  unfold Builtin.«object.__ne__»
  refine wpAny_bind (m := slotArgs "__ne__" 1 _) (wpAny_pure ?_)
  refine wpAny_bind (m := cRoomFor _ _) (wpAny_cRoomFor hu ?_)
  refine wpAny_bind (m := callSpecialIfBound? (.ref x) (Str.ofString "__eq__") _) (ifBound_K X I hr hf (wpAny_mono h (fun r s' hq => ?_) fun _ _ y => y))
  obtain ⟨b, rfl, hq⟩ := hq
  refine wpAny_bind (m := truthy (.bool b)) (wpAny_truthy_bool ?_)
  exact wpAny_pure hq
theorem cmp_ne {v tb : Value} {Q : Value → Shared → Prop} (hu : A.units + 1 < cLine) (X : K.In s.heap) (I : InstAt s.heap x ox C od) (hb : Looks (model prog w) s.heap (typeOf v) tb) (hn : notFirst K C tb = true)
    (hne : findIn K (.ref C) "__ne__" = some (some (.builtin "object.__ne__"))) (hm : mroIn K C (.type "object") = some true) (hr : findIn K (.ref C) "__eq__" = some (some (.ref f))) (hf : isFn K (.ref f) = true)
    (h : wpAny (model prog w) A.in1 (call (.ref f) [.ref x, v]) (fun r s' => ∃ b, r = .bool b ∧ Q (.bool (!b)) s') E s) : wpAny (model prog w) A (richCompare .NotEq (.ref x) v) Q E s := by
  have one : wpAny (model prog w) A (tryCompare (.ref x) (cmpInfo .NotEq).2.1 v) (fun r s' => ∃ b, r = some (.bool b) ∧ Q (.bool b) s') E s := by
    unfold tryCompare
    refine wpAny_bind (ifBound_B (id := "object.__ne__") X I hne (PySem.F.cmp_object.ne.bind) (obj_ne hu X I hm hr hf (wpAny_mono h (fun r s' hq => ?_) fun _ _ z => z)))
    obtain ⟨b, rfl, hq⟩ := hq
    exact ⟨b, rfl, wpAny_pure ⟨_, rfl, hq⟩⟩
  unfold richCompare
  simp only [oneThing_ref]
  refine wpAny_holding (wpAny_bind (wpAny_cRoomFor (Nat.lt_of_succ_lt hu) ?_))
  refine wpAny_bind (I.type.here (wpAny_bind (hb.here ?_)))
  split
  · rename_i q
    have e : subIn K tb (.ref C) = some false := by
      rcases Bool.or_eq_true_iff.mp hn with e | e
      · rw [beq_iff_eq.mp e] at q; simp at q
      · exact beq_iff_eq.mp e
    refine wpAny_bind ((looks_subIn X e).here ?_)
    simp only [Bool.false_eq_true, if_false]
    refine wpAny_bind (wpAny_mono one (fun r s' z => ?_) fun _ _ e => e)
    obtain ⟨b, rfl, hq⟩ := z
    exact wpAny_pure hq
  · refine wpAny_bind (wpAny_pure ?_)
    simp only [Bool.false_eq_true, if_false]
    refine wpAny_bind (wpAny_mono one (fun r s' z => ?_) fun _ _ e => e)
    obtain ⟨b, rfl, hq⟩ := z
    exact wpAny_pure hq
end
section
variable {X : Cx}
/-- x != y by the own __eq__ of x's class -/
def rNeOwn (C : Addr) (sp : Sp) (K : PySem.W.Frag) (E : XK) : R2 := fun x y H Q => ∃ (a dx : Addr) (fs : List (Str × V)), x = .ref a ∧ H a = some (.ins C dx fs) ∧ NotSub K C H y ∧ sp [x, y] H (fun v H' => ∃ b, v = .bl b ∧ Q (.bl (!b)) H') E
theorem op_neOwn {CX : CXT} {n : Nat} {C f : Addr} {fd : FuncData} {ps : List Str} {sp : Sp} {E : XK} (F : FnOk X.prog X.w X.K X.mg X.base CX n f fd ps sp) (hr : Room (n + 1) X.A)
    (hs : PySem.W.findIn X.K (.ref C) "__eq__" = some (some (.ref f))) (hf : PySem.W.isFn X.K (.ref f) = true) (hne : PySem.W.findIn X.K (.ref C) "__ne__" = some (some (.builtin "object.__ne__"))) (hm : PySem.W.mroIn X.K C (.type "object") = some true)
    (hb : Binds X.K fd ps []) (hx : Passes CX X E) : OpR X (compareOp .NotEq) (rNeOwn C sp X.K E) := by
  intro pins s σ H x y u v Q I rx ry h
  obtain ⟨a, dx, fs, rfl, ha, hn, h⟩ := h
  obtain ⟨tb, L, nf⟩ := notSub_of I ry hn
  cases rx
  obtain ⟨mA, J, _⟩ := ins_get I.hok ha
  obtain ⟨od, J, _⟩ := J.look
  show wpAny (model X.prog X.w) X.A (richCompare .NotEq (.ref a) v) (EP X pins σ Q) X.xe s
  refine cmp_ne hr.in1.units0 I.kIn J L nf hne hm hs hf ?_
  refine wpAny_mono (run_special F hr.in1 rfl hb hx I (vs := [.ref a, y]) (.cons (show RelV (.ref a) (.ref a) from rfl) (.cons ry .nil)) h) (fun r s' q => ?_) fun _ _ z => z
  obtain ⟨z, H', I', rz, b, rfl, q⟩ := q
  cases rz
  exact ⟨b, rfl, .bl (!b), H', I', rfl, q⟩
end
section
variable {X : Cx} {CX : CXT} {k : Nat} {f C : Addr} {fd : FuncData} {ps ks : List Str} {sp : Sp} {E : XK} {m : Str} {pos apos : Pos} {o : Expr} {kws : List Keyword} {ta : TE} {tk : TA} {g : List Value → List Value → List Value} {gV : List V → List V → List V}
/-- o.m(k = v, ..) -/
def tMethK (C : Addr) (m : Str) (sp : Sp) (gV : List V → List V → List V) (E : XK) (ta : TE) (tk : TA) : TE := fun σ H Q => ta σ H fun x H1 => ∃ a dx fs, x = .ref a ∧ H1 a = some (.ins C dx fs) ∧ fs.lookup m = none ∧ tk σ H1 fun zs H2 => sp (gV [.ref a] zs) H2 Q E
theorem pe_methK0 {pl : Sem Bool} (he : PE X o ta) (c : Cls X.K C) (hm : Meth X.K C m f) (F : FnOk X.prog X.w X.K X.mg X.base CX k f fd ps sp) (hr : Room k X.A) (hb : KBinds X.K fd ps ks g gV) (hx : Passes CX X E) (hkw : PK X kws tk)
    (hall : (backToKw pos (keywordEach kws X.env)).all (·.1.isSome) = true := by rfl) (hks : (backToKw pos (keywordEach kws X.env)).filterMap (·.1) = ks := by rfl)
    (hpl : ((backTo pos (starEach [] X.env)).any (·.1) || (backToKw pos (keywordEach kws X.env)).any (·.1.isNone)) = false := by rfl)
    (ht : eval (.Call (.Attribute o m apos) [] kws pos) X.env = (do
      let ov ← eval o X.env
      standAt apos.atName
      let (f, first) ← holding [ov] (getMethod ov m pl)
      callWith pos f first (backTo pos (starEach [] X.env)) (backToKw pos (keywordEach kws X.env))) := by rfl) :
    PE X (.Call (.Attribute o m apos) [] kws pos) (tMethK C m sp gV E ta tk) := by
  refine ⟨fun pins s σ H Q I h => ?_⟩
  refine PySem.W.methodCall_KW (pl := pl) (thn (he.run pins s σ H _ I h) fun u s1 ⟨x, H1, I1, rx, a, dx, fs, ex, ea, l, q⟩ => ?_) ht
  subst ex
  obtain rfl : u = Value.ref a := rx
  refine getmeth_ok I1 ea c hm l ?_
  refine PySem.W.callWith_KW0 (first := [.ref a]) (h₀ := X.base) I.ok.mod.kin hm.kp hall ?_ hpl
  refine thn (hkw.run pos pins s1 σ H1 _ I1 q) fun ws s2 ⟨zs, H2, I2, rz, q2⟩ => ⟨I2.kIn, ?_⟩
  rw [hks]
  exact run_fnk (us := [.ref a]) (vs := [.ref a]) F hr hb hx I2 (.cons (show RelV (.ref a) (.ref a) from rfl) .nil) rz q2
end
end RK
namespace RK
open PySem PySem.Spec PyProof.Rows L2
theorem u65 {n : Nat} {A : Around} (h : Room (n + 1) A) : A.units + 65 < cLine := by
  have h2 : A.units + 1 + 64 < cLine := h.in1.units
  omega
theorem call_lenA {X : Cx} : CallR X (.builtin "len") (rLen X.K) := call_len
/-! ### texts -/
theorem str_len (z : Str) : z.length = z.cps.toList.length := by
  show z.cps.size = _
  simp
theorem app_codes (a b : Str) : (a ++ b).cps.toList = a.cps.toList ++ b.cps.toList := by
  show (a.cps ++ b.cps).toList = _
  simp
theorem cut_codes (z : Str) (lo hi : Option Int) : (cutS z lo hi).cps.toList = (z.cps.toList.drop (HT.sIx z.length 0 lo)).take (HT.sIx z.length z.length hi - HT.sIx z.length 0 lo) := by
  unfold cutS
  simp
theorem str_ext {a b : Str} (h : a.cps.toList = b.cps.toList) : a = b := by
  obtain ⟨⟨x⟩⟩ := a
  obtain ⟨⟨y⟩⟩ := b
  simp at h
  rw [h]
/-- a lowercase letter's code -/
def Low (c : Nat) : Prop := 97 ≤ c ∧ c ≤ 122
def NameOk (z : Str) : Prop := 1 ≤ z.length ∧ z.length ≤ 6 ∧ ∀ c ∈ z.cps.toList, Low c
abbrev abc : Str := "abcdefghijklmnopqrstuvwxyz"
theorem abc_codes : abc.cps.toList = List.range' 97 26 := by decide +kernel
theorem abc_len : abc.length = 26 := by rw [str_len, abc_codes]; rfl
theorem abc_mem {c : Nat} : c ∈ abc.cps.toList ↔ Low c := by
  rw [abc_codes, List.mem_range'_1]
  unfold Low
  omega
theorem abc_at {i : Int} (h0 : 0 ≤ i) (h1 : i < 26) : ∃ c, atI abc.cps.toList i = some c ∧ Low c := by
  have hl : abc.cps.toList.length = 26 := by rw [abc_codes]; rfl
  have hi : i.toNat < abc.cps.toList.length := by omega
  obtain ⟨j, rfl⟩ : ∃ j : Nat, i = (j : Int) := ⟨i.toNat, by omega⟩
  have hj : j < abc.cps.toList.length := by omega
  exact ⟨abc.cps.toList[j], atI_nat (List.getElem?_eq_getElem hj), abc_mem.mp (List.getElem_mem hj)⟩
theorem one_codes (c : Nat) : (⟨#[c]⟩ : Str).cps.toList = [c] := rfl
theorem one_len (c : Nat) : (⟨#[c]⟩ : Str).length = 1 := rfl
theorem mul_codes (c : Nat) : ∀ n : Nat, 1 ≤ n → ∃ k, (Txt.mul ⟨#[c]⟩ (n : Int)).cps.toList = List.replicate k c ∧ k = n := by
  intro n hn
  refine ⟨n, ?_, rfl⟩
  unfold Txt.mul
  rw [if_neg (by omega)]
  by_cases h1 : n = 1
  · subst h1
    rfl
  · have e1 : (((n : Int) == 1) || (⟨#[c]⟩ : Str).length == 0) = false := by
      have : ((n : Int) == 1) = false := by simp; omega
      rw [this]
      rfl
    rw [e1, if_neg (by decide)]
    show ((List.replicate (n : Int).toNat #[c]).foldl (· ++ ·) #[]).toList = _
    rw [Int.toNat_natCast]
    have key : ∀ (m : Nat) (acc : Array Nat), ((List.replicate m #[c]).foldl (· ++ ·) acc).toList = acc.toList ++ List.replicate m c := by
      intro m
      induction m with
      | zero => intro acc; simp
      | succ m ih =>
        intro acc
        rw [List.replicate_succ, List.foldl_cons, ih]
        simp [List.replicate_succ]
    rw [key]
    rfl
section
variable {X : Cx}
/-- one sign * n, n from 1 to 1000 -/
theorem op_mul_str : OpR X (binaryOp .Mult) (fun x y H Q => ∃ (c : Nat) (n : Int), x = .str ⟨#[c]⟩ ∧ y = .int n ∧ 1 ≤ n ∧ n ≤ 1000 ∧ Q (.str (Txt.mul ⟨#[c]⟩ n)) H) := by
  intro pins s σ H x y u v Q I rx ry h
  obtain ⟨c, n, rfl, rfl, h1, h2, q⟩ := h
  obtain ⟨t, rfl⟩ := rx
  obtain ⟨k, rfl⟩ := ry
  refine PySem.SB.mul (x := ⟨#[c]⟩) ⟨?_, ?_, ?_⟩ (fun t' k' => ⟨.str _, H, I.tok _, ⟨_, rfl⟩, q⟩)
  · rw [decide_eq_false (by omega), decide_eq_false (by omega)]
    rfl
  · intro _ _
    have : (1 : Int) ≤ (2 ^ 63 - 1) / n := by
      rw [Int.le_ediv_iff_mul_le (by omega)]
      omega
    show ¬ ((1 : Int) > _)
    omega
  · intro _ _
    show Builtin.Str.tooLong (1 * n.toNat) = false
    rw [Nat.one_mul]
    have hn : n.toNat ≤ 1000 := by omega
    unfold Builtin.Str.tooLong
    exact decide_eq_false (by
      have : (1000 : Nat) ≤ sizeLine := by decide
      omega)
end
/-! ### sorted texts -/
def leS (a b : Str) : Prop := ¬ b.cps.toList < a.cps.toList
theorem leS_antisymm {a b : Str} (h1 : leS a b) (h2 : leS b a) : a = b := str_ext (List.le_antisymm (List.not_lt.mp h1) (List.not_lt.mp h2))
theorem leS_trans {a b c : Str} (h1 : leS a b) (h2 : leS b c) : leS a c := List.not_lt.mpr (List.le_trans (List.not_lt.mp h1) (List.not_lt.mp h2))
theorem leS_total (a b : Str) : leS a b ∨ leS b a := by
  rcases List.le_total a.cps.toList b.cps.toList with h | h
  · exact .inl (List.not_lt.mpr h)
  · exact .inr (List.not_lt.mpr h)
theorem rising_of : ∀ (r : List Str) (p : Str), risingS p r = true → (p :: r).Pairwise leS
  | [], p, _ => List.pairwise_singleton _ _
  | x :: r, p, h => by
    have h : (!ltCps x.cps.toList p.cps.toList && risingS x r) = true := h
    rw [Bool.and_eq_true] at h
    have ih := rising_of r x h.2
    have h1 : leS p x := by
      have h0 := h.1
      rw [ltCps_eq] at h0
      simpa [leS] using h0
    refine List.pairwise_cons.mpr ⟨fun y hy => ?_, ih⟩
    rcases List.mem_cons.mp hy with rfl | hy
    · exact h1
    · exact leS_trans h1 ((List.pairwise_cons.mp ih).1 y hy)
theorem sorted_of {l : List Str} (h : sortedS l = true) : l.Pairwise leS := by
  cases l with
  | nil => exact List.Pairwise.nil
  | cons x r => exact rising_of r x h
/-- two sorted arrangements of one list are one -/
theorem sorted_one : ∀ {a b : List Str}, a.Perm b → a.Pairwise leS → b.Pairwise leS → a = b
  | [], b, p, _, _ => (List.nil_perm.mp p).symm
  | x :: a, [], p, _, _ => absurd p.length_eq (by simp)
  | x :: a, y :: b, p, h1, h2 => by
    have c1 := List.pairwise_cons.mp h1
    have c2 := List.pairwise_cons.mp h2
    have e : x = y := by
      have hx : x ∈ y :: b := p.mem_iff.mp List.mem_cons_self
      have hy : y ∈ x :: a := p.mem_iff.mpr List.mem_cons_self
      rcases List.mem_cons.mp hx with e | hx
      · exact e
      · rcases List.mem_cons.mp hy with e | hy
        · exact e.symm
        · exact leS_antisymm (c1.1 y hy) (c2.1 x hx)
    subst e
    rw [sorted_one ((List.perm_cons x).mp p) c1.2 c2.2]
/-! ### a dict comprehension over a list that stays -/
theorem dc_list {K : PySem.W.Frag} {a : Addr} {xs : List V} {g : TG} {tt : TT} {tk tv : TE} {vs : List Nat} {σ : L2.St} {H1 : Hp} {D : Addr} {Qd : Hp → Prop} (Pv : Nat → Hp → Prop) (start : Pv 0 (upd H1 D (.dK []))) (stays : ∀ i H, Pv i H → SqL K H a xs)
    (turn : ∀ i x H, xs[i]? = some x → Pv i H → g x (wipe σ vs) H fun σ2 H2 => wipe σ2 vs = wipe σ vs ∧ tt σ2 H2 fun b H3 =>
      if b = true then tk σ2 H3 fun y H4 => tv σ2 H4 fun z H5 => ∃ kvs k, y = kV k ∧ H5 D = some (.dK kvs) ∧ kvs.length < sizeLine ∧ Pv (i + 1) (upd H5 D (.dK (putK kvs k z))) else Pv (i + 1) H3) (fin : ∀ H, Pv xs.length H → Qd H) :
    ∃ W : Nat → Nat → Hp → Prop, (∃ m, W 0 m (upd H1 D (.dK []))) ∧ ∀ i m H, W i m H →
      ((Itl K a).stop i H ∧ Qd H) ∨ ((Itl K a).go i H ∧ ∃ Nx : Hp → Prop, (∀ H', Nx H' → ∃ m', m' < m ∧ W (i + 1) m' H') ∧ ∀ x H', (Itl K a).yld i H x H' → g x (wipe σ vs) H' fun σ2 H2 => wipe σ2 vs = wipe σ vs ∧ tt σ2 H2 fun b H3 =>
        if b = true then tk σ2 H3 fun y H4 => tv σ2 H4 fun z H5 => ∃ kvs k, y = kV k ∧ H5 D = some (.dK kvs) ∧ kvs.length < sizeLine ∧ Nx (upd H5 D (.dK (putK kvs k z))) else Nx H3) := by
  refine ⟨fun i m H => m + i = xs.length ∧ Pv i H, ⟨xs.length, rfl, start⟩, fun i m H hw => ?_⟩
  obtain ⟨em, p⟩ := hw
  have q := stays i H p
  cases m with
  | zero =>
    have ei : i = xs.length := by omega
    subst ei
    exact .inl ⟨⟨xs, q, Nat.le_refl _⟩, fin H p⟩
  | succ m =>
    have hlt : i < xs.length := by omega
    have g1 : xs[i]? = some xs[i] := List.getElem?_eq_getElem hlt
    refine .inr ⟨⟨xs, xs[i], q, g1⟩, Pv (i + 1), fun H' p' => ⟨m, Nat.lt_succ_self _, by omega, p'⟩, fun x H' hy => ?_⟩
    obtain ⟨e, hy⟩ := hy
    subst e
    exact turn i x _ (hy xs q) p
/-! ### promises of the law's helpers -/
def spOf : Sp := fun vs H Q _ => ∃ (b s : Addr) (x : V), vs = [.ref b, x] ∧ Bag b s H ∧
  ((∃ (p : Addr) (xs : List V), x = .ref p ∧ p ≠ b ∧ H p = some (.lst xs) ∧ 1 ≤ xs.length ∧ xs.length ≤ 1000 ∧ ∀ v H', v ∈ xs → Keep b H H' → Bag b s H' → Q v H') ∨
   ∃ z : Str, x = .str z ∧ 1 ≤ z.length ∧ z.length ≤ 1000 ∧ ∀ c H', c ∈ z.cps.toList → Keep b H H' → Bag b s H' → Q (.str ⟨#[c]⟩) H')
def spMixed : Sp := fun vs H Q _ => ∃ (b s p : Addr) (xs : List V), vs = [.ref b, .ref p] ∧ Bag b s H ∧ p ≠ b ∧ H p = some (.lst xs) ∧ xs.length ≤ 1000 ∧
  ∀ (ys : List V) (q : Addr) H', ys.Perm xs → Keep b H H' → Bag b s H' → H q = none → q ≠ b → q ≠ s → H' q = some (.lst ys) → Q (.ref q) H'
def spNames : Sp := fun vs H Q _ => ∃ (b s : Addr) (n : Int), vs = [.ref b, .int n] ∧ Bag b s H ∧ 0 ≤ n ∧ n ≤ 100 ∧
  ∀ (zs : List Str) (q : Addr) H', zs.length = n.toNat → (∀ z ∈ zs, NameOk z) → Keep b H H' → Bag b s H' → H q = none → q ≠ b → q ≠ s → H' q = some (.lst (zs.map V.str)) → Q (.ref q) H'
end RK
namespace RK
open PySem PySem.Spec PyProof.Rows L2
/-! ### windows: a name, the address of its tuple, the rectangle -/
abbrev W3 := Str × Addr × R
def kvOf (w : W3) : Key × V := (Sum.inr w.1, .ref w.2.1)
def dOf (w : W3) : Key × PyData := (Sum.inr w.1, .tuple w.2.2.ds)
def nr (w : W3) : Str × R := (w.1, w.2.2)
def putW (ws : List W3) (w : W3) : List W3 := if (ws.any fun v => decide (v.1 = w.1)) = true then ws.map (fun v => if v.1 = w.1 then w else v) else ws ++ [w]
def mergeW (ws l : List W3) : List W3 := l.foldl putW ws
def Names (ws : List W3) : List Str := ws.map (·.1)
theorem inr_inj {a b : Str} : ((Sum.inr a : Key) = Sum.inr b) ↔ a = b := ⟨fun h => Sum.inr.inj h, fun h => by rw [h]⟩
theorem any_kv (ws : List W3) (z : Str) : ((ws.map kvOf).any fun kv => decide (kv.1 = (Sum.inr z : Key))) = ws.any fun v => decide (v.1 = z) := by
  rw [List.any_map]
  congr 1
  funext v
  show decide ((Sum.inr v.1 : Key) = Sum.inr z) = decide (v.1 = z)
  rw [decide_eq_decide]
  exact inr_inj
theorem put_kv (ws : List W3) (w : W3) : putK (ws.map kvOf) (Sum.inr w.1) (.ref w.2.1) = (putW ws w).map kvOf := by
  unfold putK putW
  rw [any_kv]
  by_cases h : (ws.any fun v => decide (v.1 = w.1)) = true
  · rw [if_pos h, if_pos h, List.map_map, List.map_map]
    refine List.map_congr_left fun v _ => ?_
    show (if (Sum.inr v.1 : Key) = Sum.inr w.1 then ((Sum.inr v.1 : Key), V.ref w.2.1) else kvOf v) = kvOf (if v.1 = w.1 then w else v)
    by_cases e : v.1 = w.1
    · rw [if_pos (inr_inj.mpr e), if_pos e, e]
      rfl
    · rw [if_neg (fun z => e (inr_inj.mp z)), if_neg e]
  · rw [if_neg h, if_neg h, List.map_append]
    rfl
theorem merge_kv : ∀ (l ws : List W3), mergeK (ws.map kvOf) (l.map kvOf) = (mergeW ws l).map kvOf
  | [], ws => rfl
  | w :: l, ws => by
    show mergeK (putK (ws.map kvOf) (Sum.inr w.1) (.ref w.2.1)) (l.map kvOf) = (mergeW (putW ws w) l).map kvOf
    rw [put_kv]
    exact merge_kv l (putW ws w)
theorem put_names (ws : List W3) (w : W3) : Names (putW ws w) = if w.1 ∈ Names ws then Names ws else Names ws ++ [w.1] := by
  unfold putW Names
  by_cases h : (ws.any fun v => decide (v.1 = w.1)) = true
  · rw [if_pos h]
    obtain ⟨v, hv, e⟩ := List.any_eq_true.mp h
    rw [if_pos (List.mem_map.mpr ⟨v, hv, of_decide_eq_true e⟩), List.map_map]
    refine List.map_congr_left fun v _ => ?_
    show (if v.1 = w.1 then w else v).1 = v.1
    by_cases e : v.1 = w.1
    · rw [if_pos e, e]
    · rw [if_neg e]
  · rw [if_neg h, if_neg, List.map_append]
    · rfl
    · intro hm
      obtain ⟨v, hv, e⟩ := List.mem_map.mp hm
      exact h (List.any_eq_true.mpr ⟨v, hv, decide_eq_true e⟩)
theorem put_nodup {ws : List W3} (w : W3) (h : (Names ws).Nodup) : (Names (putW ws w)).Nodup := by
  rw [put_names]
  by_cases e : w.1 ∈ Names ws
  · rw [if_pos e]
    exact h
  · rw [if_neg e]
    exact List.nodup_append.mpr ⟨h, List.nodup_cons.mpr ⟨List.not_mem_nil, List.nodup_nil⟩, fun a ha b hb => by
      rw [List.mem_singleton.mp hb]
      intro z
      rw [z] at ha
      exact e ha⟩
theorem put_mem {ws : List W3} {w v : W3} (h : v ∈ putW ws w) : v = w ∨ v ∈ ws := by
  unfold putW at h
  by_cases e : (ws.any fun v => decide (v.1 = w.1)) = true
  · rw [if_pos e] at h
    obtain ⟨u, hu, e2⟩ := List.mem_map.mp h
    by_cases e3 : u.1 = w.1
    · rw [if_pos e3] at e2
      exact .inl e2.symm
    · rw [if_neg e3] at e2
      exact .inr (e2 ▸ hu)
  · rw [if_neg e] at h
    rcases List.mem_append.mp h with h | h
    · exact .inr h
    · exact .inl (List.mem_singleton.mp h)
theorem put_len (ws : List W3) (w : W3) : ws.length ≤ (putW ws w).length ∧ (putW ws w).length ≤ ws.length + 1 ∧ 1 ≤ (putW ws w).length := by
  unfold putW
  by_cases e : (ws.any fun v => decide (v.1 = w.1)) = true
  · rw [if_pos e, List.length_map]
    obtain ⟨v, hv, _⟩ := List.any_eq_true.mp e
    have := List.length_pos_of_mem hv
    omega
  · rw [if_neg e, List.length_append]
    show ws.length ≤ ws.length + 1 ∧ ws.length + 1 ≤ ws.length + 1 ∧ 1 ≤ ws.length + 1
    omega
theorem merge_all : ∀ (l ws : List W3), (Names ws).Nodup → (Names (mergeW ws l)).Nodup ∧ (∀ v ∈ mergeW ws l, v ∈ ws ∨ v ∈ l) ∧ ws.length ≤ (mergeW ws l).length ∧ (mergeW ws l).length ≤ ws.length + l.length ∧ (1 ≤ l.length → 1 ≤ (mergeW ws l).length)
  | [], ws, h => ⟨h, fun v hv => .inl hv, Nat.le_refl _, Nat.le_refl _, fun z => absurd z (by simp)⟩
  | w :: l, ws, h => by
    obtain ⟨a, b, c, d, e⟩ := merge_all l (putW ws w) (put_nodup w h)
    have p := put_len ws w
    refine ⟨a, fun v hv => ?_, Nat.le_trans p.1 c, ?_, fun _ => Nat.le_trans p.2.2 c⟩
    · rcases b v hv with z | z
      · rcases put_mem z with z | z
        · exact .inr (z ▸ List.mem_cons_self)
        · exact .inl z
      · exact .inr (List.mem_cons_of_mem _ z)
    · show (mergeW (putW ws w) l).length ≤ ws.length + (l.length + 1)
      omega
theorem merge_new : ∀ (l ws : List W3), (Names (ws ++ l)).Nodup → mergeW ws l = ws ++ l
  | [], ws, _ => (List.append_nil ws).symm
  | w :: l, ws, h => by
    have e : putW ws w = ws ++ [w] := by
      unfold putW
      rw [if_neg]
      intro z
      obtain ⟨v, hv, e⟩ := List.any_eq_true.mp z
      unfold Names at h
      rw [List.map_append, List.map_cons] at h
      exact (List.nodup_append.mp h).2.2 v.1 (List.mem_map.mpr ⟨v, hv, rfl⟩) w.1 List.mem_cons_self (of_decide_eq_true e)
    show mergeW (putW ws w) l = _
    rw [e, merge_new l (ws ++ [w]) (by rw [List.append_assoc]; exact h), List.append_assoc]
    rfl
theorem val_kv {ws : List W3} (h : (Names ws).Nodup) {w : W3} (hw : w ∈ ws) : valV (ws.map kvOf) (Sum.inr w.1 : Key) = some (.ref w.2.1) := by
  induction ws with
  | nil => cases hw
  | cons v ws ih =>
    have hn := List.nodup_cons.mp h
    rcases List.mem_cons.mp hw with e | hw
    · subst e
      exact valV_pos rfl
    · have ne : ¬ v.1 = w.1 := fun e => hn.1 (List.mem_map.mpr ⟨w, hw, e.symm⟩)
      rw [List.map_cons, valV_neg (fun z => ne (inr_inj.mp z))]
      exact ih hn.2 hw
theorem val_none {ws : List W3} {z : Str} (h : z ∉ Names ws) : valV (ws.map kvOf) (Sum.inr z : Key) = none := by
  induction ws with
  | nil => rfl
  | cons v ws ih =>
    have h1 : ¬ v.1 = z := fun e => h (e ▸ List.mem_cons_self)
    rw [List.map_cons, valV_neg (fun q => h1 (inr_inj.mp q))]
    exact ih fun q => h (List.mem_cons_of_mem _ q)
/-! ### arrangements -/
theorem arrange : ∀ (ys : List Str) (ws : List W3), ys.Perm (Names ws) → ∃ us : List W3, us.Perm ws ∧ Names us = ys
  | [], ws, h => by
    have e := List.nil_perm.mp h
    have e2 : ws = [] := List.map_eq_nil_iff.mp e
    exact ⟨[], e2 ▸ .nil, rfl⟩
  | y :: ys, ws, h => by
    obtain ⟨w, hw, e⟩ := List.mem_map.mp (h.mem_iff.mp List.mem_cons_self)
    obtain ⟨l1, l2, rfl⟩ := List.append_of_mem hw
    have p : (l1 ++ w :: l2).Perm (w :: (l1 ++ l2)) := List.perm_middle
    have h2 : ys.Perm (Names (l1 ++ l2)) := by
      have h3 : (y :: ys).Perm (Names (w :: (l1 ++ l2))) := h.trans (p.map _)
      have e : w.1 = y := e
      have h4 : (y :: ys).Perm (y :: Names (l1 ++ l2)) := by
        have : Names (w :: (l1 ++ l2)) = y :: Names (l1 ++ l2) := by
          show w.1 :: _ = _
          rw [e]
          rfl
        rw [← this]
        exact h3
      exact (List.perm_cons y).mp h4
    obtain ⟨us, p2, e2⟩ := arrange ys (l1 ++ l2) h2
    refine ⟨w :: us, (p2.cons w).trans p.symm, ?_⟩
    show w.1 :: Names us = _
    rw [e2]
    exact congrArg (· :: ys) e
theorem perm_of_sub {α : Type} : ∀ {a b : List α}, a.Nodup → (∀ x ∈ a, x ∈ b) → b.length ≤ a.length → a.Perm b
  | [], b, _, _, h => by
    have : b = [] := List.length_eq_zero_iff.mp (Nat.le_zero.mp h)
    rw [this]
  | x :: a, b, hn, hs, hl => by
    obtain ⟨l1, l2, rfl⟩ := List.append_of_mem (hs x List.mem_cons_self)
    have p : (l1 ++ x :: l2).Perm (x :: (l1 ++ l2)) := List.perm_middle
    have hn2 := List.nodup_cons.mp hn
    have sub : ∀ y ∈ a, y ∈ l1 ++ l2 := fun y hy => by
      rcases List.mem_cons.mp (p.mem_iff.mp (hs y (List.mem_cons_of_mem _ hy))) with e | h
      · exact absurd (e ▸ hy) hn2.1
      · exact h
    have len : (l1 ++ l2).length ≤ a.length := by
      have := p.length_eq
      rw [this] at hl
      simpa using hl
    exact ((perm_of_sub hn2.2 sub len).cons x).trans p.symm
/-! ### == of the dicts, by names and rectangles -/
theorem eqv_ds (p q : R) : PyData.eqv (.tuple p.ds) (.tuple q.ds) = true ↔ p = q := by
  obtain ⟨a, b, c, d⟩ := p
  obtain ⟨a', b', c', d'⟩ := q
  simp [R.ds, PyData.eqv, PyData.eqvAll]
theorem find_d {z : Str} : ∀ {us : List W3}, (us.map dOf).find? (fun kv => decide (kv.1 = (Sum.inr z : Key))) = (us.find? fun v => decide (v.1 = z)).map dOf
  | [] => rfl
  | u :: us => by
    rw [List.map_cons, List.find?_cons, List.find?_cons]
    have e : decide ((dOf u).1 = (Sum.inr z : Key)) = decide (u.1 = z) := by
      rw [decide_eq_decide]
      exact inr_inj
    rw [e]
    cases decide (u.1 = z) with
    | true => rfl
    | false => exact find_d
theorem nodup_of_map {α β : Type} (f : α → β) : ∀ {l : List α}, (l.map f).Nodup → l.Nodup
  | [], _ => List.nodup_nil
  | x :: l, h => by
    have hn := List.nodup_cons.mp h
    exact List.nodup_cons.mpr ⟨fun m => hn.1 (List.mem_map.mpr ⟨x, m, rfl⟩), nodup_of_map f hn.2⟩
theorem eqvD_iff {ws us : List W3} (hw : (Names ws).Nodup) (hu : (Names us).Nodup) : eqvD (ws.map dOf) (us.map dOf) = true ↔ (ws.map nr).Perm (us.map nr) := by
  unfold eqvD
  rw [Bool.and_eq_true, beq_iff_eq, List.length_map, List.length_map, List.all_eq_true]
  have nd : ∀ {l : List W3}, (Names l).Nodup → (l.map nr).Nodup := fun {l} h => by
    have e : Names l = (l.map nr).map (·.1) := by
      unfold Names
      rw [List.map_map]
      rfl
    rw [e] at h
    exact nodup_of_map _ h
  constructor
  · rintro ⟨hl, ha⟩
    refine perm_of_sub (nd hw) (fun x hx => ?_) (by rw [List.length_map, List.length_map, hl]; exact Nat.le_refl _)
    obtain ⟨v, hv, rfl⟩ := List.mem_map.mp hx
    have h := ha (dOf v) (List.mem_map.mpr ⟨v, hv, rfl⟩)
    have h : (match (us.map dOf).find? (fun kv => decide (kv.1 = (Sum.inr v.1 : Key))) with | some q => PyData.eqv (.tuple v.2.2.ds) q.2 | none => false) = true := h
    rw [find_d] at h
    cases e : us.find? (fun u => decide (u.1 = v.1)) with
    | none =>
      rw [e] at h
      cases h
    | some u =>
      rw [e] at h
      have e1 : u.1 = v.1 := of_decide_eq_true (List.find?_some (p := fun u : W3 => decide (u.1 = v.1)) e)
      have e2 : v.2.2 = u.2.2 := (eqv_ds _ _).mp h
      refine List.mem_map.mpr ⟨u, List.mem_of_find?_eq_some e, ?_⟩
      show (u.1, u.2.2) = (v.1, v.2.2)
      rw [e1, e2]
  · intro p
    have hl : ws.length = us.length := by
      have := p.length_eq
      rwa [List.length_map, List.length_map] at this
    refine ⟨hl, fun x hx => ?_⟩
    obtain ⟨v, hv, rfl⟩ := List.mem_map.mp hx
    obtain ⟨u, hu', e⟩ := List.mem_map.mp (p.mem_iff.mp (List.mem_map.mpr ⟨v, hv, rfl⟩))
    have e1 : u.1 = v.1 := congrArg (fun z : Str × R => z.1) e
    have e2 : u.2.2 = v.2.2 := congrArg (fun z : Str × R => z.2) e
    show (match (us.map dOf).find? (fun kv => decide (kv.1 = (Sum.inr v.1 : Key))) with | some q => PyData.eqv (.tuple v.2.2.ds) q.2 | none => false) = true
    rw [find_d]
    cases e3 : us.find? (fun u => decide (u.1 = v.1)) with
    | none =>
      have := List.find?_eq_none.mp e3 u hu'
      exact absurd (decide_eq_true e1) this
    | some u2 =>
      have e4 : u2.1 = v.1 := of_decide_eq_true (List.find?_some (p := fun u : W3 => decide (u.1 = v.1)) e3)
      have m2 := List.mem_of_find?_eq_some e3
      have e5 : u2 = u := by
        have h1 := val_kv hu m2
        clear h1
        -- names are different for different windows
        have inj : ∀ {l : List W3}, (Names l).Nodup → ∀ a ∈ l, ∀ b ∈ l, a.1 = b.1 → a = b := by
          intro l
          induction l with
          | nil => intro _ a ha; cases ha
          | cons c l ih =>
            intro h a ha b hb e
            have hn := List.nodup_cons.mp h
            rcases List.mem_cons.mp ha with ea | ha
            · rcases List.mem_cons.mp hb with eb | hb
              · rw [ea, eb]
              · exact absurd (List.mem_map.mpr ⟨b, hb, by rw [← e, ea]⟩) hn.1
            · rcases List.mem_cons.mp hb with eb | hb
              · exact absurd (List.mem_map.mpr ⟨a, ha, by rw [e, eb]⟩) hn.1
              · exact ih hn.2 a ha b hb e
        exact inj hu _ m2 _ hu' (e4.trans e1.symm)
      show PyData.eqv (.tuple v.2.2.ds) (.tuple u2.2.2.ds) = true
      rw [e5, e2]
      exact (eqv_ds _ _).mpr rfl
/-! ### what stands in the heap -/
structure Wins (H : Hp) (ws : List W3) : Prop where
  nd : (Names ws).Nodup
  nm : ∀ w ∈ ws, NameOk w.1
  at_ : ∀ w ∈ ws, H w.2.1 = some (.tup w.2.2.vs)
  gd : ∀ w ∈ ws, w.2.2.good
theorem Wins.same {H H' : Hp} {ws : List W3} (W : Wins H ws) (e : Same H H') : Wins H' ws := ⟨W.nd, W.nm, fun w hw => e _ _ (W.at_ w hw), W.gd⟩
theorem Wins.keep {b s : Addr} {H H' : Hp} {ws : List W3} (W : Wins H ws) (k : Keep b H H') (B : Bag b s H) : Wins H' ws := ⟨W.nd, W.nm, fun w hw => k.of_tup B (W.at_ w hw), W.gd⟩
theorem Wins.perm {H : Hp} {ws us : List W3} (W : Wins H ws) (p : us.Perm ws) : Wins H us := ⟨(List.Perm.map (fun x : W3 => x.1) p).nodup_iff.mpr W.nd, fun w hw => W.nm w (p.mem_iff.mp hw), fun w hw => W.at_ w (p.mem_iff.mp hw), fun w hw => W.gd w (p.mem_iff.mp hw)⟩
theorem Wins.sub {H : Hp} {ws us : List W3} (W : Wins H ws) (n : (Names us).Nodup) (h : ∀ w ∈ us, w ∈ ws) : Wins H us := ⟨n, fun w hw => W.nm w (h w hw), fun w hw => W.at_ w (h w hw), fun w hw => W.gd w (h w hw)⟩
theorem Wins.datD {K : PySem.W.Frag} {H : Hp} : ∀ {ws : List W3}, (∀ w ∈ ws, H w.2.1 = some (.tup w.2.2.vs)) → DatD K H (ws.map kvOf) (ws.map dOf)
  | [], _ => .nil
  | w :: ws, h => .cons ⟨rfl, .tup (.inl (.inl (h w List.mem_cons_self))) w.2.2.dp, rfl⟩ (Wins.datD fun v hv => h v (List.mem_cons_of_mem _ hv))
def fldW (d : Addr) : List (Str × V) := [("windows", .ref d)]
/-- a desk stands at p -/
structure DeskAt (C : Addr) (H : Hp) (p : Addr) (ws : List W3) : Prop where
  ex : ∃ dx d, H p = some (.ins C dx (fldW d)) ∧ H d = some (.dK (ws.map kvOf))
  win : Wins H ws
  so : (Names ws).Pairwise leS
theorem DeskAt.same {C : Addr} {H H' : Hp} {p : Addr} {ws : List W3} (D : DeskAt C H p ws) (e : Same H H') : DeskAt C H' p ws := by
  obtain ⟨⟨dx, d, h1, h2⟩, h3, h4⟩ := D
  exact ⟨⟨dx, d, e _ _ h1, e _ _ h2⟩, h3.same e, h4⟩
theorem DeskAt.keep {C b s : Addr} {H H' : Hp} {p : Addr} {ws : List W3} (D : DeskAt C H p ws) (k : Keep b H H') (B : Bag b s H) : DeskAt C H' p ws := by
  obtain ⟨⟨dx, d, h1, h2⟩, h3, h4⟩ := D
  obtain ⟨ys, hb⟩ := B.hb
  exact ⟨⟨dx, d, k _ _ (ne_of h1 hb (by intro z; cases z)) h1, k.dK hb h2⟩, h3.keep k B, h4⟩
theorem good_scaled {c x y x2 y2 : Int} (c0 : 1 ≤ c) (c1 : c ≤ 100000000) (a1 : -4 ≤ x) (a2 : x ≤ 4) (a3 : -4 ≤ y) (a4 : y ≤ 4) (a5 : x < x2) (a6 : x2 ≤ x + 4) (a7 : y < y2) (a8 : y2 ≤ y + 4) : (R.mk (c * x) (c * y) (c * x2) (c * y2)).good := by
  have up : ∀ z : Int, z ≤ 8 → c * z ≤ 1000000000 := fun z hz => by
    have h1 : c * z ≤ c * 8 := Int.mul_le_mul_of_nonneg_left hz (by omega)
    omega
  have lo : ∀ z : Int, -4 ≤ z → -1000000000 ≤ c * z := fun z hz => by
    have h1 : c * (-4) ≤ c * z := Int.mul_le_mul_of_nonneg_left hz (by omega)
    omega
  have lt : ∀ u v : Int, u < v → c * u < c * v := fun u v h => Int.mul_lt_mul_of_pos_left h (by omega)
  exact ⟨lo x a1, up x (by omega), lo y a3, up y (by omega), lo x2 (by omega), up x2 (by omega), lo y2 (by omega), up y2 (by omega), lt _ _ a5, lt _ _ a7⟩
def spWindows : Sp := fun vs H Q _ => ∃ (b s : Addr) (hi : Int), vs = [.ref b, .int 1, .int hi] ∧ Bag b s H ∧ 1 ≤ hi ∧ hi ≤ 24 ∧
  ∀ (ws : List W3) (q : Addr) H', Wins H' ws → 1 ≤ ws.length → (ws.length : Int) ≤ hi → Keep b H H' → Bag b s H' → H q = none → H' q = some (.dK (ws.map kvOf)) → Q (.ref q) H'
end RK
namespace RK
open PySem PySem.Spec PyProof.Rows L2
def topS (i : Nat) : Stmt := PySem.Challenge.pw_raisekeys_k02_desks.main.body.getD i (.Pass ⟨0, 0, 0, 0⟩)
abbrev s_wall : Stmt := topS 0
abbrev s_DeskError___init : Stmt := inClass (topS 2) 0
abbrev s_BadName___init : Stmt := inClass (topS 3) 0
abbrev s_BadRectangle___init : Stmt := inClass (topS 4) 0
abbrev s_BadSize___init : Stmt := inClass (topS 5) 0
abbrev s_Missing___init : Stmt := inClass (topS 6) 0
abbrev s_Unknown___init : Stmt := inClass (topS 7) 0
abbrev s_is_rectangle : Stmt := topS 10
abbrev s_has_four_numbers : Stmt := topS 11
abbrev s_is_name : Stmt := topS 16
abbrev s_check_windows : Stmt := topS 17
abbrev s_Desk___init : Stmt := inClass (topS 18) 0
abbrev s_Desk_names : Stmt := inClass (topS 18) 1
abbrev s_Desk_rectangle : Stmt := inClass (topS 18) 2
abbrev s_Desk_overlap : Stmt := inClass (topS 18) 3
abbrev s_Desk_pairs : Stmt := inClass (topS 18) 4
abbrev s_Desk_placed : Stmt := inClass (topS 18) 5
abbrev s_Desk___eq : Stmt := inClass (topS 18) 6
abbrev s_Desk___len : Stmt := inClass (topS 18) 7
abbrev s_Desk___repr : Stmt := inClass (topS 18) 8
abbrev s_bag : Stmt := topS 20
abbrev s_pull : Stmt := topS 21
abbrev s_of : Stmt := topS 22
abbrev s_like : Stmt := topS 23
abbrev s_mixed : Stmt := topS 24
abbrev s_names : Stmt := topS 25
abbrev s_rectangle : Stmt := topS 26
abbrev s_windows : Stmt := topS 27
abbrev s_law : Stmt := topS 28
theorem sc_is_rectangle : FnScope ["rectangle", "left", "top", "right", "bottom", "side"] ["rectangle"] (defScope s_is_rectangle) := ⟨rfl, rfl, rfl, by decide +kernel, rfl, by decide +kernel, by decide +kernel⟩
theorem sc_has_four_numbers : FnScope ["value", "side"] ["value"] (defScope s_has_four_numbers) := ⟨rfl, rfl, rfl, by decide +kernel, rfl, by decide +kernel, by decide +kernel⟩
theorem sc_is_name : FnScope ["text", "letter"] ["text"] (defScope s_is_name) := ⟨rfl, rfl, rfl, by decide +kernel, rfl, by decide +kernel, by decide +kernel⟩
theorem sc_check_windows : FnScope ["windows", "names", "name"] ["windows"] (defScope s_check_windows) := ⟨rfl, rfl, rfl, by decide +kernel, rfl, by decide +kernel, by decide +kernel⟩
theorem sc_Desk___init : FnScope ["self", "windows", "name"] ["self", "windows"] (defScope s_Desk___init) := ⟨rfl, rfl, rfl, by decide +kernel, rfl, by decide +kernel, by decide +kernel⟩
theorem sc_Desk_names : FnScope ["self"] ["self"] (defScope s_Desk_names) := ⟨rfl, rfl, rfl, by decide +kernel, rfl, by decide +kernel, by decide +kernel⟩
theorem sc_Desk_rectangle : FnScope ["self", "name"] ["self", "name"] (defScope s_Desk_rectangle) := ⟨rfl, rfl, rfl, by decide +kernel, rfl, by decide +kernel, by decide +kernel⟩
theorem sc_Desk___eq : FnScope ["self", "other"] ["self", "other"] (defScope s_Desk___eq) := ⟨rfl, rfl, rfl, by decide +kernel, rfl, by decide +kernel, by decide +kernel⟩
theorem sc_Desk___len : FnScope ["self"] ["self"] (defScope s_Desk___len) := ⟨rfl, rfl, rfl, by decide +kernel, rfl, by decide +kernel, by decide +kernel⟩
theorem sc_Desk___repr : FnScope ["self"] ["self"] (defScope s_Desk___repr) := ⟨rfl, rfl, rfl, by decide +kernel, rfl, by decide +kernel, by decide +kernel⟩
theorem sc_bag : FnScope ["_law_script", "_law_salt", "_law_cell"] ["_law_script"] (defScope s_bag) := ⟨rfl, rfl, rfl, by decide +kernel, rfl, by decide +kernel, by decide +kernel⟩
theorem sc_pull : FnScope ["_law_bag_here", "_law_amount", "_law_cell", "_law_got", "_law_seed"] ["_law_bag_here", "_law_amount"] (defScope s_pull) := ⟨rfl, rfl, rfl, by decide +kernel, rfl, by decide +kernel, by decide +kernel⟩
theorem sc_of : FnScope ["_law_bag_here", "_law_things"] ["_law_bag_here", "_law_things"] (defScope s_of) := ⟨rfl, rfl, rfl, by decide +kernel, rfl, by decide +kernel, by decide +kernel⟩
theorem sc_like : FnScope ["_law_found", "_law_due", "_law_k"] ["_law_found", "_law_due"] (defScope s_like) := ⟨rfl, rfl, rfl, by decide +kernel, rfl, by decide +kernel, by decide +kernel⟩
theorem sc_mixed : FnScope ["_law_bag_here", "_law_things", "_law_found", "_law_thing"] ["_law_bag_here", "_law_things"] (defScope s_mixed) := ⟨rfl, rfl, rfl, by decide +kernel, rfl, by decide +kernel, by decide +kernel⟩
theorem sc_names : FnScope ["_law_bag_here", "_law_count", "_law_letters", "_law_base", "_law_k", "_law_spot", "_law_first", "_law_step"] ["_law_bag_here", "_law_count"] (defScope s_names) := ⟨rfl, rfl, rfl, by decide +kernel, rfl, by decide +kernel, by decide +kernel⟩
theorem sc_rectangle : FnScope ["_law_bag_here", "_law_scale", "_law_left", "_law_top", "_law_right", "_law_bottom"] ["_law_bag_here", "_law_scale"] (defScope s_rectangle) := ⟨rfl, rfl, rfl, by decide +kernel, rfl, by decide +kernel, by decide +kernel⟩
theorem sc_windows : FnScope ["_law_bag_here", "_law_least", "_law_most", "_law_names_here", "_law_scale", "_law_way", "_law_one", "_law_rects", "_law_name_z"] ["_law_bag_here", "_law_least", "_law_most"] (defScope s_windows) := ⟨rfl, rfl, rfl, by decide +kernel, rfl, by decide +kernel, by decide +kernel⟩
theorem sc_law : FnScope ["_law_script", "_law_bag_here", "_law_turn", "_law_rects", "_law_handed", "_law_desk", "_law_names_here", "_law_again", "_law_found", "_law_turned", "_law_odd", "_law_at", "_law_fewer", "_law_name_z"] ["_law_script"] (defScope s_law) := ⟨rfl, rfl, rfl, by decide +kernel, rfl, by decide +kernel, by decide +kernel⟩
def kwG_km_Desk_rectangle_name {α : Type} : List α → List α → List α
  | [a0], [c0] => [a0, c0]
  | _, _ => []
def kwG_kn_Desk_windows {α : Type} : List α → List α → List α
  | [a0], [c0] => [a0, c0]
  | _, _ => []
structure Txt (K : PySem.W.Frag) (mg : Str → Option Value) where
  f_is_rectangle : Addr
  fd_is_rectangle : FuncData
  F_is_rectangle : Fun K "is_rectangle" "is_rectangle" s_is_rectangle f_is_rectangle fd_is_rectangle
  g_is_rectangle : mg "is_rectangle" = some (.ref f_is_rectangle)
  b_is_rectangle : Binds K fd_is_rectangle ["rectangle"] []
  f_has_four_numbers : Addr
  fd_has_four_numbers : FuncData
  F_has_four_numbers : Fun K "has_four_numbers" "has_four_numbers" s_has_four_numbers f_has_four_numbers fd_has_four_numbers
  g_has_four_numbers : mg "has_four_numbers" = some (.ref f_has_four_numbers)
  b_has_four_numbers : Binds K fd_has_four_numbers ["value"] []
  f_is_name : Addr
  fd_is_name : FuncData
  F_is_name : Fun K "is_name" "is_name" s_is_name f_is_name fd_is_name
  g_is_name : mg "is_name" = some (.ref f_is_name)
  b_is_name : Binds K fd_is_name ["text"] []
  f_check_windows : Addr
  fd_check_windows : FuncData
  F_check_windows : Fun K "check_windows" "check_windows" s_check_windows f_check_windows fd_check_windows
  g_check_windows : mg "check_windows" = some (.ref f_check_windows)
  b_check_windows : Binds K fd_check_windows ["windows"] []
  f_bag : Addr
  fd_bag : FuncData
  F_bag : Fun K "_law_bag" "_law_bag" s_bag f_bag fd_bag
  g_bag : mg "_law_bag" = some (.ref f_bag)
  b_bag : Binds K fd_bag ["_law_script"] []
  f_pull : Addr
  fd_pull : FuncData
  F_pull : Fun K "_law_pull" "_law_pull" s_pull f_pull fd_pull
  g_pull : mg "_law_pull" = some (.ref f_pull)
  b_pull : Binds K fd_pull ["_law_bag_here", "_law_amount"] []
  f_of : Addr
  fd_of : FuncData
  F_of : Fun K "_law_of" "_law_of" s_of f_of fd_of
  g_of : mg "_law_of" = some (.ref f_of)
  b_of : Binds K fd_of ["_law_bag_here", "_law_things"] []
  f_like : Addr
  fd_like : FuncData
  F_like : Fun K "_law_like" "_law_like" s_like f_like fd_like
  g_like : mg "_law_like" = some (.ref f_like)
  b_like : Binds K fd_like ["_law_found", "_law_due"] []
  f_mixed : Addr
  fd_mixed : FuncData
  F_mixed : Fun K "_law_mixed" "_law_mixed" s_mixed f_mixed fd_mixed
  g_mixed : mg "_law_mixed" = some (.ref f_mixed)
  b_mixed : Binds K fd_mixed ["_law_bag_here", "_law_things"] []
  f_names : Addr
  fd_names : FuncData
  F_names : Fun K "_law_names" "_law_names" s_names f_names fd_names
  g_names : mg "_law_names" = some (.ref f_names)
  b_names : Binds K fd_names ["_law_bag_here", "_law_count"] []
  f_rectangle : Addr
  fd_rectangle : FuncData
  F_rectangle : Fun K "_law_rectangle" "_law_rectangle" s_rectangle f_rectangle fd_rectangle
  g_rectangle : mg "_law_rectangle" = some (.ref f_rectangle)
  b_rectangle : Binds K fd_rectangle ["_law_bag_here", "_law_scale"] []
  f_windows : Addr
  fd_windows : FuncData
  F_windows : Fun K "_law_windows" "_law_windows" s_windows f_windows fd_windows
  g_windows : mg "_law_windows" = some (.ref f_windows)
  b_windows : Binds K fd_windows ["_law_bag_here", "_law_least", "_law_most"] []
  f_law : Addr
  fd_law : FuncData
  F_law : Fun K "law" "law" s_law f_law fd_law
  g_law : mg "law" = some (.ref f_law)
  b_law : Binds K fd_law ["_law_script"] []
  f_Desk___init : Addr
  fd_Desk___init : FuncData
  F_Desk___init : Fun K "__init__" "Desk.__init__" s_Desk___init f_Desk___init fd_Desk___init
  b_Desk___init : Binds K fd_Desk___init ["self", "windows"] []
  f_Desk_names : Addr
  fd_Desk_names : FuncData
  F_Desk_names : Fun K "names" "Desk.names" s_Desk_names f_Desk_names fd_Desk_names
  b_Desk_names : Binds K fd_Desk_names ["self"] []
  f_Desk_rectangle : Addr
  fd_Desk_rectangle : FuncData
  F_Desk_rectangle : Fun K "rectangle" "Desk.rectangle" s_Desk_rectangle f_Desk_rectangle fd_Desk_rectangle
  b_Desk_rectangle : Binds K fd_Desk_rectangle ["self", "name"] []
  f_Desk___eq : Addr
  fd_Desk___eq : FuncData
  F_Desk___eq : Fun K "__eq__" "Desk.__eq__" s_Desk___eq f_Desk___eq fd_Desk___eq
  b_Desk___eq : Binds K fd_Desk___eq ["self", "other"] []
  f_Desk___len : Addr
  fd_Desk___len : FuncData
  F_Desk___len : Fun K "__len__" "Desk.__len__" s_Desk___len f_Desk___len fd_Desk___len
  b_Desk___len : Binds K fd_Desk___len ["self"] []
  f_Desk___repr : Addr
  fd_Desk___repr : FuncData
  F_Desk___repr : Fun K "__repr__" "Desk.__repr__" s_Desk___repr f_Desk___repr fd_Desk___repr
  b_Desk___repr : Binds K fd_Desk___repr ["self"] []
  C_Desk : Addr
  cl_Desk : Cls K C_Desk
  M_Desk : Mk K C_Desk f_Desk___init
  g_Desk : mg "Desk" = some (.ref C_Desk)
  n_Desk_windows : NoAttr K C_Desk "windows"
  ic_Desk : C8.InsC K C_Desk
  ne_Desk : PySem.W.findIn K (.ref C_Desk) "__ne__" = some (some (.builtin "object.__ne__"))
  mo_Desk : PySem.W.mroIn K C_Desk (.type "object") = some true
  sub_dict_Desk : PySem.W.subIn K (.type "dict") (.ref C_Desk) = some false
  kit_dict_Desk : PySem.W.kitOne K (.type "dict") (.ref C_Desk) = some false
  sub_list_Desk : PySem.W.subIn K (.type "list") (.ref C_Desk) = some false
  kit_list_Desk : PySem.W.kitOne K (.type "list") (.ref C_Desk) = some false
  s_Desk___init : PySem.W.findIn K (.ref C_Desk) "__init__" = some (some (.ref f_Desk___init))
  i_Desk___init : PySem.W.isFn K (.ref f_Desk___init) = true
  M_Desk___init : Meth K C_Desk "__init__" f_Desk___init
  s_Desk_names : PySem.W.findIn K (.ref C_Desk) "names" = some (some (.ref f_Desk_names))
  i_Desk_names : PySem.W.isFn K (.ref f_Desk_names) = true
  M_Desk_names : Meth K C_Desk "names" f_Desk_names
  s_Desk_rectangle : PySem.W.findIn K (.ref C_Desk) "rectangle" = some (some (.ref f_Desk_rectangle))
  i_Desk_rectangle : PySem.W.isFn K (.ref f_Desk_rectangle) = true
  M_Desk_rectangle : Meth K C_Desk "rectangle" f_Desk_rectangle
  s_Desk___eq : PySem.W.findIn K (.ref C_Desk) "__eq__" = some (some (.ref f_Desk___eq))
  i_Desk___eq : PySem.W.isFn K (.ref f_Desk___eq) = true
  M_Desk___eq : Meth K C_Desk "__eq__" f_Desk___eq
  s_Desk___len : PySem.W.findIn K (.ref C_Desk) "__len__" = some (some (.ref f_Desk___len))
  i_Desk___len : PySem.W.isFn K (.ref f_Desk___len) = true
  M_Desk___len : Meth K C_Desk "__len__" f_Desk___len
  s_Desk___repr : PySem.W.findIn K (.ref C_Desk) "__repr__" = some (some (.ref f_Desk___repr))
  i_Desk___repr : PySem.W.isFn K (.ref f_Desk___repr) = true
  M_Desk___repr : Meth K C_Desk "__repr__" f_Desk___repr
  km_Desk_rectangle_name : KBinds K fd_Desk_rectangle ["self", "name"] ["name"] (kwG_km_Desk_rectangle_name (α := Value)) (kwG_km_Desk_rectangle_name (α := V))
  kn_Desk_windows : KBn K fd_Desk___init ["self", "windows"] 1 ["windows"] (kwG_kn_Desk_windows (α := Value)) (kwG_kn_Desk_windows (α := V))
  t_MOST_COORDINATE : Tok
  c_MOST_COORDINATE : mg "MOST_COORDINATE" = some (.int 1000000000 t_MOST_COORDINATE)
  t_MOST_WINDOWS : Tok
  c_MOST_WINDOWS : mg "MOST_WINDOWS" = some (.int 24 t_MOST_WINDOWS)
  t_MOST_LETTERS : Tok
  c_MOST_LETTERS : mg "MOST_LETTERS" = some (.int 6 t_MOST_LETTERS)
  t_LETTERS : Tok
  c_LETTERS : mg "LETTERS" = some (.str "abcdefghijklmnopqrstuvwxyz" t_LETTERS)
  m_all : mg "all" = none
  m_bool : mg "bool" = none
  m_dict : mg "dict" = none
  m_int : mg "int" = none
  m_isinstance : mg "isinstance" = none
  m_len : mg "len" = none
  m_list : mg "list" = none
  m_range : mg "range" = none
  m_repr : mg "repr" = none
  m_sorted : mg "sorted" = none
  m_str : mg "str" = none
  m_tuple : mg "tuple" = none
  m_zip : mg "zip" = none
section
variable {P : Program} {w : World} {K : PySem.W.Frag} {mg : Str → Option Value} {base : Heap}
theorem ok_bag (T : Txt K mg) {k : Nat} : FnOk P w K mg base CX0 (k + 1) T.f_bag T.fd_bag ["_law_script"] (spBag K) := by
  refine T.F_bag.ok sc_bag (fun vs H Q E h => ?_) (fun cdv A outer s H vs Q E hr h => ?_)
  · obtain ⟨a, ns, rfl, _⟩ := h
    rfl
  · obtain ⟨a, ns, rfl, hS, hlen, q⟩ := h
    refine ⟨_, (pss_cons (ps_set (i := 1) sc_bag.nd rfl (.inl rfl) pe_int)
      (pss_cons (ps_for PassesOwn.never rfl (pi_list (pe_slice (r := rSlL K) sl_list (pv 0) po_none (po_some pe_int))) (pg_name (i := 2) sc_bag.nd rfl (.inl rfl)) (pss_one (ps_set (i := 1) sc_bag.nd rfl (.inl rfl) (pe_op op_mod (pe_op op_add (pe_op op_add (pe_op op_mul (pv 1) pe_int) (pe_op op_mod (pv 2) pe_int)) pe_int) pe_int))))
      (pss_one (ps_ret (pe_lst (pa_cons (pe_callTy (T := "list") (r := RK.rListQ K) RK.call_listQ (by rfl) T.m_list (by decide +kernel) (pa_cons (pe_slice (r := rSlL K) sl_list (pv 0) po_none (po_some pe_int)) pa_nil)) (pa_cons pe_int (pa_cons pe_int (pa_cons (pv 1) pa_nil))))))))), ?_⟩
    refine ⟨.ref a, rfl, 63, rfl, a, _, rfl, hS, fun p np => ?_⟩
    rw [cut63 ns hlen]
    have s1 : Same H (upd H p (.lst (ns.map V.int))) := same_new np _
    refine ⟨p, rfl, ⟨_, .inl (.inl upd_same)⟩, for_list (xs := ns.map V.int) (fun _ σ H' => ∃ z y2, σ = [some (.ref a), some (.int z), y2] ∧ 0 ≤ z ∧ z < 2147483647 ∧ H' = upd H p (.lst (ns.map V.int))) ⟨9489, none, rfl, by decide, by decide, rfl⟩ ?_ ?_ ?_⟩
    · rintro i σ H' _ ⟨z, y2, rfl, _, _, rfl⟩
      exact .inl (.inl upd_same)
    · rintro i x σ H' hx ⟨z, y2, rfl, z0, z1, rfl⟩
      rw [List.getElem?_map] at hx
      obtain ⟨c, hc, rfl⟩ := Option.map_eq_some_iff.mp hx
      refine ⟨.int z, rfl, _, _, rfl, rfl, .inl ⟨by omega, by omega⟩, .int c, rfl, _, _, rfl, rfl, (show (0 : Int) < 2147483587 by decide), _, _, rfl, rfl, _, _, rfl, rfl, _, _, rfl, rfl, (show (0 : Int) < 2147483647 by decide), _, _, rfl, Int.emod_nonneg _ (by decide), Int.emod_lt_of_pos _ (by decide), rfl⟩
    · rintro σ H' ⟨z, y2, rfl, z0, z1, rfl⟩
      refine ⟨.ref a, rfl, 63, rfl, a, _, rfl, s1.seq hS, fun p2 np2 => ?_⟩
      rw [cut63 ns hlen]
      have s2 := same_new np2 (.lst (ns.map V.int))
      refine ⟨p2, _, rfl, .inl (.inl (.inl upd_same)), fun l nl => ?_⟩
      have s3 := same_new nl (.lst (ns.map V.int))
      refine ⟨.int z, rfl, (by show 4 ≤ sizeLine; decide), fun b nb => ?_⟩
      have s4 := same_new nb (.lst [.ref l, .int 0, .int 0, .int z])
      have st : Same H _ := ((s1.trans s2).trans s3).trans s4
      refine q _ b l st (((s1.trans s2).trans s3).free nb) ((s1.trans s2).free nl) ⟨ns, 0, 0, z, upd_same, s4 _ _ upd_same, ne_of_none upd_same nb, Nat.zero_le _, hlen, by decide, z0, z1⟩
theorem ok_pull (T : Txt K mg) {k : Nat} : FnOk P w K mg base CX0 (k + 1) T.f_pull T.fd_pull ["_law_bag_here", "_law_amount"] spPull := by
  refine T.F_pull.ok sc_pull (fun vs H Q E h => ?_) (fun cdv A outer s H vs Q E hr h => ?_)
  · obtain ⟨b, s, n, rfl, _⟩ := h
    rfl
  · obtain ⟨b, s, n, rfl, B, n1, n2, q⟩ := h
    obtain ⟨ns, i, big, salt, B⟩ := B
    refine ⟨_, (C8.pss_cut (ps_if (PW.pt (pw_and (pt_cmpR op_eq (pe_ix (r := rIxL K) ix_list (pv 0) pe_int (fun _ _ => rfl)) pe_int (nomark _)) (pw_and1 (pt_cmpR op_lt (pe_ix (r := rIxL K) ix_list (pv 0) pe_int (fun _ _ => rfl)) (pe_callB (id := "len") (r := RK.rLenQ K) RK.call_lenQ (by rfl) T.m_len (by decide +kernel) (pa_cons (pe_ix (r := rIxL K) ix_list (pv 0) pe_int (fun _ _ => rfl)) pa_nil)) (nomark _))))) (pss_cons (ps_set (i := 2) sc_pull.nd rfl (.inl rfl) (pe_ix (r := rIxL K) ix_list (pe_ix (r := rIxL K) ix_list (pv 0) pe_int (fun _ _ => rfl)) (pe_ix (r := rIxL K) ix_list (pv 0) pe_int (fun _ _ => rfl)) (fun _ _ => rfl)))
      (pss_cons (ps_asg (pe_op op_add (pe_ix (r := rIxL K) ix_list (pv 0) pe_int (fun _ _ => rfl)) pe_int) (pg_sub (pv 0) pe_int set_list))
      (pss_one (ps_if (pt_cmpR op_ge (pv 2) (pe_op op_pow pe_int pe_int) (nomark _)) (pss_one (ps_asg (pv 2) (pg_sub (pv 0) pe_int set_list))) (pss_one (ps_asg (pe_op op_mod (pe_op op_add (pe_op op_add (pe_op op_mul (pe_ix (r := rIxL K) ix_list (pv 0) pe_int (fun _ _ => rfl)) pe_int) (pe_op op_mul (pe_op op_mod (pv 2) pe_int) pe_int)) pe_int) pe_int) (pg_sub (pv 0) pe_int set_list))))))) pss_nil)
      (pss_cons (ps_if (pt_cmpR op_gt (pe_ix (r := rIxL K) ix_list (pv 0) pe_int (fun _ _ => rfl)) pe_int (nomark _)) (pss_cons (ps_set (i := 3) sc_pull.nd rfl (.inl rfl) (pe_op op_mod (pe_ix (r := rIxL K) ix_list (pv 0) pe_int (fun _ _ => rfl)) (pv 1)))
      (pss_cons (ps_asg (pe_op op_fdiv (pe_ix (r := rIxL K) ix_list (pv 0) pe_int (fun _ _ => rfl)) (pv 1)) (pg_sub (pv 0) pe_int set_list))
      (pss_one (ps_ret (pv 3))))) pss_nil)
      (pss_cons (ps_set (i := 4) sc_pull.nd rfl (.inl rfl) (pe_ix (r := rIxL K) ix_list (pv 0) pe_int (fun _ _ => rfl)))
      (pss_cons (ps_asg (pe_op op_mod (pe_op op_add (pe_op op_add (pe_op op_mul (pv 4) (pv 4)) (pe_op op_mul (pv 4) pe_int)) pe_int) pe_int) (pg_sub (pv 0) pe_int set_list))
      (pss_one (ps_ret (pe_op op_mod (pe_op op_add (pe_op op_fdiv (pe_ix (r := rIxL K) ix_list (pv 0) pe_int (fun _ _ => rfl)) pe_int) (pe_op op_mul (pe_op op_mod (pe_ix (r := rIxL K) ix_list (pv 0) pe_int (fun _ _ => rfl)) pe_int) pe_int)) (pv 1)))))))), ?_⟩
    refine ⟨fun σ H' => ∃ y2, σ = [some (.ref b), some (.int n), y2, none, none] ∧ Keep b H H' ∧ ∃ i big salt, BagC H' b s ns i big salt, ?_, ?_⟩
    · -- the first if
      refine ⟨.ref b, rfl, b, _, 2, _, rfl, rfl, SqL.of B.hb, at2, rfl, _, rfl, ite2 (fun c => ?_) (fun c => ?_)⟩
      · refine ⟨.ref b, rfl, b, _, 1, _, rfl, rfl, SqL.of B.hb, at1, .ref b, rfl, b, _, 0, _, rfl, rfl, SqL.of B.hb, at0, s, _, rfl, .inl (SqL.of B.hs), _, _, rfl, rfl, _, rfl, ite2 (fun c2 => ?_) (fun c2 => ?_)⟩
        · have hi : i < ns.length := by
            have := of_decide_eq_true c2
            rw [List.length_map] at this
            omega
          have g : (ns.map V.int)[i]? = some (.int ns[i]) := by
            rw [List.getElem?_map, List.getElem?_eq_getElem hi]
            rfl
          refine ⟨.ref b, rfl, b, _, 0, _, rfl, rfl, SqL.of B.hb, at0, .ref b, rfl, b, _, 1, _, rfl, rfl, SqL.of B.hb, at1, s, _, _, _, rfl, rfl, SqL.of B.hs, atI_nat g, ?_⟩
          refine ⟨.ref b, rfl, b, _, 1, _, rfl, rfl, SqL.of B.hb, at1, _, _, rfl, rfl, .ref b, rfl, b, _, 1, 1, rfl, rfl, B.hb, rfl, ?_⟩
          have k1 : Keep b H (upd H b (.lst [.ref s, .int (↑i + 1), .int big, .int salt])) := (Keep.refl b H).upd
          have hs1 : (upd H b (.lst [.ref s, .int (↑i + 1), .int big, .int salt])) s = some (.lst (ns.map V.int)) := by rw [upd_ne B.ne]; exact B.hs
          refine ⟨.int ns[i], rfl, _, _, rfl, rfl, ⟨by decide, by decide, by decide⟩, _, _, rfl, rfl, _, rfl, ite2 (fun c3 => ?_) (fun c3 => ?_)⟩
          · have hc : 0 ≤ ns[i] := by
              have h3 := of_decide_eq_true c3
              have h4 : ((10 : Int) ^ (18 : Int).toNat) = 1000000000000000000 := by decide
              rw [h4] at h3
              omega
            refine ⟨.int ns[i], rfl, .ref b, rfl, b, _, 2, 2, rfl, rfl, upd_same, rfl, ?_⟩
            refine ⟨_, rfl, k1.upd, i + 1, ns[i], salt, ⟨?_, ?_, B.ne, hi, B.hn, hc, B.h1, B.h2⟩⟩
            · rw [upd_same]; rfl
            · rw [upd_ne B.ne]; exact hs1
          · refine ⟨.ref b, rfl, b, _, 3, _, rfl, rfl, SqL.of upd_same, at3, _, _, rfl, rfl, .inr ⟨by decide, by decide⟩, .int ns[i], rfl, _, _, rfl, rfl, (show (0 : Int) < 2147483587 by decide), _, _, rfl, rfl, .inr ⟨by decide, by decide⟩, _, _, rfl, rfl, _, _, rfl, rfl, _, _, rfl, rfl, (show (0 : Int) < 2147483647 by decide), .ref b, rfl, b, _, 3, 3, rfl, rfl, upd_same, rfl, ?_⟩
            refine ⟨_, rfl, k1.upd, i + 1, big, (salt * 40692 + ns[i] % 2147483587 * 48271 + 7) % 2147483647, ⟨?_, ?_, B.ne, hi, B.hn, B.h0, Int.emod_nonneg _ (show (2147483647 : Int) ≠ 0 by decide), Int.emod_lt_of_pos _ (show (0 : Int) < 2147483647 by decide)⟩⟩
            · rw [upd_same]; rfl
            · rw [upd_ne B.ne]; exact hs1
        · exact ⟨_, rfl, Keep.refl b H, i, big, salt, B⟩
      · exact ⟨_, rfl, Keep.refl b H, i, big, salt, B⟩
    · rintro σ H1 ⟨y2, rfl, k1, i, big, salt, B⟩
      refine ⟨.ref b, rfl, b, _, 2, _, rfl, rfl, SqL.of B.hb, at2, _, _, rfl, rfl, _, rfl, ite2 (fun c => ?_) (fun c => ?_)⟩
      · refine ⟨.ref b, rfl, b, _, 2, _, rfl, rfl, SqL.of B.hb, at2, .int n, rfl, _, _, rfl, rfl, (show (0 : Int) < n by omega), .ref b, rfl, b, _, 2, _, rfl, rfl, SqL.of B.hb, at2, .int n, rfl, _, _, rfl, rfl, ⟨(show (0 : Int) < n by omega), (show n < 1073741824 by omega)⟩, .ref b, rfl, b, _, 2, 2, rfl, rfl, B.hb, rfl, .int (big % n), rfl, ?_⟩
        refine q _ _ (Int.emod_nonneg _ (by omega)) (Int.emod_lt_of_pos _ (by omega)) k1.upd ⟨ns, i, big / n, salt, ?_, ?_, B.ne, B.hi, B.hn, Int.ediv_nonneg B.h0 (by omega), B.h1, B.h2⟩
        · rw [upd_same]; rfl
        · rw [upd_ne B.ne]; exact B.hs
      · have h1 := B.h1
        have h2 := B.h2
        refine ⟨.ref b, rfl, b, _, 3, _, rfl, rfl, SqL.of B.hb, at3, .int salt, rfl, .int salt, rfl, _, _, rfl, rfl, .inl ⟨by omega, by omega⟩, .int salt, rfl, _, _, rfl, rfl, .inl ⟨by omega, by omega⟩, _, _, rfl, rfl, _, _, rfl, rfl, _, _, rfl, rfl, (show (0 : Int) < 2147483647 by decide), .ref b, rfl, b, _, 3, 3, rfl, rfl, B.hb, rfl, ?_⟩
        refine ⟨.ref b, rfl, b, _, 3, _, rfl, rfl, SqL.of upd_same, at3, _, _, rfl, rfl, ⟨(show (0 : Int) < 89 by decide), (show (89 : Int) < 1073741824 by decide)⟩, .ref b, rfl, b, _, 3, _, rfl, rfl, SqL.of upd_same, at3, _, _, rfl, rfl, (show (0 : Int) < 8191 by decide), _, _, rfl, rfl, .inr ⟨by decide, by decide⟩, _, _, rfl, rfl, .int n, rfl, _, _, rfl, rfl, (show (0 : Int) < n by omega), ?_⟩
        refine q _ _ (Int.emod_nonneg _ (by omega)) (Int.emod_lt_of_pos _ (by omega)) k1.upd ⟨ns, i, big, (salt * salt + salt * 69621 + 1013904223) % 2147483647, ?_, ?_, B.ne, B.hi, B.hn, B.h0, Int.emod_nonneg _ (show (2147483647 : Int) ≠ 0 by decide), Int.emod_lt_of_pos _ (show (0 : Int) < 2147483647 by decide)⟩
        · rw [upd_same]; rfl
        · rw [upd_ne B.ne]; exact B.hs
theorem ok_of (T : Txt K mg) {k : Nat} : FnOk P w K mg base CX0 (k + 2) T.f_of T.fd_of ["_law_bag_here", "_law_things"] spOf := by
  refine T.F_of.ok sc_of (fun vs H Q E h => ?_) (fun cdv A outer s H vs Q E hr h => ?_)
  · obtain ⟨b, s, x, rfl, _⟩ := h
    rfl
  · obtain ⟨b, s, x, rfl, B, h⟩ := h
    refine ⟨_, (pss_one (ps_ret (pe_ix (r := rIx K) ix_seq (pv 1) (pe_call (ok_pull T) hr (by rfl) T.g_pull T.F_pull.kp T.b_pull .nil pass0 (pa_cons (pv 0) (pa_cons (pe_callB (id := "len") (r := rLen K) RK.call_lenA (by rfl) T.m_len (by decide +kernel) (pa_cons (pv 1) pa_nil)) pa_nil))) (fun _ _ => rfl)))), ?_⟩
    rcases h with ⟨p, xs, rfl, nb, hp, l1, l2, q⟩ | ⟨z, rfl, l1, l2, q⟩
    · refine ⟨.ref p, rfl, .ref b, rfl, .ref p, rfl, .ref p, xs.length, rfl, .inl ⟨xs, SqL.of hp, rfl⟩, b, s, (xs.length : Int), rfl, B, by omega, by omega, fun r H1 r0 r1 k1 B1 => ?_⟩
      obtain ⟨j, rfl⟩ : ∃ j : Nat, r = (j : Int) := ⟨r.toNat, by omega⟩
      have hj : j < xs.length := by omega
      exact .inl ⟨p, xs, _, xs[j], rfl, rfl, SqL.of (k1 _ _ nb hp), atI_nat (List.getElem?_eq_getElem hj), q _ _ (List.getElem_mem hj) k1 B1⟩
    · refine ⟨.str z, rfl, .ref b, rfl, .str z, rfl, .str z, z.length, rfl, ⟨sz l2, rfl⟩, b, s, (z.length : Int), rfl, B, by omega, by omega, fun r H1 r0 r1 k1 B1 => ?_⟩
      obtain ⟨j, rfl⟩ : ∃ j : Nat, r = (j : Int) := ⟨r.toNat, by omega⟩
      have hj : j < z.cps.toList.length := by rw [← str_len]; omega
      exact .inr (.inr ⟨z, _, z.cps.toList[j], rfl, rfl, sz l2, atI_nat (List.getElem?_eq_getElem hj), q _ _ (List.getElem_mem hj) k1 B1⟩)
theorem ok_mixed (T : Txt K mg) {k : Nat} : FnOk P w K mg base CX0 (k + 2) T.f_mixed T.fd_mixed ["_law_bag_here", "_law_things"] spMixed := by
  refine T.F_mixed.ok sc_mixed (fun vs H Q E h => ?_) (fun cdv A outer s H vs Q E hr h => ?_)
  · obtain ⟨b, s, p, xs, rfl, _⟩ := h
    rfl
  · obtain ⟨b, s, p, xs, rfl, B, nb, hp, hl, q⟩ := h
    refine ⟨_, (pss_cons (ps_set (i := 2) sc_mixed.nd rfl (.inl rfl) (pe_lst pa_nil))
      (pss_cons (ps_for PassesOwn.never rfl (pi_list (pv 1)) (pg_name (i := 3) sc_mixed.nd rfl (.inl rfl)) (pss_one (ps_expr (pe_bm PySem.F.plainAttrs_list PySem.F.slot_list_insert PySem.F.type_list_insert mt_insert (pv 2) (pa_cons (pe_call (ok_pull T) hr (by rfl) T.g_pull T.F_pull.kp T.b_pull .nil pass0 (pa_cons (pv 0) (pa_cons (pe_op op_add (pe_callB (id := "len") (r := RK.rLenQ K) RK.call_lenQ (by rfl) T.m_len (by decide +kernel) (pa_cons (pv 2) pa_nil)) pe_int) pa_nil))) (pa_cons (pv 3) pa_nil))))))
      (pss_one (ps_ret (pv 2))))), ?_⟩
    refine ⟨Nat.zero_le _, fun f nf => ?_⟩
    obtain ⟨yb, hb⟩ := B.hb
    obtain ⟨ys, hs⟩ := B.hs
    have fb : f ≠ b := (ne_of_none hb nf).symm
    have fs : f ≠ s := (ne_of_none hs nf).symm
    have fp : f ≠ p := (ne_of_none hp nf).symm
    refine ⟨.ref p, rfl, p, rfl, ⟨_, SqL.of ((same_new nf _) _ _ hp)⟩, for_list (xs := xs) (fun i σ H' => ∃ y3 zs, σ = [some (.ref b), some (.ref p), some (.ref f), y3] ∧ zs.Perm (xs.take i) ∧ H' f = some (.lst zs) ∧ Keep b H H' ∧ Bag b s H') ⟨none, [], rfl, .nil, upd_same, Keep.of (same_new nf _), B.new nf⟩ ?_ ?_ ?_⟩
    · rintro i σ H' _ ⟨y3, zs, rfl, _, _, k1, _⟩
      exact SqL.of (k1 _ _ nb hp)
    · rintro i x σ H1 hx ⟨y3, zs, rfl, hz, hf, k1, B1⟩
      have hi := (List.getElem?_eq_some_iff.mp hx).1
      have lz : zs.length = i := by rw [hz.length_eq, List.length_take]; omega
      refine ⟨.ref f, rfl, .inl ⟨rfl, _, SqL.of hf⟩, .ref b, rfl, .ref f, rfl, f, zs, rfl, .inl (SqL.of hf), _, _, rfl, rfl, b, s, (zs.length : Int) + 1, rfl, B1, by omega, by omega, fun r H2 r0 r1 k2 B2 => ?_⟩
      have hf := k2 _ _ fb hf
      refine ⟨x, rfl, f, zs, r, x, rfl, rfl, hf, szl (by omega), r0, by omega, ?_⟩
      refine ⟨_, zs.take r.toNat ++ [x] ++ zs.drop r.toNat, rfl, ?_, upd_same, ?_, B2.upd fb fs⟩
      · have p1 : (zs.take r.toNat ++ [x] ++ zs.drop r.toNat).Perm (x :: zs) := by
          have e := List.perm_middle (a := x) (l₁ := zs.take r.toNat) (l₂ := zs.drop r.toNat)
          rw [List.take_append_drop] at e
          rw [List.append_assoc, List.singleton_append]
          exact e
        refine p1.trans ((hz.cons x).trans ?_)
        rw [List.take_add_one, hx]
        exact (List.perm_append_singleton x _).symm
      · intro a o na ha
        rw [upd_ne (ne_of_none ha nf)]
        exact k2 _ _ na (k1 _ _ na ha)
    · rintro σ H1 ⟨y3, zs, rfl, hz, hf, k1, B1⟩
      rw [List.take_length] at hz
      exact ⟨.ref f, rfl, q zs f H1 hz k1 B1 nf fb fs hf⟩
theorem ok_names (T : Txt K mg) {k : Nat} : FnOk P w K mg base CX0 (k + 3) T.f_names T.fd_names ["_law_bag_here", "_law_count"] spNames := by
  refine T.F_names.ok sc_names (fun vs H Q E h => ?_) (fun cdv A outer s H vs Q E hr h => ?_)
  · obtain ⟨b, s, n, rfl, _⟩ := h
    rfl
  · obtain ⟨b, s, n, rfl, B, n0, n1, q⟩ := h
    refine ⟨_, (pss_cons (ps_asg (pe_tup (pa_cons pe_str (pa_cons pe_str pa_nil))) (pg_tup (by rfl) (pgs_cons (pg_name (i := 2) sc_names.nd rfl (.inr rfl)) (pgs_cons (pg_name (i := 3) sc_names.nd rfl (.inr rfl)) pgs_nil))))
      (pss_cons (ps_for PassesOwn.never rfl (pi_range1 (by rfl) T.m_range (pa_cons (pe_call (ok_pull T) hr (by rfl) T.g_pull T.F_pull.kp T.b_pull .nil pass0 (pa_cons (pv 0) (pa_cons pe_int pa_nil))) pa_nil)) (pg_name (i := 4) sc_names.nd rfl (.inl rfl)) (pss_one (ps_set (i := 3) sc_names.nd rfl (.inr rfl) (pe_op op_add_str (pv 3) (pe_call (ok_of T) hr (by rfl) T.g_of T.F_of.kp T.b_of .nil pass0 (pa_cons (pv 0) (pa_cons (pv 2) pa_nil)))))))
      (pss_cons (ps_if (pt_cmpR op_eq (pe_call (ok_pull T) hr (by rfl) T.g_pull T.F_pull.kp T.b_pull .nil pass0 (pa_cons (pv 0) (pa_cons pe_int pa_nil))) pe_int (nomark _)) (pss_one (ps_ret (pe_lc (own := [("_law_k", 4)]) (g := gName 4) (tt := tYes) (by rfl) sc_names.nd (pi_range1 (by rfl) T.m_range (pa_cons (pv 1) pa_nil)) (blkOk_by (own := [("_law_k", 4)]) (N := ["_law_bag_here", "_law_count", "_law_letters", "_law_base", "_law_k", "_law_spot", "_law_first", "_law_step"]) (sc := defScope s_names) (by decide +kernel)) (fun _ _ _ _ _ => (pg_name (i := 4) sc_names.nd rfl (Or.inl rfl))) (fun _ _ _ _ _ => pts_nil) (fun _ _ _ _ _ => (pe_op op_mul_str (pe_ix ix_str (pv 2) (pe_op op_mod (pe_op op_add (pe_callB (id := "len") call_len_str (by rfl) T.m_len (by decide +kernel) (pa_cons (pv 3) pa_nil)) (pe_op op_mul pe_int (pv 4))) pe_int) (fun _ _ => rfl)) (pe_op op_add pe_int (pe_op op_mod (pe_op op_add (pe_callB (id := "len") call_len_str (by rfl) T.m_len (by decide +kernel) (pa_cons (pv 3) pa_nil)) (pe_op op_mul pe_int (pv 4))) pe_int))))))) pss_nil)
      (pss_cons (ps_asg (pe_tup (pa_cons (pe_call (ok_pull T) hr (by rfl) T.g_pull T.F_pull.kp T.b_pull .nil pass0 (pa_cons (pv 0) (pa_cons (pe_op op_add (pe_callB (id := "len") call_len_str (by rfl) T.m_len (by decide +kernel) (pa_cons (pv 3) pa_nil)) pe_int) pa_nil))) (pa_cons (pe_call (ok_pull T) hr (by rfl) T.g_pull T.F_pull.kp T.b_pull .nil pass0 (pa_cons (pv 0) (pa_cons pe_int pa_nil))) (pa_cons (pe_call (ok_of T) hr (by rfl) T.g_of T.F_of.kp T.b_of .nil pass0 (pa_cons (pv 0) (pa_cons (pe_lst (pa_cons pe_int (pa_cons pe_int (pa_cons pe_int (pa_cons pe_int (pa_cons pe_int pa_nil)))))) pa_nil))) pa_nil)))) (pg_tup (by rfl) (pgs_cons (pg_name (i := 5) sc_names.nd rfl (.inr rfl)) (pgs_cons (pg_name (i := 6) sc_names.nd rfl (.inr rfl)) (pgs_cons (pg_name (i := 7) sc_names.nd rfl (.inr rfl)) pgs_nil)))))
      (pss_one (ps_ret (pe_lc (own := [("_law_k", 4)]) (g := gName 4) (tt := tYes) (by rfl) sc_names.nd (pi_range1 (by rfl) T.m_range (pa_cons (pv 1) pa_nil)) (blkOk_by (own := [("_law_k", 4)]) (N := ["_law_bag_here", "_law_count", "_law_letters", "_law_base", "_law_k", "_law_spot", "_law_first", "_law_step"]) (sc := defScope s_names) (by decide +kernel)) (fun _ _ _ _ _ => (pg_name (i := 4) sc_names.nd rfl (Or.inl rfl))) (fun _ _ _ _ _ => pts_nil) (fun _ _ _ _ _ => (pe_op op_add_str (pe_op op_add_str (pe_slice sl_str (pv 3) po_none (po_some (pv 5))) (pe_ix ix_str (pv 2) (pe_op op_mod (pe_op op_add (pv 6) (pe_op op_mul (pv 7) (pv 4))) pe_int) (fun _ _ => rfl))) (pe_slice sl_str (pv 3) (po_some (pv 5)) po_none)))))))))), ?_⟩
    refine ⟨(by show 2 ≤ sizeLine; decide), fun t nt => ?_⟩
    refine ⟨t, _, rfl, .inl (.inl upd_same), rfl, .str abc, _, rfl, .str "", _, rfl, rfl, ?_⟩
    have kt : Keep b H _ := Keep.of (same_new nt (.tup [.str abc, .str ""]))
    refine ⟨.ref b, rfl, b, s, 6, rfl, B.new nt, by decide, by decide, fun r H1 r0 r1 k1 B1 => ?_⟩
    refine ⟨r, rfl, by omega, by omega, for_range (n := r.toNat) (fun i σ H' => ∃ y4 bs, σ = [some (.ref b), some (.int n), some (.str abc), some (.str bs), y4, none, none, none] ∧ bs.length = i ∧ (∀ c ∈ bs.cps.toList, Low c) ∧ Keep b H H' ∧ Bag b s H') ⟨none, "", rfl, by decide +kernel, by intro c hc; exact absurd hc (by decide +kernel +revert), kt.trans k1, B1⟩ ?_ ?_⟩
    · rintro i σ H2 hi ⟨y4, bs, rfl, hl, hc, k2, B2⟩
      refine ⟨.str bs, rfl, .ref b, rfl, .str abc, rfl, b, s, .str abc, rfl, B2, .inr ⟨abc, rfl, by rw [abc_len]; decide, by rw [abc_len]; decide, fun c H3 hm k3 B3 => ?_⟩⟩
      refine ⟨bs, _, rfl, rfl, ?_, ?_⟩
      · rw [one_len, hl]
        exact sz (by omega)
      · refine ⟨_, _, rfl, ?_, ?_, k2.trans k3, B3⟩
        · rw [str_len, app_codes, List.length_append, ← str_len, hl]
          rfl
        · intro c' hc'
          rw [app_codes] at hc'
          rcases List.mem_append.mp hc' with h | h
          · exact hc c' h
          · have h := List.mem_singleton.mp h
            subst h
            exact abc_mem.mp hm
    · rintro σ H2 ⟨y4, bs, rfl, hl, hc, k2, B2⟩
      have hb5 : bs.length ≤ 5 := by omega
      refine ⟨.ref b, rfl, b, s, 4, rfl, B2, by decide, by decide, fun r2 H3 _ _ k3 B3 => ?_⟩
      refine ⟨rfl, _, rfl, ite2 (fun c4 => ?_) (fun c4 => ?_)⟩
      · refine ⟨.int n, rfl, n, rfl, by omega, by omega, fun D nD => ?_⟩
        refine lc_range (lo := 0) (n := n.toNat) (fun j H' => Same H3 H' ∧ ∃ zs : List Str, H' D = some (.lst (zs.map V.str)) ∧ zs.length = j ∧ ∀ z ∈ zs, NameOk z) ⟨same_new nD _, [], upd_same, rfl, fun z hz => nomatch hz⟩ (fun j H4 hj hp => ?_) (fun H4 hp => ?_)
        · obtain ⟨s4, zs, hD, lz, hz⟩ := hp
          obtain ⟨c, hat, hlow⟩ := abc_at (i := ((bs.length : Int) + 7 * (0 + j)) % 26) (Int.emod_nonneg _ (by decide)) (Int.emod_lt_of_pos _ (by decide))
          refine ⟨rfl, .str abc, rfl, .str bs, rfl, bs, rfl, sz (by omega), .int (0 + j), rfl, _, _, rfl, rfl, .inl ⟨by decide, by decide⟩, _, _, rfl, rfl, _, _, rfl, rfl, (show (0 : Int) < 26 by decide), abc, _, c, rfl, rfl, sz (by rw [abc_len]; decide), hat, ?_⟩
          refine ⟨.str bs, rfl, bs, rfl, sz (by omega), .int (0 + j), rfl, _, _, rfl, rfl, .inl ⟨by decide, by decide⟩, _, _, rfl, rfl, _, _, rfl, rfl, (show (0 : Int) < 4 by decide), _, _, rfl, rfl, c, _, rfl, rfl, ?_⟩
          have m0 : 0 ≤ ((bs.length : Int) + 5 * (0 + j)) % 4 := Int.emod_nonneg _ (by decide)
          have m1 : ((bs.length : Int) + 5 * (0 + j)) % 4 < 4 := Int.emod_lt_of_pos _ (by decide)
          refine ⟨by omega, by omega, _, hD, ?_, ?_, zs ++ [Txt.mul ⟨#[c]⟩ (1 + ((bs.length : Int) + 5 * (0 + j)) % 4)], ?_, ?_, ?_⟩
          · rw [List.length_map]
            exact szl (by omega)
          · intro a o ha
            rw [upd_ne (ne_of_none ha nD)]
            exact s4 _ _ ha
          · rw [upd_same, List.map_append]
            rfl
          · rw [List.length_append, lz]
            rfl
          · intro z hz'
            rcases List.mem_append.mp hz' with h | h
            · exact hz z h
            · have h := List.mem_singleton.mp h
              subst h
              obtain ⟨u, hu⟩ : ∃ u : Nat, 1 + ((bs.length : Int) + 5 * (0 + j)) % 4 = (u : Int) := ⟨(1 + ((bs.length : Int) + 5 * (0 + j)) % 4).toNat, by omega⟩
              show NameOk (Txt.mul ⟨#[c]⟩ (1 + ((bs.length : Int) + 5 * (0 + j)) % 4))
              rw [hu]
              obtain ⟨v, hv, ev⟩ := mul_codes c u (by omega)
              refine ⟨?_, ?_, ?_⟩
              · rw [str_len, hv, List.length_replicate]
                omega
              · rw [str_len, hv, List.length_replicate]
                omega
              · intro c' hc'
                rw [hv] at hc'
                rw [(List.mem_replicate.mp hc').2]
                exact hlow
        · obtain ⟨s4, zs, hD, lz, hz⟩ := hp
          obtain ⟨yb, hb⟩ := B3.hb
          obtain ⟨ys, hs⟩ := B3.hs
          exact q zs D H4 lz hz ((k2.trans k3).trans (Keep.of s4)) (B3.same s4) ((k2.trans k3).free (ne_of_none hb nD).symm nD) (ne_of_none hb nD).symm (ne_of_none hs nD).symm hD
      · refine ⟨.ref b, rfl, .str bs, rfl, bs, rfl, sz (by omega), _, _, rfl, rfl, b, s, (bs.length : Int) + 1, rfl, B3, by omega, by omega, fun sp H4 sp0 sp1 k4 B4 => ?_⟩
        refine ⟨.ref b, rfl, b, s, 26, rfl, B4, by decide, by decide, fun fi H5 fi0 fi1 k5 B5 => ?_⟩
        refine ⟨.ref b, rfl, (by show 5 ≤ sizeLine; decide), fun l nl => ?_⟩
        obtain ⟨yb, hb⟩ := B5.hb
        refine ⟨b, s, .ref l, rfl, B5.new nl, .inl ⟨l, _, rfl, (ne_of_none hb nl).symm, upd_same, by decide, by decide, fun v H6 hv k6 B6 => ?_⟩⟩
        obtain ⟨st, rfl, st0, st1⟩ : ∃ st : Int, v = .int st ∧ 1 ≤ st ∧ st ≤ 9 := by
          simp only [List.mem_cons, List.not_mem_nil, or_false] at hv
          rcases hv with h | h | h | h | h <;> exact ⟨_, h, by decide, by decide⟩
        refine ⟨(by show 3 ≤ sizeLine; decide), fun t2 nt2 => ?_⟩
        refine ⟨t2, _, rfl, .inl (.inl upd_same), rfl, .int sp, _, rfl, .int fi, _, rfl, .int st, _, rfl, rfl, ?_⟩
        refine ⟨.int n, rfl, n, rfl, by omega, by omega, fun D nD => ?_⟩
        have s7 := same_new nt2 (.tup [.int sp, .int fi, .int st])
        have kk : Keep b H _ := (((((k2.trans k3).trans k4).trans k5).trans (Keep.of (same_new nl _))).trans k6).trans (Keep.of s7)
        have B7 := B6.same s7
        refine lc_range (lo := 0) (n := n.toNat) (fun j H' => Same (upd H6 t2 (.tup [.int sp, .int fi, .int st])) H' ∧ ∃ zs : List Str, H' D = some (.lst (zs.map V.str)) ∧ zs.length = j ∧ ∀ z ∈ zs, NameOk z) ⟨same_new nD _, [], upd_same, rfl, fun z hz => nomatch hz⟩ (fun j H8 hj hp => ?_) (fun H8 hp => ?_)
        · obtain ⟨s8, zs, hD, lz, hz⟩ := hp
          obtain ⟨c, hat, hlow⟩ := abc_at (i := (fi + st * (0 + j)) % 26) (Int.emod_nonneg _ (by decide)) (Int.emod_lt_of_pos _ (by decide))
          have hbl : bs.cps.toList.length = bs.length := (str_len bs).symm
          have e1 : (cutS bs none (some sp)).cps.toList = bs.cps.toList.take sp.toNat := by
            obtain ⟨u, rfl⟩ : ∃ u : Nat, sp = (u : Int) := ⟨sp.toNat, by omega⟩
            rw [cut_codes, HT.sIx_none, HT.sIx_nat, List.drop_zero, Nat.sub_zero, Int.toNat_natCast, Nat.min_eq_left (by omega)]
          have e2 : (cutS bs (some sp) none).cps.toList = bs.cps.toList.drop sp.toNat := by
            obtain ⟨u, rfl⟩ : ∃ u : Nat, sp = (u : Int) := ⟨sp.toNat, by omega⟩
            rw [cut_codes, HT.sIx_none, HT.sIx_nat, Int.toNat_natCast, Nat.min_eq_left (by omega)]
            exact List.take_of_length_le (by rw [List.length_drop, hbl]; exact Nat.le_refl _)
          have l1 : (cutS bs none (some sp)).length ≤ 5 := by rw [str_len, e1, List.length_take]; omega
          have l2 : (cutS bs (some sp) none).length ≤ 5 := by rw [str_len, e2, List.length_drop]; omega
          refine ⟨rfl, .str bs, rfl, .int sp, rfl, sp, rfl, bs, rfl, sz (by omega), .str abc, rfl, .int fi, rfl, .int st, rfl, .int (0 + j), rfl, _, _, rfl, rfl, .inl ⟨by omega, by omega⟩, _, _, rfl, rfl, _, _, rfl, rfl, (show (0 : Int) < 26 by decide), abc, _, c, rfl, rfl, sz (by rw [abc_len]; decide), hat, ?_⟩
          refine ⟨_, _, rfl, rfl, by rw [one_len]; exact sz (by omega), .str bs, rfl, .int sp, rfl, sp, rfl, bs, rfl, sz (by omega), ?_⟩
          have l3 : (cutS bs none (some sp) ++ ⟨#[c]⟩ : Str).length ≤ 6 := by
            rw [str_len, app_codes, List.length_append, ← str_len]
            show _ + 1 ≤ 6
            omega
          refine ⟨_, _, rfl, rfl, sz (by omega), _, hD, ?_, ?_, zs ++ [cutS bs none (some sp) ++ ⟨#[c]⟩ ++ cutS bs (some sp) none], ?_, ?_, ?_⟩
          · rw [List.length_map]
            exact szl (by omega)
          · intro a o ha
            rw [upd_ne (ne_of_none ha nD)]
            exact s8 _ _ ha
          · rw [upd_same, List.map_append]
            rfl
          · rw [List.length_append, lz]
            rfl
          · intro z hz'
            rcases List.mem_append.mp hz' with h | h
            · exact hz z h
            · have h := List.mem_singleton.mp h
              subst h
              have ec : (cutS bs none (some sp) ++ ⟨#[c]⟩ ++ cutS bs (some sp) none : Str).cps.toList = bs.cps.toList.take sp.toNat ++ [c] ++ bs.cps.toList.drop sp.toNat := by
                rw [app_codes, app_codes, e1, e2]
              refine ⟨?_, ?_, ?_⟩
              · rw [str_len, ec, List.length_append, List.length_append]
                show 1 ≤ _ + 1 + _
                omega
              · rw [str_len, ec, List.length_append, List.length_append, List.length_take, List.length_drop]
                show _ + 1 + _ ≤ 6
                omega
              · intro c' hc'
                rw [ec] at hc'
                rcases List.mem_append.mp hc' with h | h
                · rcases List.mem_append.mp h with h | h
                  · exact hc _ (List.mem_of_mem_take h)
                  · rw [List.mem_singleton.mp h]
                    exact hlow
                · exact hc _ (List.mem_of_mem_drop h)
        · obtain ⟨s8, zs, hD, lz, hz⟩ := hp
          obtain ⟨yb7, hb7⟩ := B7.hb
          obtain ⟨ys7, hs7⟩ := B7.hs
          exact q zs D H8 lz hz (kk.trans (Keep.of s8)) (B7.same s8) (kk.free (ne_of_none hb7 nD).symm nD) (ne_of_none hb7 nD).symm (ne_of_none hs7 nD).symm hD
theorem like_all (T : Txt K mg) {k : Nat} : ∀ n : Nat, FnOk P w K mg base CX0 (k + n + 1) T.f_like T.fd_like ["_law_found", "_law_due"] (spLike K n) := by
  intro n
  induction n with
  | zero =>
    refine T.F_like.ok sc_like (fun vs H Q E h => ?_) (fun cdv A outer s H vs Q E hr h => ?_)
    · obtain ⟨x, y, d, rfl, _⟩ := h
      rfl
    · obtain ⟨x, y, d, rfl, hx, hy, ok, q⟩ := h
      have ok : leafD d = true := ok
      have G : FnOk P w K mg base CX0 0 T.f_like T.fd_like ["_law_found", "_law_due"] (fun _ _ _ _ => False) := ⟨fun _ _ _ _ h => h.elim, fun _ _ _ _ _ _ _ _ _ _ _ _ _ h => h.elim⟩
      have hr : Room 0 _ := hr.mono (Nat.zero_le _)
      refine ⟨_, (pss_cons (ps_if (PW.pt (pw_or (pt_cmpR op_ne (pe_callB (id := "isinstance") (r := rIsi K) call_isi (by rfl) T.m_isinstance (by decide +kernel) (pa_cons (pv 1) (pa_cons (pe_bltn (v := .ty "tuple") (by rfl) T.m_tuple (by decide +kernel) rfl) pa_nil))) (pe_callB (id := "isinstance") (r := rIsi K) call_isi (by rfl) T.m_isinstance (by decide +kernel) (pa_cons (pv 0) (pa_cons (pe_bltn (v := .ty "tuple") (by rfl) T.m_tuple (by decide +kernel) rfl) pa_nil))) (nomark _)) (pw_or1 (pt_cmpR op_ne (pe_callB (id := "isinstance") (r := rIsi K) call_isi (by rfl) T.m_isinstance (by decide +kernel) (pa_cons (pv 1) (pa_cons (pe_bltn (v := .ty "list") (by rfl) T.m_list (by decide +kernel) rfl) pa_nil))) (pe_callB (id := "isinstance") (r := rIsi K) call_isi (by rfl) T.m_isinstance (by decide +kernel) (pa_cons (pv 0) (pa_cons (pe_bltn (v := .ty "list") (by rfl) T.m_list (by decide +kernel) rfl) pa_nil))) (nomark _))))) (pss_one (ps_ret pe_bl)) pss_nil)
      (pss_cons (ps_if (pt_not (pt_val (pe_callB (id := "isinstance") (r := rIsiT K) call_isiT (by rfl) T.m_isinstance (by decide +kernel) (pa_cons (pv 1) (pa_cons (pe_tup (pa_cons (pe_bltn (v := .ty "tuple") (by rfl) T.m_tuple (by decide +kernel) rfl) (pa_cons (pe_bltn (v := .ty "list") (by rfl) T.m_list (by decide +kernel) rfl) pa_nil))) pa_nil))))) (pss_one (ps_ret (pe_and (pe_cmpR op_eq (pe_callB (id := "isinstance") (r := rIsi K) call_isi (by rfl) T.m_isinstance (by decide +kernel) (pa_cons (pv 0) (pa_cons (pe_bltn (v := .ty "bool") (by rfl) T.m_bool (by decide +kernel) rfl) pa_nil))) (pe_callB (id := "isinstance") (r := rIsi K) call_isi (by rfl) T.m_isinstance (by decide +kernel) (pa_cons (pv 1) (pa_cons (pe_bltn (v := .ty "bool") (by rfl) T.m_bool (by decide +kernel) rfl) pa_nil))) (nomark _)) (pe_one (pe_cmpR op_eq (pv 0) (pv 1) (nomark _)))))) pss_nil)
      (pss_one (ps_ret (pe_and (pe_cmpR op_eq (pe_callB (id := "len") (r := RK.rLenQ K) RK.call_lenQ (by rfl) T.m_len (by decide +kernel) (pa_cons (pv 0) pa_nil)) (pe_callB (id := "len") (r := RK.rLenQ K) RK.call_lenQ (by rfl) T.m_len (by decide +kernel) (pa_cons (pv 1) pa_nil)) (nomark _)) (pe_one (pe_callB (id := "all") (r := rAll K) (cr_all rfl) (by rfl) T.m_all (by decide +kernel) (pa_cons (pe_lc (own := [("_law_k", 2)]) (g := gName 2) (tt := tYes) (by rfl) sc_like.nd (pi_range1 (by rfl) T.m_range (pa_cons (pe_callB (id := "len") (r := RK.rLenQ K) RK.call_lenQ (by rfl) T.m_len (by decide +kernel) (pa_cons (pv 1) pa_nil)) pa_nil)) (blkOk_by (own := [("_law_k", 2)]) (N := ["_law_found", "_law_due", "_law_k"]) (sc := defScope s_like) (by decide +kernel)) (fun _ _ _ _ _ => (pg_name (i := 2) sc_like.nd rfl (Or.inl rfl))) (fun _ _ _ _ _ => pts_nil) (fun _ _ _ _ _ => (pe_call G hr (by rfl) T.g_like T.F_like.kp T.b_like .nil pass0 (pa_cons (pe_ix (r := rIx K) ix_seq (pv 0) (pv 2) (fun _ _ => rfl)) (pa_cons (pe_ix (r := rIx K) ix_seq (pv 1) (pv 2) (fun _ _ => rfl)) pa_nil))))) pa_nil)))))))), ?_⟩
      refine ⟨y, rfl, y, .ty "tuple", _, _, isT d, rfl, .ty _, ty_of hy, kT d, x, rfl, x, .ty "tuple", _, _, isT d, rfl, .ty _, ty_of hx, kT d, rfl, _, rfl, iteNS rfl ?_⟩
      refine ⟨y, rfl, y, .ty "list", _, _, isL d, rfl, .ty _, ty_of hy, kL d, x, rfl, x, .ty "list", _, _, isL d, rfl, .ty _, ty_of hx, kL d, rfl, _, rfl, iteNS rfl ?_⟩
      refine ⟨y, rfl, (by show 2 ≤ sizeLine; decide), fun t nt => ?_⟩
      have s1 := same_new nt (.tup [.ty "tuple", .ty "list"])
      refine ⟨y, t, _, _, _, _, rfl, upd_same, .cons (.ty _) (.cons (.ty _) .nil), ty_of (dp_same s1 hy), kTL d, _, rfl, ?_⟩
      have e1 : (isT d || isL d) = false := by cases d <;> first | rfl | cases ok
      rw [e1]
      refine iteT ?_
      refine ⟨x, rfl, x, .ty "bool", _, _, isB d, rfl, .ty _, ty_of (dp_same s1 hx), kB d, y, rfl, y, .ty "bool", _, _, isB d, rfl, .ty _, ty_of (dp_same s1 hy), kB d, rfl, _, rfl, ?_⟩
      rw [decide_eq_true rfl]
      refine iteT ⟨x, rfl, y, rfl, ?_⟩
      have e2 : x = y ∧ scal x y = true := by
        cases hx with
        | non => cases hy; exact ⟨rfl, rfl⟩
        | bl b => cases hy; exact ⟨rfl, rfl⟩
        | int i => cases hy; exact ⟨rfl, rfl⟩
        | str z => cases hy; exact ⟨rfl, rfl⟩
        | lst _ _ => cases ok
        | tup _ _ => cases ok
      refine ⟨e2.2, ?_⟩
      rw [decide_eq_true e2.1]
      exact q _ s1
  | succ n G =>
    refine T.F_like.ok sc_like (fun vs H Q E h => ?_) (fun cdv A outer s H vs Q E hr h => ?_)
    · obtain ⟨x, y, d, rfl, _⟩ := h
      rfl
    · obtain ⟨x, y, d, rfl, hx, hy, ok, q⟩ := h
      refine ⟨_, (pss_cons (ps_if (PW.pt (pw_or (pt_cmpR op_ne (pe_callB (id := "isinstance") (r := rIsi K) call_isi (by rfl) T.m_isinstance (by decide +kernel) (pa_cons (pv 1) (pa_cons (pe_bltn (v := .ty "tuple") (by rfl) T.m_tuple (by decide +kernel) rfl) pa_nil))) (pe_callB (id := "isinstance") (r := rIsi K) call_isi (by rfl) T.m_isinstance (by decide +kernel) (pa_cons (pv 0) (pa_cons (pe_bltn (v := .ty "tuple") (by rfl) T.m_tuple (by decide +kernel) rfl) pa_nil))) (nomark _)) (pw_or1 (pt_cmpR op_ne (pe_callB (id := "isinstance") (r := rIsi K) call_isi (by rfl) T.m_isinstance (by decide +kernel) (pa_cons (pv 1) (pa_cons (pe_bltn (v := .ty "list") (by rfl) T.m_list (by decide +kernel) rfl) pa_nil))) (pe_callB (id := "isinstance") (r := rIsi K) call_isi (by rfl) T.m_isinstance (by decide +kernel) (pa_cons (pv 0) (pa_cons (pe_bltn (v := .ty "list") (by rfl) T.m_list (by decide +kernel) rfl) pa_nil))) (nomark _))))) (pss_one (ps_ret pe_bl)) pss_nil)
      (pss_cons (ps_if (pt_not (pt_val (pe_callB (id := "isinstance") (r := rIsiT K) call_isiT (by rfl) T.m_isinstance (by decide +kernel) (pa_cons (pv 1) (pa_cons (pe_tup (pa_cons (pe_bltn (v := .ty "tuple") (by rfl) T.m_tuple (by decide +kernel) rfl) (pa_cons (pe_bltn (v := .ty "list") (by rfl) T.m_list (by decide +kernel) rfl) pa_nil))) pa_nil))))) (pss_one (ps_ret (pe_and (pe_cmpR op_eq (pe_callB (id := "isinstance") (r := rIsi K) call_isi (by rfl) T.m_isinstance (by decide +kernel) (pa_cons (pv 0) (pa_cons (pe_bltn (v := .ty "bool") (by rfl) T.m_bool (by decide +kernel) rfl) pa_nil))) (pe_callB (id := "isinstance") (r := rIsi K) call_isi (by rfl) T.m_isinstance (by decide +kernel) (pa_cons (pv 1) (pa_cons (pe_bltn (v := .ty "bool") (by rfl) T.m_bool (by decide +kernel) rfl) pa_nil))) (nomark _)) (pe_one (pe_cmpR op_eq (pv 0) (pv 1) (nomark _)))))) pss_nil)
      (pss_one (ps_ret (pe_and (pe_cmpR op_eq (pe_callB (id := "len") (r := RK.rLenQ K) RK.call_lenQ (by rfl) T.m_len (by decide +kernel) (pa_cons (pv 0) pa_nil)) (pe_callB (id := "len") (r := RK.rLenQ K) RK.call_lenQ (by rfl) T.m_len (by decide +kernel) (pa_cons (pv 1) pa_nil)) (nomark _)) (pe_one (pe_callB (id := "all") (r := rAll K) (cr_all rfl) (by rfl) T.m_all (by decide +kernel) (pa_cons (pe_lc (own := [("_law_k", 2)]) (g := gName 2) (tt := tYes) (by rfl) sc_like.nd (pi_range1 (by rfl) T.m_range (pa_cons (pe_callB (id := "len") (r := RK.rLenQ K) RK.call_lenQ (by rfl) T.m_len (by decide +kernel) (pa_cons (pv 1) pa_nil)) pa_nil)) (blkOk_by (own := [("_law_k", 2)]) (N := ["_law_found", "_law_due", "_law_k"]) (sc := defScope s_like) (by decide +kernel)) (fun _ _ _ _ _ => (pg_name (i := 2) sc_like.nd rfl (Or.inl rfl))) (fun _ _ _ _ _ => pts_nil) (fun _ _ _ _ _ => (pe_call G hr (by rfl) T.g_like T.F_like.kp T.b_like .nil pass0 (pa_cons (pe_ix (r := rIx K) ix_seq (pv 0) (pv 2) (fun _ _ => rfl)) (pa_cons (pe_ix (r := rIx K) ix_seq (pv 1) (pv 2) (fun _ _ => rfl)) pa_nil))))) pa_nil)))))))), ?_⟩
      refine ⟨y, rfl, y, .ty "tuple", _, _, isT d, rfl, .ty _, ty_of hy, kT d, x, rfl, x, .ty "tuple", _, _, isT d, rfl, .ty _, ty_of hx, kT d, rfl, _, rfl, iteNS rfl ?_⟩
      refine ⟨y, rfl, y, .ty "list", _, _, isL d, rfl, .ty _, ty_of hy, kL d, x, rfl, x, .ty "list", _, _, isL d, rfl, .ty _, ty_of hx, kL d, rfl, _, rfl, iteNS rfl ?_⟩
      refine ⟨y, rfl, (by show 2 ≤ sizeLine; decide), fun t nt => ?_⟩
      have s1 := same_new nt (.tup [.ty "tuple", .ty "list"])
      refine ⟨y, t, _, _, _, _, rfl, upd_same, .cons (.ty _) (.cons (.ty _) .nil), ty_of (dp_same s1 hy), kTL d, _, rfl, ?_⟩
      by_cases hd : leafD d = true
      · have e1 : (isT d || isL d) = false := by cases d <;> first | rfl | cases hd
        rw [e1]
        refine iteT ?_
        refine ⟨x, rfl, x, .ty "bool", _, _, isB d, rfl, .ty _, ty_of (dp_same s1 hx), kB d, y, rfl, y, .ty "bool", _, _, isB d, rfl, .ty _, ty_of (dp_same s1 hy), kB d, rfl, _, rfl, ?_⟩
        rw [decide_eq_true rfl]
        refine iteT ⟨x, rfl, y, rfl, ?_⟩
        have e2 : x = y ∧ scal x y = true := by
          cases hx with
          | non => cases hy; exact ⟨rfl, rfl⟩
          | bl b => cases hy; exact ⟨rfl, rfl⟩
          | int i => cases hy; exact ⟨rfl, rfl⟩
          | str z => cases hy; exact ⟨rfl, rfl⟩
          | lst _ _ => cases hd
          | tup _ _ => cases hd
        refine ⟨e2.2, ?_⟩
        rw [decide_eq_true e2.1]
        exact q _ s1
      · -- a list or a tuple
        obtain ⟨p1, p2, xs, ys, ds, rfl, rfl, a1, a2, hl, hk, sq1, sq2, e1⟩ : ∃ (p1 p2 : Addr) (xs ys : List V) (ds : List PyData), x = .ref p1 ∧ y = .ref p2 ∧ DpAll K H xs ds ∧ DpAll K H ys ds ∧ ds.length ≤ 1000 ∧ (∀ d' ∈ ds, okD n d' = true) ∧
            (∀ H', Same H H' → SqL K H' p1 xs ∨ SqT K H' p1 xs) ∧ (∀ H', Same H H' → SqL K H' p2 ys ∨ SqT K H' p2 ys) ∧ (isT d || isL d) = true := by
          cases hx with
          | non => exact absurd rfl hd
          | bl b => exact absurd rfl hd
          | int i => exact absurd rfl hd
          | str z => exact absurd rfl hd
          | lst h1 a1 =>
            cases hy with
            | lst h2 a2 =>
              have ok2 := Bool.and_eq_true_iff.mp ok
              exact ⟨_, _, _, _, _, rfl, rfl, a1, a2, of_decide_eq_true ok2.1, List.all_eq_true.mp ok2.2, fun H' e => .inl (e.seq h1), fun H' e => .inl (e.seq h2), rfl⟩
          | tup h1 a1 =>
            cases hy with
            | tup h2 a2 =>
              have ok2 := Bool.and_eq_true_iff.mp ok
              exact ⟨_, _, _, _, _, rfl, rfl, a1, a2, of_decide_eq_true ok2.1, List.all_eq_true.mp ok2.2, fun H' e => .inr (same_tup e h1), fun H' e => .inr (same_tup e h2), rfl⟩
        rw [e1]
        refine iteF ?_
        have l1 := dpAll_len a1
        have l2 := dpAll_len a2
        refine ⟨.ref p1, rfl, p1, xs, rfl, sq1 _ s1, .ref p2, rfl, p2, ys, rfl, sq2 _ s1, rfl, _, rfl, ?_⟩
        rw [decide_eq_true (by rw [l1, l2])]
        refine iteT ⟨.ref p2, rfl, p2, ys, rfl, sq2 _ s1, _, rfl, (by omega), (by omega), fun D nD => ?_⟩
        have s2 := same_new nD (.lst [])
        refine lc_range (lo := 0) (n := ((ys.length : Nat) : Int).toNat) (fun i H' => Same H H' ∧ H' D = some (.lst (List.replicate i (.bl true)))) ⟨s1.trans s2, upd_same⟩ (fun i H' hi hp => ?_) (fun H' hp => ?_)
        · obtain ⟨hs, hD⟩ := hp
          have hi : i < ds.length := by omega
          have gd : ds[i]? = some ds[i] := List.getElem?_eq_getElem hi
          obtain ⟨v1, g1, d1⟩ := dpAll_at a1 gd
          obtain ⟨v2, g2, d2⟩ := dpAll_at a2 gd
          have ei : (0 : Int) + (i : Int) = (i : Int) := by omega
          rw [ei]
          have at1' : atI xs (i : Int) = some v1 := atI_nat g1
          have at2' : atI ys (i : Int) = some v2 := atI_nat g2
          refine ⟨rfl, .ref p1, rfl, .int i, rfl, ?_⟩
          have fin : spLike K n [v1, v2] H' (fun y H4 => ∃ acc, H4 D = some (.lst acc) ∧ acc.length < sizeLine ∧ (Same H (upd H4 D (.lst (acc ++ [y]))) ∧ upd H4 D (.lst (acc ++ [y])) D = some (.lst (List.replicate (i + 1) (.bl true))))) E := by
            refine ⟨v1, v2, ds[i], rfl, dp_same hs d1, dp_same hs d2, hk _ (List.getElem_mem hi), fun H4 e4 => ⟨_, e4 _ _ hD, ?_, ?_, ?_⟩⟩
            · rw [List.length_replicate]
              exact szl (by omega)
            · exact fun a o h => by
                rw [upd_ne (ne_of_none (s1 _ _ h) nD)]
                exact e4 _ _ (hs _ _ h)
            · rw [upd_same, List.replicate_succ']
          have two : ∀ (Q2 : VK), (∀ H5, H5 = H' → Q2 v2 H5) → rIx K (.ref p2) (.int i) H' Q2 := fun Q2 q2 => by
            rcases sq2 H' hs with h | h
            · exact .inl ⟨p2, ys, i, v2, rfl, rfl, h, at2', q2 _ rfl⟩
            · exact .inr (.inl ⟨p2, ys, i, v2, rfl, rfl, h, at2', q2 _ rfl⟩)
          rcases sq1 H' hs with h | h
          · exact .inl ⟨p1, xs, i, v1, rfl, rfl, h, at1', .ref p2, rfl, .int i, rfl, two _ fun H5 e5 => by subst e5; exact fin⟩
          · exact .inr (.inl ⟨p1, xs, i, v1, rfl, rfl, h, at1', .ref p2, rfl, .int i, rfl, two _ fun H5 e5 => by subst e5; exact fin⟩)
        · obtain ⟨hs, hD⟩ := hp
          refine ⟨D, List.replicate ((ys.length : Nat) : Int).toNat true, rfl, .inl (.inl ?_), ?_⟩
          · rw [hD, List.map_replicate]
          · rw [show (List.replicate ((ys.length : Nat) : Int).toNat true).all id = true by simp]
            exact q _ hs
theorem ok_like (T : Txt K mg) {k : Nat} : FnOk P w K mg base CX0 (k + 5) T.f_like T.fd_like ["_law_found", "_law_due"] (spLike K 4) := like_all T 4
theorem ok_rectangle (T : Txt K mg) {k : Nat} : FnOk P w K mg base CX0 (k + 2) T.f_rectangle T.fd_rectangle ["_law_bag_here", "_law_scale"] spRect := by
  refine T.F_rectangle.ok sc_rectangle (fun vs H Q E h => ?_) (fun cdv A outer s H vs Q E hr h => ?_)
  · obtain ⟨b, s, c, rfl, _⟩ := h
    rfl
  · obtain ⟨b, s, c, rfl, B, c1, c2, q⟩ := h
    refine ⟨_, (pss_cons (ps_par (i := 2) (j := 3) (by rfl) sc_rectangle.nd rfl rfl (by decide) rfl rfl (pa_cons (pe_op op_sub (pe_call (ok_pull T) hr (by rfl) T.g_pull T.F_pull.kp T.b_pull .nil pass0 (pa_cons (pv 0) (pa_cons pe_int pa_nil))) pe_int) (pa_cons (pe_op op_sub (pe_call (ok_pull T) hr (by rfl) T.g_pull T.F_pull.kp T.b_pull .nil pass0 (pa_cons (pv 0) (pa_cons pe_int pa_nil))) pe_int) pa_nil)) (by rfl))
      (pss_cons (ps_par (i := 4) (j := 5) (by rfl) sc_rectangle.nd rfl rfl (by decide) rfl rfl (pa_cons (pe_op op_add (pe_op op_add (pv 2) pe_int) (pe_call (ok_pull T) hr (by rfl) T.g_pull T.F_pull.kp T.b_pull .nil pass0 (pa_cons (pv 0) (pa_cons pe_int pa_nil)))) (pa_cons (pe_op op_add (pe_op op_add (pv 3) pe_int) (pe_call (ok_pull T) hr (by rfl) T.g_pull T.F_pull.kp T.b_pull .nil pass0 (pa_cons (pv 0) (pa_cons pe_int pa_nil)))) pa_nil)) (by rfl))
      (pss_one (ps_ret (pe_tup (pa_cons (pe_op op_mul (pv 1) (pv 2)) (pa_cons (pe_op op_mul (pv 1) (pv 3)) (pa_cons (pe_op op_mul (pv 1) (pv 4)) (pa_cons (pe_op op_mul (pv 1) (pv 5)) pa_nil))))))))), ?_⟩
    refine ⟨.ref b, rfl, b, s, 9, rfl, B, by decide, by decide, fun r1 H1 a1 a2 k1 B1 => ?_⟩
    refine ⟨_, _, rfl, rfl, .ref b, rfl, b, s, 9, rfl, B1, by decide, by decide, fun r2 H2 a3 a4 k2 B2 => ?_⟩
    refine ⟨_, _, rfl, rfl, _, _, rfl, ?_⟩
    refine ⟨.int (r1 - 4), rfl, _, _, rfl, rfl, .ref b, rfl, b, s, 4, rfl, B2, by decide, by decide, fun r3 H3 a5 a6 k3 B3 => ?_⟩
    refine ⟨_, _, rfl, rfl, .int (r2 - 4), rfl, _, _, rfl, rfl, .ref b, rfl, b, s, 4, rfl, B3, by decide, by decide, fun r4 H4 a7 a8 k4 B4 => ?_⟩
    refine ⟨_, _, rfl, rfl, _, _, rfl, ?_⟩
    have hc : -(2 ^ 64) < c ∧ c < 2 ^ 64 := ⟨by omega, by omega⟩
    refine ⟨.int c, rfl, .int (r1 - 4), rfl, _, _, rfl, rfl, .inl hc, .int c, rfl, .int (r2 - 4), rfl, _, _, rfl, rfl, .inl hc, .int c, rfl, .int (r1 - 4 + 1 + r3), rfl, _, _, rfl, rfl, .inl hc, .int c, rfl, .int (r2 - 4 + 1 + r4), rfl, _, _, rfl, rfl, .inl hc, (by show 4 ≤ sizeLine; decide), fun p np => ?_⟩
    have kk := ((k1.trans k2).trans k3).trans k4
    obtain ⟨ys, hb⟩ := B4.hb
    refine q (r1 - 4) (r2 - 4) (r1 - 4 + 1 + r3) (r2 - 4 + 1 + r4) _ p (kk.trans (Keep.of (same_new np _))) (B4.new np) (kk.free (ne_of_none hb np).symm np) upd_same (by omega) (by omega) (by omega) (by omega) (by omega) (by omega) (by omega) (by omega)
theorem ok_windows (T : Txt K mg) {k : Nat} : FnOk P w K mg base CX0 (k + 4) T.f_windows T.fd_windows ["_law_bag_here", "_law_least", "_law_most"] spWindows := by
  refine T.F_windows.ok sc_windows (fun vs H Q E h => ?_) (fun cdv A outer s H vs Q E hr h => ?_)
  · obtain ⟨b, s, hi, rfl, _⟩ := h
    rfl
  · obtain ⟨b, s, hi, rfl, B, h1, h2, q⟩ := h
    refine ⟨_, (pss_cons (ps_set (i := 3) sc_windows.nd rfl (.inl rfl) (pe_call (ok_mixed T) hr (by rfl) T.g_mixed T.F_mixed.kp T.b_mixed .nil pass0 (pa_cons (pv 0) (pa_cons (pe_call (ok_names T) hr (by rfl) T.g_names T.F_names.kp T.b_names .nil pass0 (pa_cons (pv 0) (pa_cons (pe_op op_add (pv 1) (pe_call (ok_pull T) hr (by rfl) T.g_pull T.F_pull.kp T.b_pull .nil pass0 (pa_cons (pv 0) (pa_cons (pe_op op_add (pe_op op_sub (pv 2) (pv 1)) pe_int) pa_nil)))) pa_nil))) pa_nil))))
      (pss_cons (ps_asg (pe_tup (pa_cons (pe_call (ok_of T) hr (by rfl) T.g_of T.F_of.kp T.b_of .nil pass0 (pa_cons (pv 0) (pa_cons (pe_lst (pa_cons pe_int (pa_cons pe_int (pa_cons pe_int (pa_cons (pe_op op_pow pe_int pe_int) pa_nil))))) pa_nil))) (pa_cons (pe_call (ok_pull T) hr (by rfl) T.g_pull T.F_pull.kp T.b_pull .nil pass0 (pa_cons (pv 0) (pa_cons pe_int pa_nil))) pa_nil))) (pg_tup (by rfl) (pgs_cons (pg_name (i := 4) sc_windows.nd rfl (.inr rfl)) (pgs_cons (pg_name (i := 5) sc_windows.nd rfl (.inr rfl)) pgs_nil))))
      (pss_cons (ps_set (i := 6) sc_windows.nd rfl (.inr rfl) (pe_call (ok_rectangle T) hr (by rfl) T.g_rectangle T.F_rectangle.kp T.b_rectangle .nil pass0 (pa_cons (pv 0) (pa_cons (pv 4) pa_nil))))
      (pss_cons (ps_setLc (i := 7) (own := [("_law_name_z", 8)]) (g := gName 8) (tt := tYes) (by rfl) sc_windows.nd rfl rfl (sw_true rfl rfl rfl (by decide +kernel)) (pi_list (pv 3)) (blkOk_by (own := [("_law_name_z", 8)]) (N := ["_law_bag_here", "_law_least", "_law_most", "_law_names_here", "_law_scale", "_law_way", "_law_one", "_law_rects", "_law_name_z"]) (sc := defScope s_windows) (by decide +kernel)) (fun _ _ _ _ _ => (pg_name (i := 8) sc_windows.nd rfl (Or.inl rfl))) (fun _ _ _ _ _ => pts_nil) (fun _ _ _ _ _ => (pe_ifExp (PW.pt (pw_or (pt_cmpR op_eq (pv 5) pe_int (nomark _)) (pw_or1 (PW.pt (pw_and (pt_cmpR op_eq (pv 5) pe_int (nomark _)) (pw_and1 (pt_cmpR op_eq (pe_call (ok_pull T) hr (by rfl) T.g_pull T.F_pull.kp T.b_pull .nil pass0 (pa_cons (pv 0) (pa_cons pe_int pa_nil))) pe_int (nomark _)))))))) (pv 6) (pe_call (ok_rectangle T) hr (by rfl) T.g_rectangle T.F_rectangle.kp T.b_rectangle .nil pass0 (pa_cons (pv 0) (pa_cons (pv 4) pa_nil))))))
      (pss_one (ps_ret (RK.pe_dictZip (by rfl) (by rfl) T.m_dict (by rfl) T.m_zip (pa_cons (pv 3) (pa_cons (pv 7) pa_nil))))))))), ?_⟩
    -- names
    refine ⟨.ref b, rfl, .ref b, rfl, .int 1, rfl, .ref b, rfl, .int hi, rfl, .int 1, rfl, _, _, rfl, rfl, _, _, rfl, rfl, b, s, hi - 1 + 1, rfl, B, by omega, by omega, fun r H1 r0 r1 k1 B1 => ?_⟩
    refine ⟨_, _, rfl, rfl, b, s, 1 + r, rfl, B1, by omega, by omega, fun zs l H2 lz hz k2 B2 nl lb ls hl => ?_⟩
    refine ⟨b, s, l, _, rfl, B2, lb, hl, by rw [List.length_map]; omega, fun ys m H3 py k3 B3 nm mb ms hm => ?_⟩
    obtain ⟨zs', rfl, pz⟩ : ∃ zs' : List Str, ys = zs'.map V.str ∧ zs'.Perm zs := by
      have key : ∀ (ys : List V) (zs : List Str), ys.Perm (zs.map V.str) → ∃ zs' : List Str, ys = zs'.map V.str ∧ zs'.Perm zs := by
        intro ys
        induction ys with
        | nil =>
          intro zs h
          have e := List.nil_perm.mp h
          exact ⟨[], rfl, by rw [List.map_eq_nil_iff.mp e]⟩
        | cons y ys ih =>
          intro zs h
          obtain ⟨z, hz, rfl⟩ := List.mem_map.mp (h.mem_iff.mp List.mem_cons_self)
          obtain ⟨l1, l2, rfl⟩ := List.append_of_mem hz
          have pm : (l1 ++ z :: l2).Perm (z :: (l1 ++ l2)) := List.perm_middle
          obtain ⟨zs', e, p'⟩ := ih (l1 ++ l2) ((List.perm_cons _).mp (h.trans (pm.map V.str)))
          exact ⟨z :: zs', by rw [e]; rfl, (p'.cons z).trans pm.symm⟩
      exact key ys zs py
    have hz' : ∀ z ∈ zs', NameOk z := fun z h => hz z (pz.mem_iff.mp h)
    have lz' : zs'.length = (1 + r).toNat := by rw [pz.length_eq, lz]
    -- scale, way
    refine ⟨.ref b, rfl, _, _, rfl, rfl, ⟨by decide, by decide, by decide⟩, (by show 4 ≤ sizeLine; decide), fun sl nsl => ?_⟩
    obtain ⟨yb3, hb3⟩ := B3.hb
    refine ⟨b, s, .ref sl, rfl, B3.new nsl, .inl ⟨sl, _, rfl, (ne_of_none hb3 nsl).symm, upd_same, by show 1 ≤ 4; decide, by show 4 ≤ 1000; decide, fun v H4 hv k4 B4 => ?_⟩⟩
    obtain ⟨c, rfl, c0, c1⟩ : ∃ c : Int, v = .int c ∧ 1 ≤ c ∧ c ≤ 100000000 := by
      simp only [List.mem_cons, List.not_mem_nil, or_false] at hv
      rcases hv with h | h | h | h
      · exact ⟨1, h, by decide, by decide⟩
      · exact ⟨1, h, by decide, by decide⟩
      · exact ⟨3, h, by decide, by decide⟩
      · exact ⟨100000000, h.trans (congrArg V.int (by decide)), by decide, by decide⟩
    refine ⟨.ref b, rfl, b, s, 4, rfl, B4, by decide, by decide, fun way H5 w0 w1 k5 B5 => ?_⟩
    refine ⟨(by show 2 ≤ sizeLine; decide), fun t nt => ?_⟩
    have s6 := same_new nt (.tup [.int c, .int way])
    refine ⟨t, _, rfl, .inl (.inl upd_same), rfl, .int c, _, rfl, .int way, _, rfl, rfl, ?_⟩
    -- one
    refine ⟨.ref b, rfl, .int c, rfl, b, s, c, rfl, B5.same s6, c0, c1, fun x y x2 y2 H7 o k7 B7 no ho a1 a2 a3 a4 a5 a6 a7 a8 => ?_⟩
    have g0 : (R.mk (c * x) (c * y) (c * x2) (c * y2)).good := good_scaled c0 c1 a1 a2 a3 a4 a5 a6 a7 a8
    have kk : Keep b H H7 := ((((((k1.trans k2).trans k3).trans (Keep.of (same_new nsl _))).trans k4).trans k5).trans (Keep.of s6)).trans k7
    have hm7 : H7 m = some (.lst (zs'.map V.str)) := k7 _ _ mb (s6 _ _ (k5 _ _ mb (k4 _ _ mb ((same_new nsl _) _ _ hm))))
    -- rects
    refine ⟨.ref m, rfl, m, rfl, ⟨_, SqL.of hm7⟩, fun D nD => ?_⟩
    obtain ⟨yb7, hb7⟩ := B7.hb
    obtain ⟨ys7, hs7⟩ := B7.hs
    have Db : D ≠ b := (ne_of_none hb7 nD).symm
    have Ds : D ≠ s := (ne_of_none hs7 nD).symm
    refine lc_list (xs := zs'.map V.str) (fun j H' => Keep b H7 H' ∧ Bag b s H' ∧ ∃ rs : List (Addr × R), H' D = some (.lst (rs.map fun r => .ref r.1)) ∧ rs.length = j ∧ ∀ r ∈ rs, H' r.1 = some (.tup r.2.vs) ∧ r.2.good)
      ⟨Keep.of (same_new nD _), B7.new nD, [], upd_same, rfl, fun r hr => nomatch hr⟩ (fun j H' _ hp => SqL.of (hp.1 _ _ mb hm7)) (fun j v H8 hv hp => ?_) (fun H8 hp => ?_)
    · obtain ⟨k8, B8, rs, hD, lr, hrs⟩ := hp
      have hj := (List.getElem?_eq_some_iff.mp hv).1
      rw [List.length_map] at hj
      have fin : ∀ (H9 : Hp) (a : Addr) (p : R), Keep b H8 H9 → Bag b s H9 → H9 a = some (.tup p.vs) → p.good → ∃ acc, H9 D = some (.lst acc) ∧ acc.length < sizeLine ∧ (Keep b H7 (upd H9 D (.lst (acc ++ [.ref a]))) ∧ Bag b s (upd H9 D (.lst (acc ++ [.ref a]))) ∧ ∃ rs : List (Addr × R), upd H9 D (.lst (acc ++ [.ref a])) D = some (.lst (rs.map fun r => .ref r.1)) ∧ rs.length = j + 1 ∧ ∀ r ∈ rs, upd H9 D (.lst (acc ++ [.ref a])) r.1 = some (.tup r.2.vs) ∧ r.2.good) := by
        intro H9 a p k9 B9 ha hg
        have hD9 := k9 _ _ Db hD
        refine ⟨_, hD9, ?_, ?_, B9.upd Db Ds, rs ++ [(a, p)], ?_, ?_, ?_⟩
        · rw [List.length_map]
          exact szl (by omega)
        · intro x' o' nx hx
          rw [upd_ne (ne_of_none hx nD)]
          exact k9 _ _ nx (k8 _ _ nx hx)
        · rw [upd_same, List.map_append]
          rfl
        · rw [List.length_append, lr]
          rfl
        · intro r' hr'
          rcases List.mem_append.mp hr' with h | h
          · have h9 := k9.of_tup B8 (hrs r' h).1
            refine ⟨?_, (hrs r' h).2⟩
            rw [upd_ne (ne_of h9 hD9 (by intro z; cases z))]
            exact h9
          · have h := List.mem_singleton.mp h
            subst h
            refine ⟨?_, hg⟩
            show upd H9 D _ a = _
            rw [upd_ne (ne_of ha hD9 (by intro z; cases z))]
            exact ha
      have ho8 := k8.of_tup B7 ho
      have other : ∀ (H9 : Hp), Keep b H8 H9 → Bag b s H9 → spRect [.ref b, .int c] H9 (fun y H4 => ∃ acc, H4 D = some (.lst acc) ∧ acc.length < sizeLine ∧ (Keep b H7 (upd H4 D (.lst (acc ++ [y]))) ∧ Bag b s (upd H4 D (.lst (acc ++ [y]))) ∧ ∃ rs : List (Addr × R), upd H4 D (.lst (acc ++ [y])) D = some (.lst (rs.map fun r => .ref r.1)) ∧ rs.length = j + 1 ∧ ∀ r ∈ rs, upd H4 D (.lst (acc ++ [y])) r.1 = some (.tup r.2.vs) ∧ r.2.good)) E0 := by
        intro H9 k9 B9
        exact ⟨b, s, c, rfl, B9, c0, c1, fun x y x2 y2 H10 o2 k10 B10 _ ho2 a1 a2 a3 a4 a5 a6 a7 a8 => fin H10 o2 _ (k9.trans k10) B10 ho2 (good_scaled c0 c1 a1 a2 a3 a4 a5 a6 a7 a8)⟩
      refine ⟨rfl, .int way, rfl, rfl, _, rfl, ite2 (fun e1 => ?_) (fun e1 => ?_)⟩
      · exact ⟨.ref o, rfl, fin H8 o _ (Keep.refl b H8) B8 ho8 g0⟩
      · refine ⟨.int way, rfl, rfl, _, rfl, ite2 (fun e2 => ?_) (fun e2 => ?_)⟩
        · refine ⟨.ref b, rfl, b, s, 2, rfl, B8, by decide, by decide, fun r3 H9 _ _ k9 B9 => ?_⟩
          refine ⟨rfl, _, rfl, ite2 (fun e3 => ?_) (fun e3 => ?_)⟩
          · exact ⟨.ref o, rfl, fin H9 o _ k9 B9 (k9.of_tup B8 ho8) g0⟩
          · exact ⟨.ref b, rfl, .int c, rfl, other H9 k9 B9⟩
        · exact iteF ⟨.ref b, rfl, .int c, rfl, other H8 (Keep.refl b H8) B8⟩
    · obtain ⟨k8, B8, rs, hD, lr, hrs⟩ := hp
      rw [List.length_map] at lr
      refine ⟨.ref m, rfl, .ref D, rfl, m, D, zs'.map Sum.inr, _, rfl, ?_, SqL.of hD, by rw [List.length_map, List.length_map, lr], fun d nd => ?_⟩
      · rw [List.map_map]
        exact SqL.of (k8 _ _ mb hm7)
      · have ez : (zs'.map (Sum.inr : Str → Key)).zip (rs.map fun r => V.ref r.1) = ((zs'.zip rs).map fun p => ((p.1, p.2.1, p.2.2) : W3)).map kvOf := by
          rw [List.zip_map, List.map_map]
          rfl
        rw [ez, show mergeK [] _ = _ from merge_kv _ []]
        have mem : ∀ w ∈ (zs'.zip rs).map (fun p => ((p.1, p.2.1, p.2.2) : W3)), NameOk w.1 ∧ H8 w.2.1 = some (.tup w.2.2.vs) ∧ w.2.2.good := by
          intro w hw
          obtain ⟨⟨z, r⟩, hp, rfl⟩ := List.mem_map.mp hw
          have hp' := List.of_mem_zip hp
          exact ⟨hz' z hp'.1, (hrs r hp'.2).1, (hrs r hp'.2).2⟩
        have ll : ((zs'.zip rs).map (fun p => ((p.1, p.2.1, p.2.2) : W3))).length = (1 + r).toNat := by
          rw [List.length_map, List.length_zip, lr, Nat.min_self, lz']
        obtain ⟨m1, m2, _, m4, m5⟩ := merge_all ((zs'.zip rs).map fun p => ((p.1, p.2.1, p.2.2) : W3)) [] List.nodup_nil
        have sub : ∀ w ∈ mergeW [] ((zs'.zip rs).map fun p => ((p.1, p.2.1, p.2.2) : W3)), w ∈ (zs'.zip rs).map (fun p => ((p.1, p.2.1, p.2.2) : W3)) := fun w hw => (m2 w hw).elim (fun z => nomatch z) id
        have s9 := same_new nd (.dK ((mergeW [] ((zs'.zip rs).map fun p => ((p.1, p.2.1, p.2.2) : W3))).map kvOf))
        obtain ⟨yb8, hb8⟩ := B8.hb
        have k89 := kk.trans k8
        refine q _ d _ ⟨m1, fun w hw => (mem w (sub w hw)).1, fun w hw => s9 _ _ (mem w (sub w hw)).2.1, fun w hw => (mem w (sub w hw)).2.2⟩ (m5 (by omega)) ?_ (k89.trans (Keep.of s9)) (B8.same s9) (k89.free (ne_of_none hb8 nd).symm nd) upd_same
        rw [ll] at m4
        have m4 : (mergeW [] ((zs'.zip rs).map fun p => ((p.1, p.2.1, p.2.2) : W3))).length ≤ (1 + r).toNat := by simpa using m4
        omega
def spFour (K : PySem.W.Frag) : Sp := fun vs H Q _ => ∃ (a : Addr) (p : R), vs = [.ref a] ∧ SqT K H a p.vs ∧ ∀ H', Same H H' → Q (.bl true) H'
theorem ok_has_four_numbers (T : Txt K mg) {k : Nat} : FnOk P w K mg base CX0 (k + 1) T.f_has_four_numbers T.fd_has_four_numbers ["value"] (spFour K) := by
  refine T.F_has_four_numbers.ok sc_has_four_numbers (fun vs H Q E h => ?_) (fun cdv A outer s H vs Q E hr h => ?_)
  · obtain ⟨a, p, rfl, _⟩ := h
    rfl
  · obtain ⟨a, p, rfl, hT, q⟩ := h
    refine ⟨_, (pss_cons (ps_if (PW.pt (pw_or (pt_not (pt_val (pe_callB (id := "isinstance") (r := rIsi K) call_isi (by rfl) T.m_isinstance (by decide +kernel) (pa_cons (pv 0) (pa_cons (pe_bltn (v := .ty "tuple") (by rfl) T.m_tuple (by decide +kernel) rfl) pa_nil))))) (pw_or1 (pt_cmpR op_ne (pe_callB (id := "len") (r := RK.rLenQ K) RK.call_lenQ (by rfl) T.m_len (by decide +kernel) (pa_cons (pv 0) pa_nil)) pe_int (nomark _))))) (pss_one (ps_ret pe_bl)) pss_nil)
      (pss_one (ps_ret (pe_callB (id := "all") (r := rAll K) (cr_all rfl) (by rfl) T.m_all (by decide +kernel) (pa_cons (pe_lc (own := [("side", 1)]) (g := gName 1) (tt := tYes) (by rfl) sc_has_four_numbers.nd (pi_tup (pv 0)) (blkOk_by (own := [("side", 1)]) (N := ["value", "side"]) (sc := defScope s_has_four_numbers) (by decide +kernel)) (fun _ _ _ _ _ => (pg_name (i := 1) sc_has_four_numbers.nd rfl (Or.inl rfl))) (fun _ _ _ _ _ => pts_nil) (fun _ _ _ _ _ => (pe_callB (id := "isinstance") (r := rIsi K) call_isi (by rfl) T.m_isinstance (by decide +kernel) (pa_cons (pv 1) (pa_cons (pe_bltn (v := .ty "int") (by rfl) T.m_int (by decide +kernel) rfl) pa_nil))))) pa_nil))))), ?_⟩
    refine ⟨.ref a, rfl, .ref a, .ty "tuple", _, _, true, rfl, .ty _, ty_tup hT, kit_ty (by decide +kernel), _, rfl, iteF ?_⟩
    refine ⟨.ref a, rfl, a, _, rfl, .inr hT, rfl, _, rfl, iteNS rfl ?_⟩
    refine ⟨.ref a, rfl, a, rfl, ⟨_, hT⟩, fun D nD => ?_⟩
    refine lc_tup (xs := p.vs) (fun i H' => H' = upd H D (.lst (List.replicate i (.bl true)))) rfl (fun i H' _ e => ?_) (fun i x H' hx e => ?_) (fun H' e => ?_)
    · subst e
      exact same_tup (same_new nD _) hT
    · subst e
      have hi : i < 4 := (List.getElem?_eq_some_iff.mp hx).1
      obtain ⟨z, rfl⟩ : ∃ z, x = .int z := by
        have hm : x ∈ p.vs := List.mem_of_getElem? hx
        simp only [R.vs, List.mem_cons, List.not_mem_nil, or_false] at hm
        rcases hm with h | h | h | h <;> exact ⟨_, h⟩
      refine ⟨rfl, .int z, rfl, .int z, .ty "int", _, _, true, rfl, .ty _, .base (.int z), kit_ty (by decide +kernel), _, upd_same, ?_, ?_⟩
      · rw [List.length_replicate]
        exact szl (by omega)
      · rw [upd_upd, List.replicate_succ']
    · subst e
      refine ⟨D, [true, true, true, true], rfl, .inl (.inl upd_same), ?_⟩
      exact q _ (same_new nD _)
def inB (s : V) : Bool := match s with
  | .int i => decide (-1000000000 ≤ i) && decide (i ≤ 1000000000)
  | _ => false
def spIsRect (K : PySem.W.Frag) : Sp := fun vs H Q _ => ∃ (a : Addr) (p : R), vs = [.ref a] ∧ SqT K H a p.vs ∧ ∀ (b : Bool) H', Same H H' → (b = true ↔ p.good) → Q (.bl b) H'
theorem ok_is_rectangle (T : Txt K mg) {k : Nat} : FnOk P w K mg base CX0 (k + 2) T.f_is_rectangle T.fd_is_rectangle ["rectangle"] (spIsRect K) := by
  refine T.F_is_rectangle.ok sc_is_rectangle (fun vs H Q E h => ?_) (fun cdv A outer s H vs Q E hr h => ?_)
  · obtain ⟨a, p, rfl, _⟩ := h
    rfl
  · obtain ⟨a, p, rfl, hT, q⟩ := h
    refine ⟨_, (pss_cons (ps_if (pt_not (pt_val (pe_call (ok_has_four_numbers T) hr (by rfl) T.g_has_four_numbers T.F_has_four_numbers.kp T.b_has_four_numbers .nil pass0 (pa_cons (pv 0) pa_nil)))) (pss_one (ps_ret pe_bl)) pss_nil)
      (pss_cons (ps_asg (pv 0) (pg_tup (by rfl) (pgs_cons (pg_name (i := 1) sc_is_rectangle.nd rfl (.inl rfl)) (pgs_cons (pg_name (i := 2) sc_is_rectangle.nd rfl (.inl rfl)) (pgs_cons (pg_name (i := 3) sc_is_rectangle.nd rfl (.inl rfl)) (pgs_cons (pg_name (i := 4) sc_is_rectangle.nd rfl (.inl rfl)) pgs_nil))))))
      (pss_cons (ps_if (pt_not (pt_val (pe_callB (id := "all") (r := rAll K) (cr_all rfl) (by rfl) T.m_all (by decide +kernel) (pa_cons (pe_lc (own := [("side", 5)]) (g := gName 5) (tt := tYes) (by rfl) sc_is_rectangle.nd (pi_tup (pv 0)) (blkOk_by (own := [("side", 5)]) (N := ["rectangle", "left", "top", "right", "bottom", "side"]) (sc := defScope s_is_rectangle) (by decide +kernel)) (fun _ _ _ _ _ => (pg_name (i := 5) sc_is_rectangle.nd rfl (Or.inl rfl))) (fun _ _ _ _ _ => pts_nil) (fun _ _ _ _ _ => (pe_chain op_le op_le (pe_un un_neg (pe_glob (v := .int 1000000000) (by rfl) T.c_MOST_COORDINATE ⟨_, rfl⟩)) (pv 5) (pe_glob (v := .int 1000000000) (by rfl) T.c_MOST_COORDINATE ⟨_, rfl⟩)))) pa_nil)))) (pss_one (ps_ret pe_bl)) pss_nil)
      (pss_one (ps_ret (pe_and (pe_cmpR op_lt (pv 1) (pv 3) (nomark _)) (pe_one (pe_cmpR op_lt (pv 2) (pv 4) (nomark _))))))))), ?_⟩
    refine ⟨.ref a, rfl, a, p, rfl, hT, fun H1 s1 => ⟨_, rfl, iteF ?_⟩⟩
    have hT1 := same_tup s1 hT
    refine ⟨.ref a, rfl, a, p.vs, rfl, hT1, rfl, .int p.l, _, rfl, .int p.t, _, rfl, .int p.r, _, rfl, .int p.b, _, rfl, rfl, ?_⟩
    refine ⟨.ref a, rfl, a, rfl, ⟨_, hT1⟩, fun D nD => ?_⟩
    refine lc_tup (xs := p.vs) (fun i H' => H' = upd H1 D (.lst ((p.vs.take i).map fun v => .bl (inB v)))) rfl (fun i H' _ e => ?_) (fun i x H' hx e => ?_) (fun H' e => ?_)
    · subst e
      exact same_tup (same_new nD _) hT1
    · subst e
      have hi : i < 4 := (List.getElem?_eq_some_iff.mp hx).1
      obtain ⟨z, rfl⟩ : ∃ z, x = .int z := by
        have hm : x ∈ p.vs := List.mem_of_getElem? hx
        simp only [R.vs, List.mem_cons, List.not_mem_nil, or_false] at hm
        rcases hm with h | h | h | h <;> exact ⟨_, h⟩
      have fin : ∀ b : Bool, b = inB (.int z) → ∃ acc, (upd H1 D (.lst ((p.vs.take i).map fun v => V.bl (inB v)))) D = some (.lst acc) ∧ acc.length < sizeLine ∧ upd (upd H1 D (.lst ((p.vs.take i).map fun v => V.bl (inB v)))) D (.lst (acc ++ [.bl b])) = upd H1 D (.lst ((p.vs.take (i + 1)).map fun v => V.bl (inB v))) := fun b hb => by
        refine ⟨_, upd_same, ?_, ?_⟩
        · rw [List.length_map, List.length_take]
          exact szl (by omega)
        · rw [upd_upd, List.take_add_one, hx, List.map_append, hb]
          rfl
      refine ⟨rfl, 1000000000, rfl, .int z, rfl, _, _, rfl, rfl, _, rfl, ite2 (fun c => ?_) (fun c => ?_)⟩
      · have c := of_decide_eq_true c
        refine ⟨_, _, rfl, rfl, fin _ ?_⟩
        show _ = (decide (-1000000000 ≤ z) && decide (z ≤ 1000000000))
        rw [decide_eq_true c, Bool.true_and]
      · refine fin _ ?_
        show _ = (decide (-1000000000 ≤ z) && decide (z ≤ 1000000000))
        rw [decide_eq_false fun h => c (decide_eq_true h), Bool.false_and]
    · subst e
      refine ⟨D, [inB (.int p.l), inB (.int p.t), inB (.int p.r), inB (.int p.b)], rfl, .inl (.inl upd_same), _, rfl, ?_⟩
      have s2 := s1.trans (same_new nD (.lst ((p.vs.take p.vs.length).map fun v => V.bl (inB v))))
      have ea : ([inB (.int p.l), inB (.int p.t), inB (.int p.r), inB (.int p.b)].all id = true) ↔ (-1000000000 ≤ p.l ∧ p.l ≤ 1000000000 ∧ -1000000000 ≤ p.t ∧ p.t ≤ 1000000000 ∧ -1000000000 ≤ p.r ∧ p.r ≤ 1000000000 ∧ -1000000000 ≤ p.b ∧ p.b ≤ 1000000000) := by
        simp only [List.all_cons, List.all_nil, id, inB, Bool.and_true, Bool.and_eq_true, decide_eq_true_eq]
        omega
      refine ite2 (fun c => ?_) (fun c => ?_)
      · refine q _ _ s2 ⟨fun h => Bool.noConfusion h, fun h => ?_⟩
        rw [ea.mpr ⟨h.1, h.2.1, h.2.2.1, h.2.2.2.1, h.2.2.2.2.1, h.2.2.2.2.2.1, h.2.2.2.2.2.2.1, h.2.2.2.2.2.2.2.1⟩] at c
        cases c
      · have c := ea.mp (by cases e : ([inB (.int p.l), inB (.int p.t), inB (.int p.r), inB (.int p.b)].all id) with
          | true => rfl
          | false => exact absurd (by rw [e]; rfl) c)
        refine ⟨.int p.l, rfl, .int p.r, rfl, _, _, rfl, rfl, _, rfl, ite2 (fun c1 => ?_) (fun c1 => ?_)⟩
        · have c1 := of_decide_eq_true c1
          refine ⟨.int p.t, rfl, .int p.b, rfl, _, _, rfl, rfl, q _ _ s2 ?_⟩
          rw [decide_eq_true_eq]
          exact ⟨fun h => ⟨c.1, c.2.1, c.2.2.1, c.2.2.2.1, c.2.2.2.2.1, c.2.2.2.2.2.1, c.2.2.2.2.2.2.1, c.2.2.2.2.2.2.2, c1, h⟩, fun h => h.2.2.2.2.2.2.2.2.2⟩
        · exact q _ _ s2 ⟨fun h => Bool.noConfusion h, fun h => absurd (decide_eq_true h.2.2.2.2.2.2.2.2.1) c1⟩
def spIsName : Sp := fun vs H Q _ => ∃ z : Str, vs = [.str z] ∧ NameOk z ∧ ∀ H', Same H H' → Q (.bl true) H'
theorem ok_is_name (T : Txt K mg) {k : Nat} : FnOk P w K mg base CX0 (k + 1) T.f_is_name T.fd_is_name ["text"] spIsName := by
  refine T.F_is_name.ok sc_is_name (fun vs H Q E h => ?_) (fun cdv A outer s H vs Q E hr h => ?_)
  · obtain ⟨z, rfl, _⟩ := h
    rfl
  · obtain ⟨z, rfl, hz, q⟩ := h
    refine ⟨_, (pss_cons (ps_if (PW.pt (pw_or (pt_not (pt_val (pe_callB (id := "isinstance") (r := rIsi K) call_isi (by rfl) T.m_isinstance (by decide +kernel) (pa_cons (pv 0) (pa_cons (pe_bltn (v := .ty "str") (by rfl) T.m_str (by decide +kernel) rfl) pa_nil))))) (pw_or1 (pt_not (pt_chain op_le op_le pe_int (pe_callB (id := "len") call_len_str (by rfl) T.m_len (by decide +kernel) (pa_cons (pv 0) pa_nil)) (pe_glob (v := .int 6) (by rfl) T.c_MOST_LETTERS ⟨_, rfl⟩)))))) (pss_one (ps_ret pe_bl)) pss_nil)
      (pss_one (ps_ret (pe_callB (id := "all") (r := rAll K) (cr_all rfl) (by rfl) T.m_all (by decide +kernel) (pa_cons (pe_lc (own := [("letter", 1)]) (g := gName 1) (tt := tYes) (by rfl) sc_is_name.nd (pi_str (pv 0)) (blkOk_by (own := [("letter", 1)]) (N := ["text", "letter"]) (sc := defScope s_is_name) (by decide +kernel)) (fun _ _ _ _ _ => (pg_name (i := 1) sc_is_name.nd rfl (Or.inl rfl))) (fun _ _ _ _ _ => pts_nil) (fun _ _ _ _ _ => (pe_cmpR op_in_sign (pv 1) (pe_glob (v := .str "abcdefghijklmnopqrstuvwxyz") (by rfl) T.c_LETTERS ⟨_, rfl⟩) (by rfl)))) pa_nil))))), ?_⟩
    refine ⟨.str z, rfl, .str z, .ty "str", _, _, true, rfl, .ty _, .base (.str z), kit_ty (by decide +kernel), _, rfl, iteF ?_⟩
    refine ⟨.str z, rfl, z, rfl, sz (by have := hz.2.1; omega), _, _, rfl, rfl, _, rfl, ?_⟩
    rw [decide_eq_true (show (1 : Int) ≤ (z.length : Int) by have := hz.1; omega)]
    refine iteT ⟨_, _, rfl, rfl, _, rfl, ?_⟩
    rw [decide_eq_true (show (z.length : Int) ≤ 6 by have := hz.2.1; omega)]
    refine iteF ⟨.str z, rfl, z, rfl, fun D nD => ?_⟩
    refine lc_it walk_str (fun i H' => H' = upd H D (.lst (List.replicate i (.bl true)))) rfl (fun _ _ _ _ => trivial) (fun i v H1 H2 hi hp hy => ?_) (fun H' e => ?_)
    · obtain ⟨rfl, c, hc, rfl⟩ := hy
      subst hp
      have hm : c ∈ z.cps.toList := by
        have hlt : i < z.cps.size := hi
        have e : z.cps[i]? = some z.cps[i] := Array.getElem?_eq_getElem hlt
        rw [e] at hc
        have hc := Option.some.inj hc
        rw [← hc]
        exact Array.mem_toList_iff.mpr (Array.getElem_mem hlt)
      refine ⟨rfl, .str ⟨#[c]⟩, rfl, c, abc, rfl, rfl, _, upd_same, ?_, ?_⟩
      · have hs : z.cps.size = z.length := rfl
        have := hz.2.1
        rw [List.length_replicate]
        exact szl (by omega)
      · rw [decide_eq_true (abc_mem.mpr (hz.2.2 c hm)), upd_upd, List.replicate_succ']
    · subst e
      refine ⟨D, List.replicate z.cps.size true, rfl, .inl (.inl (by rw [upd_same, List.map_replicate])), ?_⟩
      rw [show (List.replicate z.cps.size true).all id = true by simp]
      exact q _ (same_new nD _)
def spCheck : Sp := fun vs H Q _ => ∃ (d : Addr) (ws : List W3), vs = [.ref d] ∧ H d = some (.dK (ws.map kvOf)) ∧ Wins H ws ∧ 1 ≤ ws.length ∧ ws.length ≤ 24 ∧ ∀ H', Same H H' → Q .non H'
theorem keys_of (ws : List W3) : (ws.map kvOf).map (·.1) = (Names ws).map Sum.inr := by
  unfold Names
  rw [List.map_map, List.map_map]
  rfl
theorem ok_check_windows (T : Txt K mg) {k : Nat} : FnOk P w K mg base CX0 (k + 3) T.f_check_windows T.fd_check_windows ["windows"] spCheck := by
  refine T.F_check_windows.ok sc_check_windows (fun vs H Q E h => ?_) (fun cdv A outer s H vs Q E hr h => ?_)
  · obtain ⟨d, ws, rfl, _⟩ := h
    rfl
  · obtain ⟨d, ws, rfl, hd, W, l1, l2, q⟩ := h
    refine ⟨_, (pss_cons (ps_if (pt_not (pt_chain op_le op_le pe_int (pe_callB (id := "len") call_lenD (by rfl) T.m_len (by decide +kernel) (pa_cons (pv 0) pa_nil)) (pe_glob (v := .int 24) (by rfl) T.c_MOST_WINDOWS ⟨_, rfl⟩))) (pss_one ps_never) pss_nil)
      (pss_cons (ps_set (i := 1) sc_check_windows.nd rfl (.inl rfl) (pe_callB (id := "sorted") (call_sortedD rfl) (by rfl) T.m_sorted (by decide +kernel) (pa_cons (pv 0) pa_nil)))
      (pss_cons (ps_for PassesOwn.never rfl (pi_list (pv 1)) (pg_name (i := 2) sc_check_windows.nd rfl (.inl rfl)) (pss_one (ps_if (pt_not (pt_val (pe_call (ok_is_name T) hr (by rfl) T.g_is_name T.F_is_name.kp T.b_is_name .nil pass0 (pa_cons (pv 2) pa_nil)))) (pss_one ps_never) pss_nil)))
      (pss_one (ps_for PassesOwn.never rfl (pi_list (pv 1)) (pg_name (i := 2) sc_check_windows.nd rfl (.inl rfl)) (pss_one (ps_if (pt_not (pt_val (pe_call (ok_is_rectangle T) hr (by rfl) T.g_is_rectangle T.F_is_rectangle.kp T.b_is_rectangle .nil pass0 (pa_cons (pe_dget (hu_of hr) (pv 0) (pv 2) (fun _ _ => rfl)) pa_nil)))) (pss_one ps_never) pss_nil))))))), ?_⟩
    have hl : (ws.map kvOf).length = ws.length := List.length_map _
    refine ⟨.ref d, rfl, d, _, rfl, hd, _, _, rfl, rfl, _, rfl, ?_⟩
    rw [decide_eq_true (show (1 : Int) ≤ ((ws.map kvOf).length : Int) by omega)]
    refine iteT ⟨_, _, rfl, rfl, _, rfl, ?_⟩
    rw [decide_eq_true (show ((ws.map kvOf).length : Int) ≤ 24 by omega)]
    refine iteF ⟨.ref d, rfl, d, _, Names ws, rfl, .inl hd, keys_of ws, (by unfold Names; rw [List.length_map]; omega), fun ys p py _ np => ?_⟩
    obtain ⟨us, pu, rfl⟩ := arrange ys ws py
    have s1 := same_new np (.lst ((Names us).map V.str))
    have W1 := (W.perm pu).same s1
    have item : ∀ (i : Nat) (x : V), ((Names us).map V.str)[i]? = some x → ∃ w ∈ us, x = .str w.1 := fun i x hx => by
      obtain ⟨z, hz, rfl⟩ := List.mem_map.mp (List.mem_of_getElem? hx)
      obtain ⟨w, hw, rfl⟩ := List.mem_map.mp hz
      exact ⟨w, hw, rfl⟩
    refine ⟨.ref p, rfl, p, rfl, ⟨_, SqL.of upd_same⟩, for_list (xs := (Names us).map V.str) (fun _ σ H' => (∃ y2, σ = [some (.ref d), some (.ref p), y2]) ∧ Same (upd H p (.lst ((Names us).map V.str))) H') ⟨⟨none, rfl⟩, Same.refl _⟩ ?_ ?_ ?_⟩
    · rintro i σ H' _ ⟨_, s2⟩
      exact SqL.of (s2 _ _ upd_same)
    · rintro i x σ H1 hx ⟨⟨y2, rfl⟩, s2⟩
      obtain ⟨w, hw, rfl⟩ := item i x hx
      exact ⟨.str w.1, rfl, w.1, rfl, W1.nm w hw, fun H2 s3 => ⟨_, rfl, iteF ⟨⟨_, rfl⟩, s2.trans s3⟩⟩⟩
    · rintro σ H1 ⟨⟨y2, rfl⟩, s2⟩
      refine ⟨.ref p, rfl, p, rfl, ⟨_, SqL.of (s2 _ _ upd_same)⟩, for_list (xs := (Names us).map V.str) (fun _ σ H' => (∃ y2, σ = [some (.ref d), some (.ref p), y2]) ∧ Same (upd H p (.lst ((Names us).map V.str))) H') ⟨⟨y2, rfl⟩, s2⟩ ?_ ?_ ?_⟩
      · rintro i σ H' _ ⟨_, s3⟩
        exact SqL.of (s3 _ _ upd_same)
      · rintro i x σ H2 hx ⟨⟨y2, rfl⟩, s3⟩
        obtain ⟨w, hw, rfl⟩ := item i x hx
        have hd2 := s3 _ _ (s1 _ _ hd)
        have e : valV (ws.map kvOf) (Sum.inr w.1 : Key) = some (.ref w.2.1) := val_kv W.nd (pu.mem_iff.mp hw)
        have dg : DGet H2 d (.str w.1) (some (.ref w.2.1)) := by
          rw [← e]
          exact DGet.k (k := Sum.inr w.1) hd2
        refine ⟨.ref d, rfl, .str w.1, rfl, d, _, rfl, dg, w.2.1, w.2.2, rfl, .inl (.inl (s3 _ _ (W1.at_ w hw))), fun b H3 s4 hb => ⟨_, rfl, ?_⟩⟩
        rw [hb.mpr (W1.gd w hw)]
        exact iteF ⟨⟨_, rfl⟩, s3.trans s4⟩
      · rintro σ H2 ⟨_, s3⟩
        exact q H2 (s1.trans s3)
def sp_Desk_init (C : Addr) : Sp := fun vs H Q _ => ∃ (p d dx : Addr) (ws : List W3), vs = [.ref p, .ref d] ∧ H p = some (.ins C dx []) ∧ H d = some (.dK (ws.map kvOf)) ∧ Wins H ws ∧ 1 ≤ ws.length ∧ ws.length ≤ 24 ∧
  ∀ (us : List W3) (dd : Addr) H', us.Perm ws → H dd = none → H' p = some (.ins C dx (fldW dd)) → H' dd = some (.dK (us.map kvOf)) → DeskAt C H' p us → (∀ b o, H b = some o → b ≠ p → H' b = some o) → Q .non H'
theorem ok_Desk___init (T : Txt K mg) {k : Nat} : FnOk P w K mg base CX0 (k + 4) T.f_Desk___init T.fd_Desk___init ["self", "windows"] (sp_Desk_init T.C_Desk) := by
  refine T.F_Desk___init.ok sc_Desk___init (fun vs H Q E h => ?_) (fun cdv A outer s H vs Q E hr h => ?_)
  · obtain ⟨p, d, dx, ws, rfl, _⟩ := h
    rfl
  · obtain ⟨p, d, dx, ws, rfl, hp, hd, W, l1, l2, q⟩ := h
    refine ⟨_, (pss_cons (ps_expr (pe_call (ok_check_windows T) hr (by rfl) T.g_check_windows T.F_check_windows.kp T.b_check_windows .nil pass0 (pa_cons (pv 1) pa_nil)))
      (pss_one (ps_fld (pv 0) (pe_dc (own := [("name", 2)]) (g := gName 2) (tt := tYes) (by rfl) sc_Desk___init.nd (pi_list (pe_callB (id := "sorted") (call_sortedD rfl) (by rfl) T.m_sorted (by decide +kernel) (pa_cons (pv 1) pa_nil))) (blkOk_by (own := [("name", 2)]) (N := ["self", "windows", "name"]) (sc := defScope s_Desk___init) (by decide +kernel)) (fun _ _ _ _ _ => (pg_name (i := 2) sc_Desk___init.nd rfl (Or.inl rfl))) (fun _ _ _ _ _ => pts_nil) (fun _ _ _ _ _ => (pv 2)) (fun _ _ _ _ _ => (pe_dget (hu_of hr) (pv 1) (pv 2) (fun _ _ => rfl)))) rfl))), ?_⟩
    refine ⟨.ref d, rfl, d, ws, rfl, hd, W, l1, l2, fun H1 s1 => ?_⟩
    have hd1 := s1 _ _ hd
    have W1 := W.same s1
    refine ⟨.ref d, rfl, d, _, Names ws, rfl, .inl hd1, keys_of ws, (by unfold Names; rw [List.length_map]; omega), fun ys l py so nl => ?_⟩
    obtain ⟨us, pu, rfl⟩ := arrange ys ws py
    have s2 := same_new nl (.lst ((Names us).map V.str))
    refine ⟨l, rfl, ⟨_, SqL.of upd_same⟩, fun D nD => ?_⟩
    have Wu := (W1.perm pu).same s2
    have hd2 := s2 _ _ hd1
    refine dc_list (xs := (Names us).map V.str) (fun i H' => H' = upd (upd H1 l (.lst ((Names us).map V.str))) D (.dK ((us.take i).map kvOf))) rfl (fun i H' e => ?_) (fun i x H' hx e => ?_) (fun H' e => ?_)
    · subst e
      exact SqL.of ((same_new nD _) _ _ upd_same)
    · subst e
      have hi : i < us.length := by
        have := (List.getElem?_eq_some_iff.mp hx).1
        unfold Names at this
        simpa using this
      have ex : x = .str us[i].1 := by
        unfold Names at hx
        rw [List.map_map, List.getElem?_map, List.getElem?_eq_getElem hi] at hx
        exact (Option.some.inj hx).symm
      subst ex
      have hmem : us[i] ∈ us := List.getElem_mem hi
      have e : valV (ws.map kvOf) (Sum.inr us[i].1 : Key) = some (.ref us[i].2.1) := val_kv W.nd (pu.mem_iff.mp hmem)
      have dg : DGet (upd (upd H1 l (.lst ((Names us).map V.str))) D (.dK ((us.take i).map kvOf))) d (.str us[i].1) (some (.ref us[i].2.1)) := by
        rw [← e]
        exact DGet.k (k := Sum.inr us[i].1) ((same_new nD _) _ _ hd2)
      refine ⟨rfl, .str us[i].1, rfl, .ref d, rfl, .str us[i].1, rfl, d, _, rfl, dg, _, Sum.inr us[i].1, rfl, upd_same, ?_, ?_⟩
      · rw [List.length_map, List.length_take]
        exact szl (by have := pu.length_eq; omega)
      · rw [upd_upd, show putK ((us.take i).map kvOf) (Sum.inr us[i].1) (.ref us[i].2.1) = (putW (us.take i) us[i]).map kvOf from put_kv _ _]
        have en : putW (us.take i) us[i] = us.take (i + 1) := by
          have h1 := merge_new [us[i]] (us.take i) (by
            rw [List.take_append_getElem hi]
            exact ((List.take_sublist (i + 1) us).map _).nodup Wu.nd)
          rw [← List.take_append_getElem hi]
          exact h1
        rw [en]
    · subst e
      have hlen : ((Names us).map V.str).length = us.length := by
        unfold Names
        simp
      rw [hlen, List.take_length]
      have s3 := same_new nD (.dK (us.map kvOf))
      have hp3 := s3 _ _ (s2 _ _ (s1 _ _ hp))
      have pD : D ≠ p := (ne_of_none (s2 _ _ (s1 _ _ hp)) nD).symm
      refine ⟨.ref p, rfl, p, T.C_Desk, dx, [], rfl, hp3, T.cl_Desk, T.n_Desk_windows, (by show 0 < 1000; decide), ?_⟩
      have hDD : (upd (upd (upd H1 l (.lst ((Names us).map V.str))) D (.dK (us.map kvOf))) p (.ins T.C_Desk dx (fldW D))) D = some (.dK (us.map kvOf)) := by
        rw [upd_ne pD]
        exact upd_same
      refine q us D _ pu (s1.free (s2.free nD)) upd_same hDD ⟨⟨dx, D, upd_same, hDD⟩, ⟨Wu.nd, Wu.nm, fun w hw => ?_, Wu.gd⟩, sorted_of so⟩ fun b o hb nb => ?_
      · have := s3 _ _ (Wu.at_ w hw)
        rw [upd_ne (ne_of this hp3 (by intro z; cases z))]
        exact this
      · rw [upd_ne nb]
        exact s3 _ _ (s2 _ _ (s1 _ _ hb))
theorem mk_desk {C d : Addr} {H : Hp} {ws : List W3} {Q : Addr → Hp → Prop} {E : XK} (hd : H d = some (.dK (ws.map kvOf))) (W : Wins H ws) (l1 : 1 ≤ ws.length) (l2 : ws.length ≤ 24)
    (q : ∀ (us : List W3) (x dd dx : Addr) H', us.Perm ws → Same H H' → H x = none → H dd = none → H' x = some (.ins C dx (fldW dd)) → H' dd = some (.dK (us.map kvOf)) → DeskAt C H' x us → Q x H') :
    ∀ x dx, H x = none → H dx = none → dx ≠ x → sp_Desk_init C [.ref x, .ref d] (upd (upd H dx (.own x)) x (.ins C dx [])) (fun v H2 => v = .non ∧ Q x H2) E := by
  intro x dx nx ndx ne
  have s0 : Same H (upd (upd H dx (.own x)) x (.ins C dx [])) := fun b o e => by
    rw [upd_ne (ne_of_none e nx), upd_ne (ne_of_none e ndx)]
    exact e
  refine ⟨x, d, dx, ws, rfl, upd_same, s0 _ _ hd, W.same s0, l1, l2, fun us dd H' pu nd h1 h2 DA kp => ⟨rfl, ?_⟩⟩
  exact q us x dd dx H' pu (fun b o e => kp b o (s0 _ _ e) (ne_of_none e nx)) nx (s0.free nd) h1 h2 DA
theorem fld_w (d : Addr) : (fldW d).lookup ("windows" : Str) = some (.ref d) := by
  unfold fldW
  simp [List.lookup]
def spDNames (C : Addr) : Sp := fun vs H Q _ => ∃ (p : Addr) (ws : List W3), vs = [.ref p] ∧ DeskAt C H p ws ∧ ∀ l, H l = none → Q (.ref l) (upd H l (.lst ((Names ws).map V.str)))
theorem ok_Desk_names (T : Txt K mg) {k : Nat} : FnOk P w K mg base CX0 (k + 1) T.f_Desk_names T.fd_Desk_names ["self"] (spDNames T.C_Desk) := by
  refine T.F_Desk_names.ok sc_Desk_names (fun vs H Q E h => ?_) (fun cdv A outer s H vs Q E hr h => ?_)
  · obtain ⟨p, ws, rfl, _⟩ := h
    rfl
  · obtain ⟨p, ws, rfl, D, q⟩ := h
    obtain ⟨dx, d, h1, h2⟩ := D.ex
    refine ⟨_, (pss_one (ps_ret (pe_callTy (T := "list") (call_list_dK rfl) (by rfl) T.m_list (by decide +kernel) (pa_cons (pe_fld (pv 0) rfl) pa_nil)))), ?_⟩
    refine ⟨.ref p, rfl, p, T.C_Desk, dx, _, _, rfl, h1, T.cl_Desk, T.n_Desk_windows, fld_w d, d, _, rfl, h2, fun l nl => ?_⟩
    have e : ((ws.map kvOf).map fun kv => kV kv.1) = (Names ws).map V.str := by
      unfold Names
      rw [List.map_map, List.map_map]
      rfl
    rw [e]
    exact q l nl
def spDRect (C : Addr) : Sp := fun vs H Q _ => ∃ (p : Addr) (ws : List W3) (w : W3), vs = [.ref p, .str w.1] ∧ DeskAt C H p ws ∧ w ∈ ws ∧ Q (.ref w.2.1) H
theorem ok_Desk_rectangle (T : Txt K mg) {k : Nat} : FnOk P w K mg base CX0 (k + 1) T.f_Desk_rectangle T.fd_Desk_rectangle ["self", "name"] (spDRect T.C_Desk) := by
  refine T.F_Desk_rectangle.ok sc_Desk_rectangle (fun vs H Q E h => ?_) (fun cdv A outer s H vs Q E hr h => ?_)
  · obtain ⟨p, ws, w, rfl, _⟩ := h
    rfl
  · obtain ⟨p, ws, w, rfl, D, hw, q⟩ := h
    obtain ⟨dx, d, h1, h2⟩ := D.ex
    have e : valV (ws.map kvOf) (Sum.inr w.1 : Key) = some (.ref w.2.1) := val_kv D.win.nd hw
    have dg : DGet H d (.str w.1) (some (.ref w.2.1)) := by
      rw [← e]
      exact DGet.k (k := Sum.inr w.1) h2
    refine ⟨_, (pss_cons (ps_if (pt_cmp (pc_dnotin (hu_of hr) (pv 1) (pe_fld (pv 0) rfl))) (pss_one ps_never) pss_nil)
      (pss_one (ps_ret (pe_dget (hu_of hr) (pe_fld (pv 0) rfl) (pv 1) (fun _ _ => rfl))))), ?_⟩
    refine ⟨.str w.1, rfl, .ref p, rfl, p, T.C_Desk, dx, _, _, rfl, h1, T.cl_Desk, T.n_Desk_windows, fld_w d, d, _, rfl, dg, _, rfl, iteF ?_⟩
    exact ⟨.ref p, rfl, p, T.C_Desk, dx, _, _, rfl, h1, T.cl_Desk, T.n_Desk_windows, fld_w d, .str w.1, rfl, d, _, rfl, dg, q⟩
def sp_Desk___eq (T : Txt K mg) : Sp := fun vs H Q _ => ∃ (p : Addr) (ws : List W3) (y : V), vs = [.ref p, y] ∧ DeskAt T.C_Desk H p ws ∧
  ((∃ (q : Addr) (us : List W3), y = .ref q ∧ DeskAt T.C_Desk H q us ∧ ∀ b : Bool, (b = true ↔ (ws.map nr).Perm (us.map nr)) → Q (.bl b) H) ∨
   (∃ (d : Addr) (kvs : List (Key × V)), y = .ref d ∧ H d = some (.dK kvs) ∧ Q (.bl false) H) ∨ ∃ (l : Addr) (xs : List V), y = .ref l ∧ H l = some (.lst xs) ∧ Q (.bl false) H)
theorem ok_Desk___eq (T : Txt K mg) {k : Nat} : FnOk P w K mg base CX0 (k + 2) T.f_Desk___eq T.fd_Desk___eq ["self", "other"] (sp_Desk___eq T) := by
  refine T.F_Desk___eq.ok sc_Desk___eq (fun vs H Q E h => ?_) (fun cdv A outer s H vs Q E hr h => ?_)
  · obtain ⟨p, ws, y, rfl, _⟩ := h
    rfl
  · obtain ⟨p, ws, y, rfl, D, h⟩ := h
    obtain ⟨dx, d, h1, h2⟩ := D.ex
    refine ⟨_, (pss_one (ps_ret (pe_and (pe_callB (id := "isinstance") (r := rIsi K) call_isi (by rfl) T.m_isinstance (by decide +kernel) (pa_cons (pv 1) (pa_cons (pe_glob (v := .ref T.C_Desk) (by rfl) T.g_Desk rfl) pa_nil))) (pe_one (pe_cmpR (r := RK.rEqDct K) (RK.op_eqDct (RK.u65 hr)) (pe_fld (pv 0) rfl) (pe_fld (pv 1) rfl) (nomark _)))))), ?_⟩
    rcases h with ⟨q, us, rfl, D2, k⟩ | ⟨d2, kvs, rfl, hd2, k⟩ | ⟨l, xs, rfl, hl, k⟩
    · obtain ⟨dy, d2, g1, g2⟩ := D2.ex
      have ic := T.ic_Desk
      refine ⟨.ref q, rfl, .ref q, .ref T.C_Desk, _, _, true, rfl, .own _, .base (.ins g1 ic.cl ic.ha ic.hn ic.htk ic.hm), ic.me, _, rfl, iteT ?_⟩
      refine ⟨.ref p, rfl, p, T.C_Desk, dx, _, _, rfl, h1, T.cl_Desk, T.n_Desk_windows, fld_w d, .ref q, rfl, q, T.C_Desk, dy, _, _, rfl, g1, T.cl_Desk, T.n_Desk_windows, fld_w d2, ?_⟩
      exact ⟨d, d2, _, _, _, _, rfl, rfl, h2, g2, Wins.datD D.win.at_, Wins.datD D2.win.at_, k _ (eqvD_iff D.win.nd D2.win.nd)⟩
    · exact ⟨.ref d2, rfl, .ref d2, .ref T.C_Desk, _, _, false, rfl, .own _, .base (.dK hd2), T.kit_dict_Desk, _, rfl, iteF k⟩
    · exact ⟨.ref l, rfl, .ref l, .ref T.C_Desk, _, _, false, rfl, .own _, .base (.lst hl), T.kit_list_Desk, _, rfl, iteF k⟩
def sp_Desk___len (T : Txt K mg) : Sp := fun vs H Q _ => ∃ (p : Addr) (ws : List W3), vs = [.ref p] ∧ DeskAt T.C_Desk H p ws ∧ Q (.int ws.length) H
theorem ok_Desk___len (T : Txt K mg) {k : Nat} : FnOk P w K mg base CX0 (k + 1) T.f_Desk___len T.fd_Desk___len ["self"] (sp_Desk___len T) := by
  refine T.F_Desk___len.ok sc_Desk___len (fun vs H Q E h => ?_) (fun cdv A outer s H vs Q E hr h => ?_)
  · obtain ⟨p, ws, rfl, _⟩ := h
    rfl
  · obtain ⟨p, ws, rfl, D, q⟩ := h
    obtain ⟨dx, d, h1, h2⟩ := D.ex
    refine ⟨_, (pss_one (ps_ret (pe_callB (id := "len") call_lenD (by rfl) T.m_len (by decide +kernel) (pa_cons (pe_fld (pv 0) rfl) pa_nil)))), ?_⟩
    refine ⟨.ref p, rfl, p, T.C_Desk, dx, _, _, rfl, h1, T.cl_Desk, T.n_Desk_windows, fld_w d, d, _, rfl, h2, ?_⟩
    rw [List.length_map]
    exact q
def deskText (n : Nat) : Str := ("Desk(" : Str) ++ (toString (n : Int) : Str) ++ (" windows)" : Str)
def sp_Desk___repr (T : Txt K mg) : Sp := fun vs H Q _ => ∃ (p : Addr) (ws : List W3), vs = [.ref p] ∧ DeskAt T.C_Desk H p ws ∧ ws.length ≤ 24 ∧ Q (.str (deskText ws.length)) H
theorem ok_Desk___repr (T : Txt K mg) {k : Nat} : FnOk P w K mg base CX0 (k + 1) T.f_Desk___repr T.fd_Desk___repr ["self"] (sp_Desk___repr T) := by
  refine T.F_Desk___repr.ok sc_Desk___repr (fun vs H Q E h => ?_) (fun cdv A outer s H vs Q E hr h => ?_)
  · obtain ⟨p, ws, rfl, _⟩ := h
    rfl
  · obtain ⟨p, ws, rfl, D, hl, q⟩ := h
    obtain ⟨dx, d, h1, h2⟩ := D.ex
    refine ⟨_, (pss_one (ps_ret (pe_joined (PJ.cons pe_str (PJ.cons (pe_fmt (pe_callB (id := "len") call_lenD (by rfl) T.m_len (by decide +kernel) (pa_cons (pe_fld (pv 0) rfl) pa_nil))) (PJ.cons pe_str PJ.nil)))))), ?_⟩
    have small : ∀ n : Nat, n ≤ 24 → (n : Int).natAbs.log2 < 1920 ∧ (toString (n : Int) : Str).length ≤ 2 := by decide +kernel
    have sm := small ws.length hl
    refine ⟨_, rfl, by decide +kernel, ?_⟩
    refine ⟨.ref p, rfl, p, T.C_Desk, dx, _, _, rfl, h1, T.cl_Desk, T.n_Desk_windows, fld_w d, d, _, rfl, h2, .inr ⟨_, rfl, ?_, ?_⟩⟩
    · rw [List.length_map]
      exact sm.1
    · rw [List.length_map]
      refine ⟨_, rfl, ?_, _, rfl, ?_, ?_⟩
      · rw [str_len, app_codes, List.length_append, ← str_len, ← str_len]
        exact sz (by have := sm.2; have : ((Str.empty ++ "Desk(" : Str)).length = 5 := by decide +kernel
                     omega)
      · rw [str_len, app_codes, app_codes, List.length_append, List.length_append, ← str_len, ← str_len, ← str_len]
        exact sz (by have := sm.2; have : ((Str.empty ++ "Desk(" : Str)).length = 5 := by decide +kernel
                     have : ((" windows)" : Str)).length = 9 := by decide +kernel
                     omega)
      · have e : (Str.empty ++ ("Desk(" : Str) : Str) = ("Desk(" : Str) := by decide +kernel
        rw [e]
        exact q
end
end RK
namespace RK
open PySem PySem.Spec PyProof.Rows L2
section
variable {P : Program} {w : World} {K : PySem.W.Frag} {mg : Str → Option Value} {base : Heap}
theorem dp_strs {K : PySem.W.Frag} {H : Hp} : ∀ zs : List Str, DpAll K H (zs.map V.str) (zs.map PyData.str)
  | [] => .nil
  | z :: zs => .cons (.str z) (dp_strs zs)
theorem ok_strs {n : Nat} {zs : List Str} (h : zs.length ≤ 1000) : okD (n + 1) (.list (zs.map PyData.str)) = true := by
  show (decide ((zs.map PyData.str).length ≤ 1000) && (zs.map PyData.str).all (okD n)) = true
  rw [Bool.and_eq_true]
  refine ⟨decide_eq_true (by rw [List.length_map]; exact h), List.all_eq_true.mpr fun d hd => ?_⟩
  obtain ⟨z, _, rfl⟩ := List.mem_map.mp hd
  cases n <;> rfl
theorem dp_rects {K : PySem.W.Frag} {H : Hp} : ∀ {us : List W3}, (∀ w ∈ us, H w.2.1 = some (.tup w.2.2.vs)) → DpAll K H (us.map fun w => .ref w.2.1) (us.map fun w => .tuple w.2.2.ds)
  | [], _ => .nil
  | w :: us, h => .cons (.tup (.inl (.inl (h w List.mem_cons_self))) w.2.2.dp) (dp_rects fun v hv => h v (List.mem_cons_of_mem _ hv))
theorem lay_rects : ∀ us : List W3, PyData.canLayAll0 (us.map fun w => .tuple w.2.2.ds) = true
  | [] => rfl
  | w :: us => by
    show (PyData.canLay0 (.tuple w.2.2.ds) && PyData.canLayAll0 (us.map fun w => .tuple w.2.2.ds)) = true
    rw [lay_rects us]
    rfl
theorem shaped_rects (us : List W3) : SeqAt.shaped (.list (us.map fun w => .tuple w.2.2.ds)) = true := by
  unfold SeqAt.shaped
  rw [Bool.and_eq_true]
  refine ⟨lay_rects us, decide_eq_true ?_⟩
  have key : ∀ l : List W3, PyData.depthAll (l.map fun w => .tuple w.2.2.ds) ≤ 5 := by
    intro l
    induction l with
    | nil => decide
    | cons w l ih =>
      show max (PyData.depth (.tuple w.2.2.ds)) (PyData.depthAll (l.map fun w => .tuple w.2.2.ds)) ≤ 5
      have : PyData.depth (.tuple w.2.2.ds) ≤ 5 := by
        show _ ≤ 5
        simp [PyData.depth, PyData.depthAll, R.ds]
      omega
  have := key us
  show PyData.depthAll (us.map fun w => .tuple w.2.2.ds) + 1 ≤ 64
  omega
theorem no_names (d : Addr) : (fldW d).lookup ("names" : Str) = none := by
  have e : ((Str.ofString "names") == (Str.ofString "windows")) = false := by decide +kernel
  simp [fldW, List.lookup, e]
theorem no_rect (d : Addr) : (fldW d).lookup ("rectangle" : Str) = none := by
  have e : ((Str.ofString "rectangle") == (Str.ofString "windows")) = false := by decide +kernel
  simp [fldW, List.lookup, e]
theorem acc_tail {H0 H1 : Hp} {D : Addr} {ys zs : List V} {v : V} (n : H0 D = none) (s : Same H0 H1) (hD : H1 D = some (.lst ys)) (l : ys.length ≤ 1000) (e : zs = ys ++ [v]) :
    ∃ acc, H1 D = some (.lst acc) ∧ acc.length < sizeLine ∧ (Same H0 (upd H1 D (.lst (acc ++ [v]))) ∧ upd H1 D (.lst (acc ++ [v])) D = some (.lst zs)) :=
  ⟨ys, hD, szl (by omega), fun a o h => by
    rw [upd_ne (ne_of_none h n)]
    exact s _ _ h, by rw [upd_same, e]⟩
theorem map_take {α β : Type} (f : α → β) {l : List α} {j : Nat} (h : j < l.length) : (l.take (j + 1)).map f = (l.take j).map f ++ [f l[j]] := by
  rw [← List.take_append_getElem h, List.map_append]
  rfl
theorem item_name {us : List W3} {i : Nat} {v : V} (h : ((Names us).map V.str)[i]? = some v) : ∃ hi : i < us.length, v = .str us[i].1 := by
  have hi : i < us.length := by
    have := (List.getElem?_eq_some_iff.mp h).1
    unfold Names at this
    simpa using this
  refine ⟨hi, ?_⟩
  unfold Names at h
  rw [List.map_map, List.getElem?_map, List.getElem?_eq_getElem hi] at h
  exact (Option.some.inj h).symm
/-- the addresses ts hold the pairs of vs -/
def Prd (H : Hp) (ts : List Addr) (vs : List W3) : Prop := Paired (fun p (w : W3) => H p = some (.tup [.str w.1, .ref w.2.1])) ts vs
theorem Prd.mono {H H' : Hp} (k : ∀ p xs, H p = some (.tup xs) → H' p = some (.tup xs)) : ∀ {ts : List Addr} {vs : List W3}, Prd H ts vs → Prd H' ts vs
  | _, _, .nil => .nil
  | _, _, .cons h t => .cons (k _ _ h) (Prd.mono k t)
theorem Prd.snoc {H : Hp} {p : Addr} {w : W3} (h : H p = some (.tup [.str w.1, .ref w.2.1])) : ∀ {ts : List Addr} {vs : List W3}, Prd H ts vs → Prd H (ts ++ [p]) (vs ++ [w])
  | _, _, .nil => .cons h .nil
  | _, _, .cons g t => .cons g (Prd.snoc h t)
theorem Prd.pairs {K : PySem.W.Frag} {H : Hp} : ∀ {ts : List Addr} {vs : List W3}, Prd H ts vs → Paired (fun p (kv : Key × V) => SqT K H p [kV kv.1, kv.2]) ts (vs.map kvOf)
  | _, _, .nil => .nil
  | _, _, .cons h t => .cons (.inl (.inl h)) (Prd.pairs t)
theorem Prd.len {H : Hp} {ts : List Addr} {vs : List W3} (h : Prd H ts vs) : ts.length = vs.length := Paired.length h
/-- one more pair in the list at D -/
theorem pair_tail {H0 H1 : Hp} {D t : Addr} {ts : List Addr} {vs : List W3} {w : W3} {us : List W3} (n : H0 D = none) (s : Same H0 H1) (hD : H1 D = some (.lst (ts.map V.ref))) (pr : Prd H1 ts vs) (l : vs.length ≤ 1000) (nt : H1 t = none) (e : us = vs ++ [w]) :
    ∃ acc, (upd H1 t (.tup [.str w.1, .ref w.2.1])) D = some (.lst acc) ∧ acc.length < sizeLine ∧ (Same H0 (upd (upd H1 t (.tup [.str w.1, .ref w.2.1])) D (.lst (acc ++ [.ref t]))) ∧ ∃ ts : List Addr, upd (upd H1 t (.tup [.str w.1, .ref w.2.1])) D (.lst (acc ++ [.ref t])) D = some (.lst (ts.map V.ref)) ∧ Prd (upd (upd H1 t (.tup [.str w.1, .ref w.2.1])) D (.lst (acc ++ [.ref t]))) ts us) := by
  have s2 := same_new nt (.tup [.str w.1, .ref w.2.1])
  have hD2 := s2 _ _ hD
  refine ⟨_, hD2, szl (by rw [List.length_map, pr.len]; omega), fun a o h => ?_, ts ++ [t], by rw [upd_same, List.map_append]; rfl, ?_⟩
  · rw [upd_ne (ne_of_none h n)]
    exact s2 _ _ (s _ _ h)
  · rw [e]
    have k : ∀ p xs, (upd H1 t (.tup [.str w.1, .ref w.2.1])) p = some (.tup xs) → (upd (upd H1 t (.tup [.str w.1, .ref w.2.1])) D (.lst (ts.map V.ref ++ [.ref t]))) p = some (.tup xs) := fun p xs h => by
      rw [upd_ne (ne_of h hD2 (by intro z; cases z))]
      exact h
    exact (Prd.mono k (Prd.mono (fun p xs h => s2 _ _ h) pr)).snoc (k _ _ upd_same)
theorem cut_one (u : W3) (ur : List W3) : cutV ((Names (u :: ur)).map V.str) (some 1) none = (Names ur).map V.str := by
  unfold cutV
  rw [show HT.sIx ((Names (u :: ur)).map V.str).length 0 (some 1) = min 1 ((Names (u :: ur)).map V.str).length from HT.sIx_nat _ _ 1, HT.sIx_none]
  have e : min 1 ((Names (u :: ur)).map V.str).length = 1 := by
    unfold Names
    simp
  rw [e]
  exact List.take_of_length_le (by simp [Names])
theorem merge_self {vs : List W3} (h : (Names vs).Nodup) : mergeK [] (vs.map kvOf) = vs.map kvOf := by
  rw [show mergeK [] (vs.map kvOf) = _ from merge_kv vs [], merge_new vs [] h]
  rfl
def spLaw (K : PySem.W.Frag) : Sp := fun vs H Q _ => ∃ (a : Addr) (ns : List Int), vs = [.ref a] ∧ SqL K H a (ns.map V.int) ∧ ns.length ≤ 63 ∧ ∀ H', Q (.bl true) H'
theorem ok_law (T : Txt K mg) : FnOk P w K mg base CX0 9 T.f_law T.fd_law ["_law_script"] (spLaw K) := by
  refine T.F_law.ok sc_law (fun vs H Q E h => ?_) (fun cdv A outer s H vs Q E hr h => ?_)
  · obtain ⟨a, ns, rfl, _⟩ := h
    rfl
  · obtain ⟨a, ns, rfl, hS, hlen, q⟩ := h
    refine ⟨_, (pss_cons (ps_set (i := 1) sc_law.nd rfl (.inl rfl) (pe_call (ok_bag T) hr (by rfl) T.g_bag T.F_bag.kp T.b_bag .nil pass0 (pa_cons (pv 0) pa_nil)))
      (pss_cons (ps_for PassesOwn.never rfl (pi_range1 (by rfl) T.m_range (pa_cons pe_int pa_nil)) (pg_name (i := 2) sc_law.nd rfl (.inl rfl)) (pss_cons (ps_set (i := 3) sc_law.nd rfl (.inr rfl) (pe_call (ok_windows T) hr (by rfl) T.g_windows T.F_windows.kp T.b_windows .nil pass0 (pa_cons (pv 1) (pa_cons pe_int (pa_cons (pe_call (ok_of T) hr (by rfl) T.g_of T.F_of.kp T.b_of .nil pass0 (pa_cons (pv 1) (pa_cons (pe_lst (pa_cons pe_int (pa_cons pe_int pa_nil))) pa_nil))) pa_nil)))))
      (pss_cons (ps_set (i := 4) sc_law.nd rfl (.inl rfl) (pe_callTy (T := "dict") call_dictD (by rfl) T.m_dict (by decide +kernel) (pa_cons (pv 3) pa_nil)))
      (pss_cons (ps_asg (pe_tup (pa_cons (pe_make T.M_Desk (ok_Desk___init T) hr (by rfl) T.g_Desk T.b_Desk___init .nil pass0 (pa_cons (pv 4) pa_nil)) (pa_cons (pe_callB (id := "sorted") (call_sortedD rfl) (by rfl) T.m_sorted (by decide +kernel) (pa_cons (pv 3) pa_nil)) pa_nil))) (pg_tup (by rfl) (pgs_cons (pg_name (i := 5) sc_law.nd rfl (.inr rfl)) (pgs_cons (pg_name (i := 6) sc_law.nd rfl (.inl rfl)) pgs_nil))))
      (pss_cons (ps_dput (hu_of hr) (pv 4) (pe_ix (r := rIxL K) ix_list (pv 6) pe_int (fun _ _ => rfl)) (pe_tup (pa_cons pe_int (pa_cons pe_int (pa_cons (pe_op op_pow pe_int pe_int) (pa_cons (pe_op op_pow pe_int pe_int) pa_nil))))) rfl)
      (pss_cons (ps_for PassesOwn.never rfl (pi_range1 (by rfl) T.m_range (pa_cons pe_int pa_nil)) (pg_name (i := 7) sc_law.nd rfl (.inl rfl)) (pss_cons (ps_set (i := 8) sc_law.nd rfl (.inl rfl) (pe_meth0 (pv 5) T.cl_Desk T.M_Desk_names (ok_Desk_names T) hr T.b_Desk_names .nil pass0))
      (pss_cons (ps_if (pt_not (pt_val (pe_call (ok_like T) hr (by rfl) T.g_like T.F_like.kp T.b_like .nil pass0 (pa_cons (pe_lst (pa_cons (pv 8) (pa_cons (pe_callB (id := "len") (r := RK.rLenOwn T.C_Desk (sp_Desk___len T) E0) (RK.call_lenOwn (ok_Desk___len T) hr T.s_Desk___len T.i_Desk___len T.b_Desk___len pass0) (by rfl) T.m_len (by decide +kernel) (pa_cons (pv 5) pa_nil)) (pa_cons (pe_callB (id := "repr") (r := RK.rReprOwn T.C_Desk (sp_Desk___repr T) E0) (RK.call_reprOwn (ok_Desk___repr T) hr T.s_Desk___repr T.i_Desk___repr T.b_Desk___repr pass0) (by rfl) T.m_repr (by decide +kernel) (pa_cons (pv 5) pa_nil)) pa_nil)))) (pa_cons (pe_lst (pa_cons (pv 6) (pa_cons (pe_callB (id := "len") (r := RK.rLenQ K) RK.call_lenQ (by rfl) T.m_len (by decide +kernel) (pa_cons (pv 6) pa_nil)) (pa_cons (pe_op op_add_str (pe_op op_add_str pe_str (pe_callTy (T := "str") call_str_int (by rfl) T.m_str (by decide +kernel) (pa_cons (pe_callB (id := "len") (r := RK.rLenQ K) RK.call_lenQ (by rfl) T.m_len (by decide +kernel) (pa_cons (pv 6) pa_nil)) pa_nil))) pe_str) pa_nil)))) pa_nil))))) (pss_one (ps_ret pe_bl)) pss_nil)
      (pss_cons (ps_expr (pe_bm0 PySem.F.plainAttrs_list PySem.F.slot_list_reverse PySem.F.type_list_reverse mt_reverse (pv 8)))
      (pss_one (ps_expr (pe_bm PySem.F.plainAttrs_list PySem.F.slot_list_append PySem.F.type_list_append mt_append (pv 8) (pa_cons pe_str pa_nil))))))))
      (pss_cons (ps_if (pt_cmpR (r := rNeD K) (op_neD hr.units) (pe_lc (own := [("_law_name_z", 13)]) (g := gName 13) (tt := tYes) (by rfl) sc_law.nd (pi_list (pv 6)) (blkOk_by (own := [("_law_name_z", 13)]) (N := ["_law_script", "_law_bag_here", "_law_turn", "_law_rects", "_law_handed", "_law_desk", "_law_names_here", "_law_again", "_law_found", "_law_turned", "_law_odd", "_law_at", "_law_fewer", "_law_name_z"]) (sc := defScope s_law) (by decide +kernel)) (fun _ _ _ _ _ => (pg_name (i := 13) sc_law.nd rfl (Or.inl rfl))) (fun _ _ _ _ _ => pts_nil) (fun _ _ _ _ _ => (pe_meth (pv 5) T.cl_Desk T.M_Desk_rectangle (ok_Desk_rectangle T) hr T.b_Desk_rectangle .nil pass0 (pa_cons (pv 13) pa_nil)))) (pe_lc (own := [("_law_name_z", 13)]) (g := gName 13) (tt := tYes) (by rfl) sc_law.nd (pi_list (pv 6)) (blkOk_by (own := [("_law_name_z", 13)]) (N := ["_law_script", "_law_bag_here", "_law_turn", "_law_rects", "_law_handed", "_law_desk", "_law_names_here", "_law_again", "_law_found", "_law_turned", "_law_odd", "_law_at", "_law_fewer", "_law_name_z"]) (sc := defScope s_law) (by decide +kernel)) (fun _ _ _ _ _ => (pg_name (i := 13) sc_law.nd rfl (Or.inl rfl))) (fun _ _ _ _ _ => pts_nil) (fun _ _ _ _ _ => (pe_dget (hu_of hr) (pv 3) (pv 13) (fun _ _ => rfl)))) (nomark _)) (pss_one (ps_ret pe_bl)) pss_nil)
      (pss_cons (ps_if (pt_cmpR (r := rNeD K) (op_neD hr.units) (RK.pe_methK0 (pv 5) T.cl_Desk T.M_Desk_rectangle (ok_Desk_rectangle T) hr T.km_Desk_rectangle_name pass0 (pk_cons (pe_ix (r := rIxL K) ix_list (pv 6) (pe_un un_neg pe_int) (fun _ _ => rfl)) pk_nil)) (pe_dget (hu_of hr) (pv 3) (pe_ix (r := rIxL K) ix_list (pv 6) (pe_un un_neg pe_int) (fun _ _ => rfl)) (fun _ _ => rfl)) (nomark _)) (pss_one (ps_ret pe_bl)) pss_nil)
      (pss_cons (ps_par (i := 9) (j := 10) (by rfl) sc_law.nd rfl rfl (by decide) rfl rfl (pa_cons (pe_callTy (T := "dict") (call_dictP rfl) (by rfl) T.m_dict (by decide +kernel) (pa_cons (pe_lc (own := [("_law_name_z", 13)]) (g := gName 13) (tt := tYes) (by rfl) sc_law.nd (pi_list (pe_revL (pv 6))) (blkOk_by (own := [("_law_name_z", 13)]) (N := ["_law_script", "_law_bag_here", "_law_turn", "_law_rects", "_law_handed", "_law_desk", "_law_names_here", "_law_again", "_law_found", "_law_turned", "_law_odd", "_law_at", "_law_fewer", "_law_name_z"]) (sc := defScope s_law) (by decide +kernel)) (fun _ _ _ _ _ => (pg_name (i := 13) sc_law.nd rfl (Or.inl rfl))) (fun _ _ _ _ _ => pts_nil) (fun _ _ _ _ _ => (pe_tup (pa_cons (pv 13) (pa_cons (pe_dget (hu_of hr) (pv 3) (pv 13) (fun _ _ => rfl)) pa_nil))))) pa_nil)) (pa_cons (pe_callTy (T := "dict") call_dictD (by rfl) T.m_dict (by decide +kernel) (pa_cons (pv 3) pa_nil)) pa_nil)) (by rfl))
      (pss_cons (ps_set (i := 11) sc_law.nd rfl (.inl rfl) (pe_call (ok_of T) hr (by rfl) T.g_of T.F_of.kp T.b_of .nil pass0 (pa_cons (pv 1) (pa_cons (pv 6) pa_nil))))
      (pss_cons (ps_dput (hu_of hr) (pv 10) (pv 11) (pe_call (ok_rectangle T) hr (by rfl) T.g_rectangle T.F_rectangle.kp T.b_rectangle .nil pass0 (pa_cons (pv 1) (pa_cons pe_int pa_nil))) rfl)
      (pss_cons (ps_if (PW.pt (pw_or (pt_not (pt_cmpR (r := RK.rEqOwn T.C_Desk (sp_Desk___eq T) K E0) (RK.op_eqOwn (ok_Desk___eq T) hr T.s_Desk___eq T.i_Desk___eq T.b_Desk___eq pass0) (pv 5) (pe_makeK0 T.M_Desk (ok_Desk___init T) hr (by rfl) T.g_Desk T.kn_Desk_windows pass0 (pk_cons (pv 9) pk_nil)) (nomark _))) (pw_or (pt_cmpR op_ne (pe_cmpR (r := RK.rEqOwn T.C_Desk (sp_Desk___eq T) K E0) (RK.op_eqOwn (ok_Desk___eq T) hr T.s_Desk___eq T.i_Desk___eq T.b_Desk___eq pass0) (pv 5) (pe_make T.M_Desk (ok_Desk___init T) hr (by rfl) T.g_Desk T.b_Desk___init .nil pass0 (pa_cons (pv 10) pa_nil)) (nomark _)) (pe_cmpR (r := RK.rEqDct K) (RK.op_eqDct (RK.u65 hr)) (pv 10) (pv 3) (nomark _)) (nomark _)) (pw_or1 (pt_cmpR op_eq (pe_cmpR (r := RK.rNeOwn T.C_Desk (sp_Desk___eq T) K E0) (RK.op_neOwn (ok_Desk___eq T) hr T.s_Desk___eq T.i_Desk___eq T.ne_Desk T.mo_Desk T.b_Desk___eq pass0) (pv 5) (pe_make T.M_Desk (ok_Desk___init T) hr (by rfl) T.g_Desk T.b_Desk___init .nil pass0 (pa_cons (pv 10) pa_nil)) (nomark _)) (pe_cmpR (r := RK.rEqDct K) (RK.op_eqDct (RK.u65 hr)) (pv 10) (pv 3) (nomark _)) (nomark _)))))) (pss_one (ps_ret pe_bl)) pss_nil)
      (pss_cons (ps_set (i := 12) sc_law.nd rfl (.inl rfl) (pe_callTy (T := "dict") (call_dictP rfl) (by rfl) T.m_dict (by decide +kernel) (pa_cons (pe_lc (own := [("_law_name_z", 13)]) (g := gName 13) (tt := tYes) (by rfl) sc_law.nd (pi_list (pe_slice (r := rSlL K) sl_list (pv 6) (po_some pe_int) po_none)) (blkOk_by (own := [("_law_name_z", 13)]) (N := ["_law_script", "_law_bag_here", "_law_turn", "_law_rects", "_law_handed", "_law_desk", "_law_names_here", "_law_again", "_law_found", "_law_turned", "_law_odd", "_law_at", "_law_fewer", "_law_name_z"]) (sc := defScope s_law) (by decide +kernel)) (fun _ _ _ _ _ => (pg_name (i := 13) sc_law.nd rfl (Or.inl rfl))) (fun _ _ _ _ _ => pts_nil) (fun _ _ _ _ _ => (pe_tup (pa_cons (pv 13) (pa_cons (pe_dget (hu_of hr) (pv 3) (pv 13) (fun _ _ => rfl)) pa_nil))))) pa_nil)))
      (pss_one (ps_if (PW.pt (pw_or (PW.pt (pw_and (pt_cmpR op_gt (pe_callB (id := "len") call_lenD (by rfl) T.m_len (by decide +kernel) (pa_cons (pv 12) pa_nil)) pe_int (nomark _)) (pw_and1 (pt_cmpR (r := RK.rEqOwn T.C_Desk (sp_Desk___eq T) K E0) (RK.op_eqOwn (ok_Desk___eq T) hr T.s_Desk___eq T.i_Desk___eq T.b_Desk___eq pass0) (pv 5) (pe_make T.M_Desk (ok_Desk___init T) hr (by rfl) T.g_Desk T.b_Desk___init .nil pass0 (pa_cons (pv 12) pa_nil)) (nomark _))))) (pw_or (pt_cmpR (r := RK.rEqOwn T.C_Desk (sp_Desk___eq T) K E0) (RK.op_eqOwn (ok_Desk___eq T) hr T.s_Desk___eq T.i_Desk___eq T.b_Desk___eq pass0) (pv 5) (pv 3) (nomark _)) (pw_or1 (pt_cmpR (r := RK.rEqOwn T.C_Desk (sp_Desk___eq T) K E0) (RK.op_eqOwn (ok_Desk___eq T) hr T.s_Desk___eq T.i_Desk___eq T.b_Desk___eq pass0) (pv 5) (pv 6) (nomark _)))))) (pss_one (ps_ret pe_bl)) pss_nil)))))))))))))))
      (pss_one (ps_ret pe_bl)))), ?_⟩
    refine ⟨.ref a, rfl, a, ns, rfl, hS, hlen, fun H0 b s0 e0 nb ns0 B0 => ?_⟩
    refine ⟨3, rfl, by decide, by decide, for_range (n := 3) (fun _ σ H' => (∃ y2 y3 y4 y5 y6 y7 y8 y9 y10 y11 y12, σ = [some (.ref a), some (.ref b), y2, y3, y4, y5, y6, y7, y8, y9, y10, y11, y12, none]) ∧ Bag b s0 H') ⟨⟨none, none, none, none, none, none, none, none, none, none, none, rfl⟩, B0⟩ ?_ (fun σ H' _ => q H')⟩
    rintro turn σ H1 _ ⟨⟨y2, y3, y4, y5, y6, y7, y8, y9, y10, y11, y12, rfl⟩, B1⟩
    -- rects
    refine ⟨.ref b, rfl, .ref b, rfl, (by show 2 ≤ sizeLine; decide), fun l0 nl0 => ?_⟩
    obtain ⟨yb1, hb1⟩ := B1.hb
    refine ⟨b, s0, .ref l0, rfl, B1.new nl0, .inl ⟨l0, _, rfl, (ne_of_none hb1 nl0).symm, upd_same, by show 1 ≤ 2; decide, by show 2 ≤ 1000; decide, fun v H2 hv k2 B2 => ?_⟩⟩
    obtain ⟨hi, rfl, hi0, hi1⟩ : ∃ hi : Int, v = .int hi ∧ 1 ≤ hi ∧ hi ≤ 24 := by
      simp only [List.mem_cons, List.not_mem_nil, or_false] at hv
      rcases hv with h | h
      · exact ⟨4, h, by decide, by decide⟩
      · exact ⟨24, h, by decide, by decide⟩
    refine ⟨b, s0, hi, rfl, B2, hi0, hi1, fun ws d H3 W3' l1 l2 k3 B3 nd hd => ?_⟩
    have l24 : ws.length ≤ 24 := by omega
    -- handed
    refine ⟨.ref d, rfl, d, _, rfl, .inl hd, fun hh nhh => ?_⟩
    obtain ⟨H4, e4, s4, hh4⟩ := new_ex nhh (.dK (ws.map kvOf))
    rw [← e4]
    clear e4
    have hd4 := s4 _ _ hd
    have W4 := W3'.same s4
    have B4 := B3.same s4
    -- desk, names
    refine ⟨.ref hh, rfl, ?_⟩
    refine mk_desk hh4 W4 l1 l24 fun us x dd dx H5 pu s5 nx ndd hx hdd DA => ?_
    have hd5 := s5 _ _ hd4
    refine ⟨.ref d, rfl, d, _, Names ws, rfl, .inl hd5, keys_of ws, (by unfold Names; rw [List.length_map]; omega), fun ys l py so nl => ?_⟩
    have ey : ys = Names us := sorted_one (py.trans (pu.symm.map _)) (sorted_of so) DA.so
    subst ey
    refine ⟨(by show 2 ≤ sizeLine; decide), fun t nt => ?_⟩
    obtain ⟨yb5, hb5⟩ := (B4.same s5).hb
    have lb : l ≠ b := (ne_of_none hb5 nl).symm
    clear hb5
    have s6 := same_new nl (.lst ((Names us).map V.str))
    have s7 := same_new nt (.tup [.ref x, .ref l])
    refine ⟨t, _, rfl, .inl (.inl upd_same), rfl, .ref x, _, rfl, .ref l, _, rfl, rfl, ?_⟩
    have hl7 := s7 _ _ (upd_same (H := H5) (a := l) (o := .lst ((Names us).map V.str)))
    -- handed[names[0]] = ..
    obtain ⟨u0, ur, rfl⟩ : ∃ u0 ur, us = u0 :: ur := by
      cases us with
      | nil =>
        have := pu.length_eq
        simp at this
        omega
      | cons u0 ur => exact ⟨u0, ur, rfl⟩
    refine ⟨_, _, rfl, rfl, ⟨by decide, by decide, by decide⟩, _, _, rfl, rfl, ⟨by decide, by decide, by decide⟩, (by show 4 ≤ sizeLine; decide), fun t2 nt2 => ?_⟩
    obtain ⟨H8, e8, s8, ht8⟩ := new_ex nt2 (.tup [.int 0, .int 0, .int (10 ^ (9 : Int).toNat), .int (10 ^ (9 : Int).toNat)])
    have s68 := (s6.trans s7).trans s8
    have hl8 := s8 _ _ hl7
    have hh8 := s68 _ _ (s5 _ _ hh4)
    refine ⟨.ref hh, rfl, .ref l, rfl, l, _, 0, .str u0.1, rfl, rfl, SqL.of (e8 ▸ hl8), at0, hh, _, rfl, DPut.k (k := Sum.inr u0.1) (e8 ▸ hh8) (szl (by rw [List.length_map]; omega)), ?_⟩
    rw [← e8]
    clear e8
    have neH : ∀ {c : Addr} {o : HO}, H8 c = some o → c ≠ hh → upd H8 hh (.dK (putK (ws.map kvOf) (Sum.inr u0.1) (.ref t2))) c = some o := fun h n => by
      rw [upd_ne n]
      exact h
    have ddh : dd ≠ hh := fun z => by
      rw [z, hh4] at ndd
      cases ndd
    have DA8 := DA.same s68
    have hx8 := s68 _ _ hx
    have hdd8 := s68 _ _ hdd
    have hd8 := s68 _ _ hd5
    have W8 := (W4.same s5).same s68
    have B8 := (B4.same s5).same s68
    have tupne : ∀ {c : Addr} {xs : List V}, H8 c = some (.tup xs) → c ≠ hh := fun h => ne_of h hh8 (by intro z; cases z)
    have dhh : d ≠ hh := ne_of_none hd nhh
    obtain ⟨yb8, hb8⟩ := B8.hb
    obtain ⟨ys8, hs8⟩ := B8.hs
    have lhh : l ≠ hh := ne_of hl8 hh8 (by intro z; cases z)
    have bhh : hh ≠ b := (ne_of hb8 hh8 (by intro z; cases z)).symm
    have shh : hh ≠ s0 := (ne_of hs8 hh8 (by intro z; cases z)).symm
    have B9 : Bag b s0 (upd H8 hh (.dK (putK (ws.map kvOf) (Sum.inr u0.1) (.ref t2)))) := B8.upd bhh shh
    have W9 : Wins (upd H8 hh (.dK (putK (ws.map kvOf) (Sum.inr u0.1) (.ref t2)))) ws := ⟨W8.nd, W8.nm, fun w hw => neH (W8.at_ w hw) (tupne (W8.at_ w hw)), W8.gd⟩
    have hx9 := neH hx8 (ne_of hx8 hh8 (by intro z; cases z))
    have hdd9 := neH hdd8 ddh
    have hd9 := neH hd8 dhh
    have hl9 := neH hl8 lhh
    have DA9 : DeskAt T.C_Desk (upd H8 hh (.dK (putK (ws.map kvOf) (Sum.inr u0.1) (.ref t2)))) x (u0 :: ur) := ⟨⟨dx, dd, hx9, hdd9⟩, W9.perm pu, DA.so⟩
    clear neH tupne
    generalize upd H8 hh (.dK (putK (ws.map kvOf) (Sum.inr u0.1) (.ref t2))) = H9 at B9 W9 hx9 hdd9 hd9 hl9 DA9 ⊢
    clear hl8 hh8 s68 DA8 hx8 hdd8 hd8 W8 B8 hb8 hs8 ht8 s8 hl7 s7 s6 hd5 hx hdd DA hd4 W4 B4 s5 s4 hh4 nt2 nt
    generalize eus : u0 :: ur = us at pu DA9 hl9 hdd9 ⊢
    have lus : us.length = ws.length := pu.length_eq
    have lnm : (Names us).length = us.length := by unfold Names; rw [List.length_map]
    have Wu : Wins H9 us := DA9.win
    -- twice: names, len, repr
    refine ⟨2, rfl, by decide, by decide, for_range (n := 2) (fun _ σ H' => (∃ y7 y8, σ = [some (.ref a), some (.ref b), some (.int (0 + turn)), some (.ref d), some (.ref hh), some (.ref x), some (.ref l), y7, y8, y9, y10, y11, y12, none]) ∧ Same H9 H') ⟨⟨y7, y8, rfl⟩, Same.refl _⟩ ?_ ?_⟩
    · rintro ag σ H10 _ ⟨⟨y7, y8, rfl⟩, s10⟩
      have DA10 := DA9.same s10
      refine ⟨.ref x, rfl, x, dx, _, rfl, s10 _ _ hx9, no_names dd, x, us, rfl, DA10, fun f nf => ?_⟩
      obtain ⟨H11, e11, s11, hf11⟩ := new_ex nf (.lst ((Names us).map V.str))
      rw [← e11]
      clear e11
      have DA11 := DA10.same s11
      have hx11 := s11 _ _ (s10 _ _ hx9)
      have hl11 := s11 _ _ (s10 _ _ hl9)
      have small : ∀ n : Nat, n ≤ 24 → (n : Int).natAbs.log2 < 1920 ∧ (toString (n : Int) : Str).length ≤ 2 := by decide +kernel
      have sm := small us.length (by omega)
      refine ⟨.ref f, rfl, .ref x, rfl, x, dx, _, rfl, hx11, x, us, rfl, DA11, _, rfl, by omega, by omega, ?_⟩
      refine ⟨.ref x, rfl, x, dx, _, rfl, hx11, x, us, rfl, DA11, by omega, _, rfl, ?_⟩
      refine ⟨(by show 3 ≤ sizeLine; decide), fun l1' n1 => ?_⟩
      obtain ⟨H12, e12, s12, h12⟩ := new_ex n1 (.lst [.ref f, .int us.length, .str (deskText us.length)])
      rw [← e12]
      clear e12
      have hl12 := s12 _ _ hl11
      refine ⟨.ref l, rfl, .ref l, rfl, l, _, rfl, .inl (SqL.of hl12), .ref l, rfl, l, _, rfl, .inl (SqL.of hl12), ?_⟩
      have elen : (((Names us).map V.str).length : Int) = (us.length : Int) := by rw [List.length_map, lnm]
      rw [elen]
      refine ⟨_, rfl, sm.1, _, _, rfl, rfl, ?_, _, _, rfl, rfl, ?_, (by show 3 ≤ sizeLine; decide), fun l2' n2 => ?_⟩
      · have : (("Desk(" : Str)).length = 5 := by decide +kernel
        exact sz (by have := sm.2; omega)
      · rw [str_len, app_codes, List.length_append, ← str_len, ← str_len]
        exact sz (by have := sm.2; have : (("Desk(" : Str)).length = 5 := by decide +kernel
                     have : ((" windows)" : Str)).length = 9 := by decide +kernel
                     omega)
      · obtain ⟨H13, e13, s13, h13⟩ := new_ex n2 (.lst [.ref l, .int us.length, .str (deskText us.length)])
        have g1 : Dp K H13 (.ref l1') (.list [.list ((Names us).map PyData.str), .int us.length, .str (deskText us.length)]) :=
          .lst (SqL.of (s13 _ _ h12)) (.cons (.lst (SqL.of (s13 _ _ (s12 _ _ hf11))) (dp_strs _)) (.cons (.int _) (.cons (.str _) .nil)))
        have g2 : Dp K H13 (.ref l2') (.list [.list ((Names us).map PyData.str), .int us.length, .str (deskText us.length)]) :=
          .lst (SqL.of h13) (.cons (.lst (SqL.of (s13 _ _ hl12)) (dp_strs _)) (.cons (.int _) (.cons (.str _) .nil)))
        have okd : okD 4 (.list [.list ((Names us).map PyData.str), .int us.length, .str (deskText us.length)]) = true := by
          show (true && (okD 3 (.list ((Names us).map PyData.str)) && (true && (true && true)))) = true
          rw [ok_strs (n := 2) (by omega)]
          rfl
        refine ⟨.ref l1', .ref l2', _, rfl, e13 ▸ g1, e13 ▸ g2, okd, fun H14 s14 => ⟨_, rfl, iteF ?_⟩⟩
        have s1114 := (s12.trans (e13 ▸ s13)).trans s14
        have hf14 := s1114 _ _ hf11
        refine ⟨.ref f, rfl, .inl ⟨rfl, _, SqL.of hf14⟩, f, _, rfl, rfl, hf14, ?_⟩
        refine ⟨.ref f, rfl, .inl ⟨rfl, _, SqL.of upd_same⟩, f, _, _, rfl, rfl, upd_same, ?_, ?_⟩
        · rw [List.length_reverse, List.length_map, lnm]
          exact szl (by omega)
        · refine ⟨⟨_, _, rfl⟩, fun c o hc => ?_⟩
          have hc10 := s10 _ _ hc
          have hcf : c ≠ f := ne_of_none hc10 nf
          rw [upd_ne hcf, upd_ne hcf]
          exact s1114 _ _ (s11 _ _ hc10)
    · rintro σ H10 ⟨⟨y7, y8, rfl⟩, s10⟩
      have DA10 := DA9.same s10
      have hx10 := s10 _ _ hx9
      have hdd10 := s10 _ _ hdd9
      have hd10 := s10 _ _ hd9
      have hl10 := s10 _ _ hl9
      have B10 := B9.same s10
      have W10 := W9.same s10
      clear DA9 hx9 hdd9 hd9 hl9 B9 W9 Wu s10
      have dg : ∀ {H' : Hp} (w : W3), H' d = some (.dK (ws.map kvOf)) → w ∈ us → DGet H' d (.str w.1) (some (.ref w.2.1)) := fun w h hw => by
        have e : valV (ws.map kvOf) (Sum.inr w.1 : Key) = some (.ref w.2.1) := val_kv W10.nd (pu.mem_iff.mp hw)
        rw [← e]
        exact DGet.k (k := Sum.inr w.1) h
      -- the rectangles
      refine ⟨.ref l, rfl, l, rfl, ⟨_, SqL.of hl10⟩, fun D nD => ?_⟩
      refine lc_list (xs := (Names us).map V.str) (fun j H' => Same H10 H' ∧ H' D = some (.lst ((us.take j).map fun w => .ref w.2.1))) ⟨same_new nD _, upd_same⟩ (fun j H' _ hp => SqL.of (hp.1 _ _ hl10)) (fun j v H11 hv hp => ?_) (fun H11 hp => ?_)
      · obtain ⟨s11, hD⟩ := hp
        obtain ⟨hj, rfl⟩ := item_name hv
        exact ⟨rfl, .ref x, rfl, x, dx, _, rfl, s11 _ _ hx10, no_rect dd, .str us[j].1, rfl, x, us, us[j], rfl, DA10.same s11, List.getElem_mem hj, acc_tail nD s11 hD (by rw [List.length_map, List.length_take]; omega) (map_take _ hj)⟩
      · obtain ⟨s11, hD⟩ := hp
        have el : ((Names us).map V.str).length = us.length := by rw [List.length_map, lnm]
        rw [el, List.take_length] at hD
        refine ⟨.ref l, rfl, l, rfl, ⟨_, SqL.of (s11 _ _ hl10)⟩, fun D2 nD2 => ?_⟩
        refine lc_list (xs := (Names us).map V.str) (fun j H' => Same H11 H' ∧ H' D2 = some (.lst ((us.take j).map fun w => .ref w.2.1))) ⟨same_new nD2 _, upd_same⟩ (fun j H' _ hp => SqL.of (hp.1 _ _ (s11 _ _ hl10))) (fun j v H12 hv hp => ?_) (fun H12 hp => ?_)
        · obtain ⟨s12, hD2⟩ := hp
          obtain ⟨hj, rfl⟩ := item_name hv
          exact ⟨rfl, .ref d, rfl, .str us[j].1, rfl, d, _, rfl, dg us[j] (s12 _ _ (s11 _ _ hd10)) (List.getElem_mem hj), acc_tail nD2 s12 hD2 (by rw [List.length_map, List.length_take]; omega) (map_take _ hj)⟩
        · obtain ⟨s12, hD2⟩ := hp
          rw [el, List.take_length] at hD2
          have s112 := s11.trans s12
          have Wu12 := (W10.perm pu).same s112
          refine ⟨_, _, .lst (SqL.of (s12 _ _ hD)) (dp_rects Wu12.at_), .lst (SqL.of hD2) (dp_rects Wu12.at_), shaped_rects us, shaped_rects us, _, rfl, ?_⟩
          rw [SeqAt.eqv_refl _ (SeqAt.canLay_of_shaped (shaped_rects us))]
          refine iteF ?_
          -- the last one, by keyword
          have DA12 := DA10.same s112
          have hx12 := s112 _ _ hx10
          have hdd12 := s112 _ _ hdd10
          have hd12 := s112 _ _ hd10
          have hl12 := s112 _ _ hl10
          have B12 := B10.same s112
          have W12 := W10.same s112
          clear Wu12 hD hD2 nD nD2 s112 s11 s12 DA10 hx10 hdd10 hd10 hl10 B10
          obtain ⟨ui, ul, eu⟩ : ∃ ui ul, us = ui ++ [ul] := by
            rcases List.eq_nil_or_concat us with h | ⟨ui, ul, h⟩
            · rw [h] at lus
              simp at lus
              omega
            · exact ⟨ui, ul, by simpa using h⟩
          have hul : ul ∈ us := by
            rw [eu]
            exact List.mem_append_right _ List.mem_cons_self
          have lst : atI ((Names us).map V.str) (-1) = some (.str ul.1) := by
            have e : (Names us).map V.str = ((Names ui).map V.str) ++ [.str ul.1] := by
              rw [eu]
              unfold Names
              simp
            rw [e]
            exact atI_last _ _
          have dpl : Dp K H12 (.ref ul.2.1) (.tuple ul.2.2.ds) := .tup (.inl (.inl (DA12.win.at_ ul hul))) ul.2.2.dp
          refine ⟨.ref x, rfl, x, dx, _, rfl, hx12, no_rect dd, .ref l, rfl, 1, rfl, l, _, -1, .str ul.1, rfl, rfl, SqL.of hl12, lst, x, us, ul, rfl, DA12, hul, ?_⟩
          refine ⟨.ref d, rfl, .ref l, rfl, 1, rfl, l, _, -1, .str ul.1, rfl, rfl, SqL.of hl12, lst, d, _, rfl, dg ul hd12 hul, .tuple ul.2.2.ds, .tuple ul.2.2.ds, dpl, dpl, rfl, rfl, _, rfl, ?_⟩
          rw [(eqv_ds _ _).mpr rfl]
          refine iteF ?_
          -- turned
          refine ⟨.ref l, rfl, l, _, rfl, SqL.of hl12, fun rv nrv => ?_⟩
          have erv : ((Names us).map V.str).reverse = (Names us.reverse).map V.str := by
            unfold Names
            rw [← List.map_reverse, ← List.map_reverse]
          rw [erv]
          obtain ⟨H13, e13, s13, hrv⟩ := new_ex nrv (.lst ((Names us.reverse).map V.str))
          rw [← e13]
          clear e13
          refine ⟨rv, rfl, ⟨_, SqL.of hrv⟩, fun D nD => ?_⟩
          have Wr : Wins H12 us.reverse := DA12.win.perm (List.reverse_perm us)
          refine lc_list (xs := (Names us.reverse).map V.str) (fun j H' => Same H13 H' ∧ ∃ ts : List Addr, H' D = some (.lst (ts.map V.ref)) ∧ Prd H' ts (us.reverse.take j)) ⟨same_new nD _, [], upd_same, .nil⟩ (fun j H' _ hp => SqL.of (hp.1 _ _ hrv)) (fun j v H14 hv hp => ?_) (fun H14 hp => ?_)
          · obtain ⟨s14, ts, hD, pr⟩ := hp
            obtain ⟨hj, rfl⟩ := item_name hv
            refine ⟨rfl, .str us.reverse[j].1, rfl, .ref d, rfl, .str us.reverse[j].1, rfl, d, _, rfl, dg us.reverse[j] (s14 _ _ (s13 _ _ hd12)) (List.mem_reverse.mp (List.getElem_mem hj)), (by show 2 ≤ sizeLine; decide), fun t nt => ?_⟩
            exact pair_tail nD s14 hD pr (by rw [List.length_take, List.length_reverse]; omega) nt (List.take_append_getElem hj).symm
          · obtain ⟨s14, ts, hD, pr⟩ := hp
            have el2 : ((Names us.reverse).map V.str).length = us.reverse.length := by unfold Names; rw [List.length_map, List.length_map]
            rw [el2, List.take_length] at pr
            refine ⟨D, ts, us.reverse.map kvOf, rfl, SqL.of hD, pr.pairs, fun tn ntn => ?_⟩
            rw [merge_self Wr.nd]
            obtain ⟨H15, e15, s15, htn⟩ := new_ex ntn (.dK (us.reverse.map kvOf))
            rw [← e15]
            clear e15
            -- odd
            have s1215 := (s13.trans s14).trans s15
            refine ⟨.ref d, rfl, d, _, rfl, .inl (s1215 _ _ hd12), fun od nod => ?_⟩
            obtain ⟨H16, e16, s16, hod⟩ := new_ex nod (.dK (ws.map kvOf))
            rw [← e16]
            clear e16
            refine ⟨_, _, rfl, ?_⟩
            have s1216 := s1215.trans s16
            have htn16 := s16 _ _ htn
            have tod : tn ≠ od := ne_of_none htn nod
            have dod : d ≠ od := ne_of_none (s1215 _ _ hd12) nod
            have ddod : dd ≠ od := ne_of_none (s1215 _ _ hdd12) nod
            have DA16 := DA12.same s1216
            have hx16 := s1216 _ _ hx12
            have hdd16 := s1216 _ _ hdd12
            have hd16 := s1216 _ _ hd12
            have hl16 := s1216 _ _ hl12
            have B16 := B12.same s1216
            have W16 := W12.same s1216
            have Wr16 := Wr.same s1216
            clear hD pr nD hrv nrv s1215 s1216 s13 s14 s15 s16 htn nod ntn DA12 hx12 hdd12 hd12 hl12 B12 W12 Wr dpl
            -- at
            obtain ⟨yb16, hb16⟩ := B16.hb
            refine ⟨.ref b, rfl, .ref l, rfl, b, s0, .ref l, rfl, B16, .inl ⟨l, _, rfl, lb, hl16, by rw [el]; omega, by rw [el]; omega, fun v H17 hv k17 B17 => ?_⟩⟩
            obtain ⟨w0, hw0, rfl⟩ : ∃ w0 ∈ us, v = .str w0.1 := by
              obtain ⟨z, hz, rfl⟩ := List.mem_map.mp hv
              obtain ⟨w0, hw0, rfl⟩ := List.mem_map.mp hz
              exact ⟨w0, hw0, rfl⟩
            -- odd[at] = ..
            refine ⟨.ref b, rfl, b, s0, 1, rfl, B17, by decide, by decide, fun x1 y1 x2 y2' H18 o k18 B18 no ho a1 a2 a3 a4 a5 a6 a7 a8 => ?_⟩
            have g0 := good_scaled (c := 1) (by decide) (by decide) a1 a2 a3 a4 a5 a6 a7 a8
            have k1618 := k17.trans k18
            have hod18 := k1618.dK hb16 hod
            refine ⟨.ref od, rfl, .str w0.1, rfl, od, _, rfl, DPut.k (k := Sum.inr w0.1) hod18 (szl (by rw [List.length_map]; omega)), ?_⟩
            rw [show putK (ws.map kvOf) (Sum.inr w0.1) (.ref o) = (putW ws (w0.1, o, ⟨1 * x1, 1 * y1, 1 * x2, 1 * y2'⟩)).map kvOf from put_kv ws (w0.1, o, ⟨1 * x1, 1 * y1, 1 * x2, 1 * y2'⟩)]
            generalize hr0 : (⟨1 * x1, 1 * y1, 1 * x2, 1 * y2'⟩ : R) = r0 at ho g0 ⊢
            have ke : Keep od H18 (upd H18 od (.dK ((putW ws (w0.1, o, r0)).map kvOf))) := (Keep.refl od H18).upd
            have tupo : ∀ {c : Addr} {xs : List V}, H18 c = some (.tup xs) → c ≠ od := fun h => ne_of h hod18 (by intro z; cases z)
            have hx18 := k1618 _ _ (ne_of hx16 hb16 (by intro z; cases z)) hx16
            have hx19 := ke _ _ (ne_of hx18 hod18 (by intro z; cases z)) hx18
            have hdd19 := ke _ _ ddod (k1618.dK hb16 hdd16)
            have hd19 := ke _ _ dod (k1618.dK hb16 hd16)
            have htn19 := ke _ _ tod (k1618.dK hb16 htn16)
            have hl18 := k1618 _ _ lb hl16
            have hl19 := ke _ _ (ne_of hl18 hod18 (by intro z; cases z)) hl18
            have ho19 := ke _ _ (tupo ho) ho
            have hod19 : (upd H18 od (.dK ((putW ws (w0.1, o, r0)).map kvOf))) od = some (.dK ((putW ws (w0.1, o, r0)).map kvOf)) := upd_same
            obtain ⟨yb18, hb18⟩ := B18.hb
            obtain ⟨ys18, hs18⟩ := B18.hs
            have B19 : Bag b s0 (upd H18 od (.dK ((putW ws (w0.1, o, r0)).map kvOf))) := B18.upd (ne_of hb18 hod18 (by intro z; cases z)).symm (ne_of hs18 hod18 (by intro z; cases z)).symm
            have W18 := W16.keep k1618 B16
            have W19 : Wins (upd H18 od (.dK ((putW ws (w0.1, o, r0)).map kvOf))) ws := ⟨W18.nd, W18.nm, fun w hw => ke _ _ (tupo (W18.at_ w hw)) (W18.at_ w hw), W18.gd⟩
            have nm0 : NameOk w0.1 := W18.nm w0 (pu.mem_iff.mp hw0)
            have Wo : Wins (upd H18 od (.dK ((putW ws (w0.1, o, r0)).map kvOf))) (putW ws (w0.1, o, r0)) := by
              refine ⟨put_nodup _ W19.nd, fun w hw => ?_, fun w hw => ?_, fun w hw => ?_⟩
              · rcases put_mem hw with rfl | h
                · exact nm0
                · exact W19.nm w h
              · rcases put_mem hw with rfl | h
                · exact ho19
                · exact W19.at_ w h
              · rcases put_mem hw with rfl | h
                · exact g0
                · exact W19.gd w h
            have lo : (putW ws (w0.1, o, r0)).length ≤ 24 := by
              have e := put_names ws (w0.1, o, r0)
              rw [if_pos (show w0.1 ∈ Names ws from List.mem_map.mpr ⟨w0, pu.mem_iff.mp hw0, rfl⟩)] at e
              have e2 : (Names (putW ws (w0.1, o, r0))).length = (Names ws).length := by rw [e]
              unfold Names at e2
              rw [List.length_map, List.length_map] at e2
              omega
            have lo1 : 1 ≤ (putW ws (w0.1, o, r0)).length := (put_len _ _).2.2
            have DA19 : DeskAt T.C_Desk (upd H18 od (.dK ((putW ws (w0.1, o, r0)).map kvOf))) x us := ⟨⟨dx, dd, hx19, hdd19⟩, W19.perm pu, DA16.so⟩
            clear ke tupo hx18 hl18 W18 hb18 hs18 ho19
            generalize upd H18 od (.dK ((putW ws (w0.1, o, r0)).map kvOf)) = H19 at hx19 hdd19 hd19 htn19 hl19 hod19 B19 W19 Wo DA19 ⊢
            clear hod18 ho k1618 k18 k17 B17 B18 DA16 hx16 hdd16 hd16 hl16 B16 W16 Wr16 htn16 hod hb16
            generalize putW ws (w0.1, o, r0) = os at hod19 Wo lo lo1 ⊢
            have pnr : (us.map nr).Perm (ws.map nr) := pu.map nr
            -- desk == Desk(windows=turned)
            refine ⟨.ref x, rfl, .ref tn, rfl, rfl, rfl, ?_⟩
            refine mk_desk (ws := us.reverse) htn19 (DA19.win.perm (List.reverse_perm us)) (by rw [List.length_reverse]; omega) (by rw [List.length_reverse]; omega) fun u2 x2d dd2 dx2 H20 pu2 s20 nx2 ndd2 hx2 hdd2 DA2 => ?_
            refine ⟨x, dx, _, rfl, s20 _ _ hx19, .ins hx2, x, us, .ref x2d, rfl, DA19.same s20, .inl ⟨x2d, u2, rfl, DA2, fun b1 hb1 => ⟨b1, rfl, b1, rfl, ?_⟩⟩⟩
            have b1t : b1 = true := hb1.mpr ((List.reverse_perm us).symm.map nr |>.trans (pu2.symm.map nr))
            subst b1t
            refine iteF ?_
            -- (desk == Desk(odd)) != (odd == rects)
            refine ⟨.ref x, rfl, .ref od, rfl, ?_⟩
            refine mk_desk (ws := os) (s20 _ _ hod19) (Wo.same s20) lo1 lo fun u3 x3d dd3 dx3 H21 pu3 s21 nx3 ndd3 hx3 hdd3 DA3 => ?_
            have s1921 := s20.trans s21
            refine ⟨x, dx, _, rfl, s1921 _ _ hx19, .ins hx3, x, us, .ref x3d, rfl, DA19.same s1921, .inl ⟨x3d, u3, rfl, DA3, fun b2 hb2 => ⟨b2, rfl, ?_⟩⟩⟩
            refine ⟨.ref od, rfl, .ref d, rfl, od, d, _, _, _, _, rfl, rfl, s1921 _ _ hod19, s1921 _ _ hd19, Wins.datD (Wo.same s1921).at_, Wins.datD (W19.same s1921).at_, rfl, _, rfl, ?_⟩
            have b3 := eqvD_iff (ws := os) (us := ws) Wo.nd W19.nd
            have e23 : ∀ bb : Bool, ∀ v3 : List W3, v3.Perm os → (bb = true ↔ (us.map nr).Perm (v3.map nr)) → bb = eqvD (os.map dOf) (ws.map dOf) := fun bb v3 p3 h => by
              refine bool_same h (b3.trans ⟨fun p => ?_, fun p => ?_⟩)
              · exact pnr.trans (p.symm.trans (p3.symm.map nr))
              · exact (p3.symm.map nr).trans (p.symm.trans pnr)
            refine iteNS (congrArg V.bl (e23 b2 u3 pu3 hb2)) ?_
            -- (desk != Desk(odd)) == (odd == rects)
            refine ⟨.ref x, rfl, .ref od, rfl, ?_⟩
            refine mk_desk (ws := os) (s1921 _ _ hod19) (Wo.same s1921) lo1 lo fun u4 x4d dd4 dx4 H22 pu4 s22 nx4 ndd4 hx4 hdd4 DA4 => ?_
            have s1922 := s1921.trans s22
            refine ⟨x, dx, _, rfl, s1922 _ _ hx19, .ins hx4, x, us, .ref x4d, rfl, DA19.same s1922, .inl ⟨x4d, u4, rfl, DA4, fun b4 hb4 => ⟨b4, rfl, ?_⟩⟩⟩
            refine ⟨.ref od, rfl, .ref d, rfl, od, d, _, _, _, _, rfl, rfl, s1922 _ _ hod19, s1922 _ _ hd19, Wins.datD (Wo.same s1922).at_, Wins.datD (W19.same s1922).at_, rfl, _, rfl, ?_⟩
            rw [← e23 b4 u4 pu4 hb4, decide_eq_false (show ¬ V.bl (!b4) = V.bl b4 by cases b4 <;> decide)]
            refine iteF ?_
            -- fewer
            have DA22 := DA19.same s1922
            have hx22 := s1922 _ _ hx19
            have hd22 := s1922 _ _ hd19
            have hl22 := s1922 _ _ hl19
            have B22 := B19.same s1922
            clear DA19 hx19 hdd19 hd19 hl19 B19 htn19 hod19 s20 s21 s22 s1921 s1922 hx2 hx3 hx4 hdd2 hdd3 hdd4 DA2 DA3 DA4 nx2 nx3 nx4 ndd2 ndd3 ndd4 b3 e23 hb2 hb4
            subst eus
            refine ⟨.ref l, rfl, 1, rfl, l, _, rfl, SqL.of hl22, fun sl nsl => ?_⟩
            rw [cut_one u0 ur]
            obtain ⟨H23, e23, s23, hsl⟩ := new_ex nsl (.lst ((Names ur).map V.str))
            rw [← e23]
            clear e23
            have ndr : (Names ur).Nodup := (List.nodup_cons.mp DA22.win.nd).2
            have Wur : Wins H22 ur := DA22.win.sub ndr fun w hw => List.mem_cons_of_mem _ hw
            refine ⟨sl, rfl, ⟨_, SqL.of hsl⟩, fun D nD => ?_⟩
            refine lc_list (xs := (Names ur).map V.str) (fun j H' => Same H23 H' ∧ ∃ ts : List Addr, H' D = some (.lst (ts.map V.ref)) ∧ Prd H' ts (ur.take j)) ⟨same_new nD _, [], upd_same, .nil⟩ (fun j H' _ hp => SqL.of (hp.1 _ _ hsl)) (fun j v H24 hv hp => ?_) (fun H24 hp => ?_)
            · obtain ⟨s24, ts, hD, pr⟩ := hp
              obtain ⟨hj, rfl⟩ := item_name hv
              have hur : ur.length ≤ 24 := by simp at lus; omega
              refine ⟨rfl, .str ur[j].1, rfl, .ref d, rfl, .str ur[j].1, rfl, d, _, rfl, dg ur[j] (s24 _ _ (s23 _ _ hd22)) (List.mem_cons_of_mem _ (List.getElem_mem hj)), (by show 2 ≤ sizeLine; decide), fun t nt => ?_⟩
              exact pair_tail nD s24 hD pr (by rw [List.length_take]; omega) nt (List.take_append_getElem hj).symm
            · obtain ⟨s24, ts, hD, pr⟩ := hp
              have el2 : ((Names ur).map V.str).length = ur.length := by unfold Names; rw [List.length_map, List.length_map]
              rw [el2, List.take_length] at pr
              refine ⟨D, ts, ur.map kvOf, rfl, SqL.of hD, pr.pairs, fun fw nfw => ?_⟩
              rw [merge_self ndr]
              obtain ⟨H25, e25, s25, hfw⟩ := new_ex nfw (.dK (ur.map kvOf))
              rw [← e25]
              clear e25
              have s2225 := (s23.trans s24).trans s25
              -- the last tests
              refine ⟨.ref fw, rfl, fw, _, rfl, hfw, _, _, rfl, rfl, _, rfl, ite2 (fun c => ?_) (fun c => ?_)⟩
              · have c := of_decide_eq_true c
                rw [List.length_map] at c
                refine ⟨.ref x, rfl, .ref fw, rfl, ?_⟩
                have lur : ur.length + 1 = ws.length := by simpa using lus
                refine mk_desk (ws := ur) hfw (Wur.same s2225) (by omega) (by omega) fun u5 x5d dd5 dx5 H26 pu5 s26 nx5 ndd5 hx5 hdd5 DA5 => ?_
                have s2226 := s2225.trans s26
                have hx26 := s2226 _ _ hx22
                have hd26 := s2226 _ _ hd22
                have hl26 := s2226 _ _ hl22
                have DA26 := DA22.same s2226
                refine ⟨x, dx, _, rfl, hx26, .ins hx5, x, _, .ref x5d, rfl, DA26, .inl ⟨x5d, u5, rfl, DA5, fun b5 hb5 => ⟨b5, rfl, b5, rfl, ?_⟩⟩⟩
                have b5f : b5 = false := by
                  cases b5 with
                  | false => rfl
                  | true =>
                    have h1 := (hb5.mp rfl).length_eq
                    rw [List.length_map, List.length_map, pu5.length_eq] at h1
                    simp at h1
                subst b5f
                refine iteF ⟨.ref x, rfl, .ref d, rfl, x, dx, _, rfl, hx26, .dK hd26 T.sub_dict_Desk, x, _, .ref d, rfl, DA26, .inr (.inl ⟨d, _, rfl, hd26, false, rfl, false, rfl, iteF ?_⟩)⟩
                refine ⟨.ref x, rfl, .ref l, rfl, x, dx, _, rfl, hx26, .lst hl26 T.sub_list_Desk, x, _, .ref l, rfl, DA26, .inr (.inr ⟨l, _, rfl, hl26, false, rfl, false, rfl, iteF ?_⟩)⟩
                exact ⟨⟨_, _, _, _, _, _, _, _, _, _, _, rfl⟩, B22.same s2226⟩
              · have hx26 := s2225 _ _ hx22
                have hd26 := s2225 _ _ hd22
                have hl26 := s2225 _ _ hl22
                have DA26 := DA22.same s2225
                refine iteF ⟨.ref x, rfl, .ref d, rfl, x, dx, _, rfl, hx26, .dK hd26 T.sub_dict_Desk, x, _, .ref d, rfl, DA26, .inr (.inl ⟨d, _, rfl, hd26, false, rfl, false, rfl, iteF ?_⟩)⟩
                refine ⟨.ref x, rfl, .ref l, rfl, x, dx, _, rfl, hx26, .lst hl26 T.sub_list_Desk, x, _, .ref l, rfl, DA26, .inr (.inr ⟨l, _, rfl, hl26, false, rfl, false, rfl, iteF ?_⟩)⟩
                exact ⟨⟨_, _, _, _, _, _, _, _, _, _, _, rfl⟩, B22.same s2225⟩
end
theorem all_mk {l : PySem.W.OpenLaw} {w : World} {K : PySem.W.Frag} {h : Heap} {mg : Str → Option Value} {fa : Addr} (X : K.In h) (G : h.Ns mainGlobals mg) (hfa : mg "law" = some (.ref fa))
    {C_Desk : Addr} (aC_Desk : PySem.W.nsIn K mainGlobals "Desk" = some (some (.ref C_Desk)))
    {f0 : Addr} {od0 an0 : Option Addr} {sl0 : Array (Option Value)} {oc0 kV0 dc0 pm0 cd0 ct0 : Value}
    (a0 : PySem.W.nsIn K mainGlobals "is_rectangle" = some (some (.ref f0)))
    (l0 : K.lookup f0 = some ⟨oc0, od0, .func (PySem.W.fnOf "is_rectangle" "is_rectangle" (defArgs s_is_rectangle) (defBody s_is_rectangle) (defScope s_is_rectangle) .none kV0 dc0 pm0 an0 cd0 ct0), sl0⟩) (c0 : PySem.W.codeIn K cd0 "is_rectangle" = true) (k0 : PySem.W.keepIn K (.ref f0) = true)
    {f1 : Addr} {od1 an1 : Option Addr} {sl1 : Array (Option Value)} {oc1 kV1 dc1 pm1 cd1 ct1 : Value}
    (a1 : PySem.W.nsIn K mainGlobals "has_four_numbers" = some (some (.ref f1)))
    (l1 : K.lookup f1 = some ⟨oc1, od1, .func (PySem.W.fnOf "has_four_numbers" "has_four_numbers" (defArgs s_has_four_numbers) (defBody s_has_four_numbers) (defScope s_has_four_numbers) .none kV1 dc1 pm1 an1 cd1 ct1), sl1⟩) (c1 : PySem.W.codeIn K cd1 "has_four_numbers" = true) (k1 : PySem.W.keepIn K (.ref f1) = true)
    {f2 : Addr} {od2 an2 : Option Addr} {sl2 : Array (Option Value)} {oc2 kV2 dc2 pm2 cd2 ct2 : Value}
    (a2 : PySem.W.nsIn K mainGlobals "is_name" = some (some (.ref f2)))
    (l2 : K.lookup f2 = some ⟨oc2, od2, .func (PySem.W.fnOf "is_name" "is_name" (defArgs s_is_name) (defBody s_is_name) (defScope s_is_name) .none kV2 dc2 pm2 an2 cd2 ct2), sl2⟩) (c2 : PySem.W.codeIn K cd2 "is_name" = true) (k2 : PySem.W.keepIn K (.ref f2) = true)
    {f3 : Addr} {od3 an3 : Option Addr} {sl3 : Array (Option Value)} {oc3 kV3 dc3 pm3 cd3 ct3 : Value}
    (a3 : PySem.W.nsIn K mainGlobals "check_windows" = some (some (.ref f3)))
    (l3 : K.lookup f3 = some ⟨oc3, od3, .func (PySem.W.fnOf "check_windows" "check_windows" (defArgs s_check_windows) (defBody s_check_windows) (defScope s_check_windows) .none kV3 dc3 pm3 an3 cd3 ct3), sl3⟩) (c3 : PySem.W.codeIn K cd3 "check_windows" = true) (k3 : PySem.W.keepIn K (.ref f3) = true)
    {f4 : Addr} {od4 an4 : Option Addr} {sl4 : Array (Option Value)} {oc4 kV4 dc4 pm4 cd4 ct4 : Value}
    (a4 : PySem.W.nsIn K mainGlobals "_law_bag" = some (some (.ref f4)))
    (l4 : K.lookup f4 = some ⟨oc4, od4, .func (PySem.W.fnOf "_law_bag" "_law_bag" (defArgs s_bag) (defBody s_bag) (defScope s_bag) .none kV4 dc4 pm4 an4 cd4 ct4), sl4⟩) (c4 : PySem.W.codeIn K cd4 "_law_bag" = true) (k4 : PySem.W.keepIn K (.ref f4) = true)
    {f5 : Addr} {od5 an5 : Option Addr} {sl5 : Array (Option Value)} {oc5 kV5 dc5 pm5 cd5 ct5 : Value}
    (a5 : PySem.W.nsIn K mainGlobals "_law_pull" = some (some (.ref f5)))
    (l5 : K.lookup f5 = some ⟨oc5, od5, .func (PySem.W.fnOf "_law_pull" "_law_pull" (defArgs s_pull) (defBody s_pull) (defScope s_pull) .none kV5 dc5 pm5 an5 cd5 ct5), sl5⟩) (c5 : PySem.W.codeIn K cd5 "_law_pull" = true) (k5 : PySem.W.keepIn K (.ref f5) = true)
    {f6 : Addr} {od6 an6 : Option Addr} {sl6 : Array (Option Value)} {oc6 kV6 dc6 pm6 cd6 ct6 : Value}
    (a6 : PySem.W.nsIn K mainGlobals "_law_of" = some (some (.ref f6)))
    (l6 : K.lookup f6 = some ⟨oc6, od6, .func (PySem.W.fnOf "_law_of" "_law_of" (defArgs s_of) (defBody s_of) (defScope s_of) .none kV6 dc6 pm6 an6 cd6 ct6), sl6⟩) (c6 : PySem.W.codeIn K cd6 "_law_of" = true) (k6 : PySem.W.keepIn K (.ref f6) = true)
    {f7 : Addr} {od7 an7 : Option Addr} {sl7 : Array (Option Value)} {oc7 kV7 dc7 pm7 cd7 ct7 : Value}
    (a7 : PySem.W.nsIn K mainGlobals "_law_like" = some (some (.ref f7)))
    (l7 : K.lookup f7 = some ⟨oc7, od7, .func (PySem.W.fnOf "_law_like" "_law_like" (defArgs s_like) (defBody s_like) (defScope s_like) .none kV7 dc7 pm7 an7 cd7 ct7), sl7⟩) (c7 : PySem.W.codeIn K cd7 "_law_like" = true) (k7 : PySem.W.keepIn K (.ref f7) = true)
    {f8 : Addr} {od8 an8 : Option Addr} {sl8 : Array (Option Value)} {oc8 kV8 dc8 pm8 cd8 ct8 : Value}
    (a8 : PySem.W.nsIn K mainGlobals "_law_mixed" = some (some (.ref f8)))
    (l8 : K.lookup f8 = some ⟨oc8, od8, .func (PySem.W.fnOf "_law_mixed" "_law_mixed" (defArgs s_mixed) (defBody s_mixed) (defScope s_mixed) .none kV8 dc8 pm8 an8 cd8 ct8), sl8⟩) (c8 : PySem.W.codeIn K cd8 "_law_mixed" = true) (k8 : PySem.W.keepIn K (.ref f8) = true)
    {f9 : Addr} {od9 an9 : Option Addr} {sl9 : Array (Option Value)} {oc9 kV9 dc9 pm9 cd9 ct9 : Value}
    (a9 : PySem.W.nsIn K mainGlobals "_law_names" = some (some (.ref f9)))
    (l9 : K.lookup f9 = some ⟨oc9, od9, .func (PySem.W.fnOf "_law_names" "_law_names" (defArgs s_names) (defBody s_names) (defScope s_names) .none kV9 dc9 pm9 an9 cd9 ct9), sl9⟩) (c9 : PySem.W.codeIn K cd9 "_law_names" = true) (k9 : PySem.W.keepIn K (.ref f9) = true)
    {f10 : Addr} {od10 an10 : Option Addr} {sl10 : Array (Option Value)} {oc10 kV10 dc10 pm10 cd10 ct10 : Value}
    (a10 : PySem.W.nsIn K mainGlobals "_law_rectangle" = some (some (.ref f10)))
    (l10 : K.lookup f10 = some ⟨oc10, od10, .func (PySem.W.fnOf "_law_rectangle" "_law_rectangle" (defArgs s_rectangle) (defBody s_rectangle) (defScope s_rectangle) .none kV10 dc10 pm10 an10 cd10 ct10), sl10⟩) (c10 : PySem.W.codeIn K cd10 "_law_rectangle" = true) (k10 : PySem.W.keepIn K (.ref f10) = true)
    {f11 : Addr} {od11 an11 : Option Addr} {sl11 : Array (Option Value)} {oc11 kV11 dc11 pm11 cd11 ct11 : Value}
    (a11 : PySem.W.nsIn K mainGlobals "_law_windows" = some (some (.ref f11)))
    (l11 : K.lookup f11 = some ⟨oc11, od11, .func (PySem.W.fnOf "_law_windows" "_law_windows" (defArgs s_windows) (defBody s_windows) (defScope s_windows) .none kV11 dc11 pm11 an11 cd11 ct11), sl11⟩) (c11 : PySem.W.codeIn K cd11 "_law_windows" = true) (k11 : PySem.W.keepIn K (.ref f11) = true)
    {f12 : Addr} {od12 an12 : Option Addr} {sl12 : Array (Option Value)} {oc12 kV12 dc12 pm12 cd12 ct12 : Value}
    (a12 : PySem.W.nsIn K mainGlobals "law" = some (some (.ref f12)))
    (l12 : K.lookup f12 = some ⟨oc12, od12, .func (PySem.W.fnOf "law" "law" (defArgs s_law) (defBody s_law) (defScope s_law) .none kV12 dc12 pm12 an12 cd12 ct12), sl12⟩) (c12 : PySem.W.codeIn K cd12 "law" = true) (k12 : PySem.W.keepIn K (.ref f12) = true)
    {f13 : Addr} {od13 an13 : Option Addr} {sl13 : Array (Option Value)} {oc13 kV13 dc13 pm13 cd13 ct13 : Value}
    (a13 : PySem.W.findIn K (.ref C_Desk) "__init__" = some (some (.ref f13))) (i13 : PySem.W.isFn K (.ref f13) = true)
    (l13 : K.lookup f13 = some ⟨oc13, od13, .func (PySem.W.fnOf "__init__" "Desk.__init__" (defArgs s_Desk___init) (defBody s_Desk___init) (defScope s_Desk___init) .none kV13 dc13 pm13 an13 cd13 ct13), sl13⟩) (c13 : PySem.W.codeIn K cd13 "Desk.__init__" = true) (k13 : PySem.W.keepIn K (.ref f13) = true)
    {f14 : Addr} {od14 an14 : Option Addr} {sl14 : Array (Option Value)} {oc14 kV14 dc14 pm14 cd14 ct14 : Value}
    (a14 : PySem.W.findIn K (.ref C_Desk) "names" = some (some (.ref f14))) (i14 : PySem.W.isFn K (.ref f14) = true)
    (l14 : K.lookup f14 = some ⟨oc14, od14, .func (PySem.W.fnOf "names" "Desk.names" (defArgs s_Desk_names) (defBody s_Desk_names) (defScope s_Desk_names) .none kV14 dc14 pm14 an14 cd14 ct14), sl14⟩) (c14 : PySem.W.codeIn K cd14 "Desk.names" = true) (k14 : PySem.W.keepIn K (.ref f14) = true)
    {f15 : Addr} {od15 an15 : Option Addr} {sl15 : Array (Option Value)} {oc15 kV15 dc15 pm15 cd15 ct15 : Value}
    (a15 : PySem.W.findIn K (.ref C_Desk) "rectangle" = some (some (.ref f15))) (i15 : PySem.W.isFn K (.ref f15) = true)
    (l15 : K.lookup f15 = some ⟨oc15, od15, .func (PySem.W.fnOf "rectangle" "Desk.rectangle" (defArgs s_Desk_rectangle) (defBody s_Desk_rectangle) (defScope s_Desk_rectangle) .none kV15 dc15 pm15 an15 cd15 ct15), sl15⟩) (c15 : PySem.W.codeIn K cd15 "Desk.rectangle" = true) (k15 : PySem.W.keepIn K (.ref f15) = true)
    {f16 : Addr} {od16 an16 : Option Addr} {sl16 : Array (Option Value)} {oc16 kV16 dc16 pm16 cd16 ct16 : Value}
    (a16 : PySem.W.findIn K (.ref C_Desk) "__eq__" = some (some (.ref f16))) (i16 : PySem.W.isFn K (.ref f16) = true)
    (l16 : K.lookup f16 = some ⟨oc16, od16, .func (PySem.W.fnOf "__eq__" "Desk.__eq__" (defArgs s_Desk___eq) (defBody s_Desk___eq) (defScope s_Desk___eq) .none kV16 dc16 pm16 an16 cd16 ct16), sl16⟩) (c16 : PySem.W.codeIn K cd16 "Desk.__eq__" = true) (k16 : PySem.W.keepIn K (.ref f16) = true)
    {f17 : Addr} {od17 an17 : Option Addr} {sl17 : Array (Option Value)} {oc17 kV17 dc17 pm17 cd17 ct17 : Value}
    (a17 : PySem.W.findIn K (.ref C_Desk) "__len__" = some (some (.ref f17))) (i17 : PySem.W.isFn K (.ref f17) = true)
    (l17 : K.lookup f17 = some ⟨oc17, od17, .func (PySem.W.fnOf "__len__" "Desk.__len__" (defArgs s_Desk___len) (defBody s_Desk___len) (defScope s_Desk___len) .none kV17 dc17 pm17 an17 cd17 ct17), sl17⟩) (c17 : PySem.W.codeIn K cd17 "Desk.__len__" = true) (k17 : PySem.W.keepIn K (.ref f17) = true)
    {f18 : Addr} {od18 an18 : Option Addr} {sl18 : Array (Option Value)} {oc18 kV18 dc18 pm18 cd18 ct18 : Value}
    (a18 : PySem.W.findIn K (.ref C_Desk) "__repr__" = some (some (.ref f18))) (i18 : PySem.W.isFn K (.ref f18) = true)
    (l18 : K.lookup f18 = some ⟨oc18, od18, .func (PySem.W.fnOf "__repr__" "Desk.__repr__" (defArgs s_Desk___repr) (defBody s_Desk___repr) (defScope s_Desk___repr) .none kV18 dc18 pm18 an18 cd18 ct18), sl18⟩) (c18 : PySem.W.codeIn K cd18 "Desk.__repr__" = true) (k18 : PySem.W.keepIn K (.ref f18) = true)
    (pg_Desk : PySem.W.plainGet K C_Desk Str.empty = true) (hd_Desk : PySem.W.hasDictIn K C_Desk = true) (po_Desk : PySem.W.plainOver K C_Desk = true) (sa_Desk : PySem.W.findIn K (.ref C_Desk) "__setattr__" = some (some (.builtin "object.__setattr__"))) (mk_Desk : PySem.W.makesIn K C_Desk = true) (kc_Desk : PySem.W.keepIn K (.ref C_Desk) = true)
    (nf_Desk_windows : PySem.W.findIn K (.ref C_Desk) "windows" = some none)
    (ic1_Desk : PySem.W.findIn K (.ref C_Desk) "__class__" = some (some (.builtin "object.__class__"))) (ic2_Desk : PySem.W.specialIn K (.builtin "object.__class__") "__get__" = some (some (.builtin "getset_descriptor.__get__"))) (ic3_Desk : PySem.W.takesIn K (.builtin "object.__class__") = some true) (ic4_Desk : PySem.W.mroIn K C_Desk (.type "object") = some true) (ic5_Desk : PySem.W.isClsIn K C_Desk = true) (ic6_Desk : PySem.W.typeIn K (.ref C_Desk) = some (.type "type"))
    (ne_Desk : PySem.W.findIn K (.ref C_Desk) "__ne__" = some (some (.builtin "object.__ne__")))
    (sub_dict_Desk : PySem.W.subIn K (.type "dict") (.ref C_Desk) = some false)
    (sub_list_Desk : PySem.W.subIn K (.type "list") (.ref C_Desk) = some false)
    {t_MOST_COORDINATE : Tok} (n_MOST_COORDINATE : PySem.W.nsIn K mainGlobals "MOST_COORDINATE" = some (some (.int 1000000000 t_MOST_COORDINATE)))
    {t_MOST_WINDOWS : Tok} (n_MOST_WINDOWS : PySem.W.nsIn K mainGlobals "MOST_WINDOWS" = some (some (.int 24 t_MOST_WINDOWS)))
    {t_MOST_LETTERS : Tok} (n_MOST_LETTERS : PySem.W.nsIn K mainGlobals "MOST_LETTERS" = some (some (.int 6 t_MOST_LETTERS)))
    {t_LETTERS : Tok} (n_LETTERS : PySem.W.nsIn K mainGlobals "LETTERS" = some (some (.str "abcdefghijklmnopqrstuvwxyz" t_LETTERS)))
    (z_all : PySem.W.nsIn K mainGlobals "all" = some none)
    (z_bool : PySem.W.nsIn K mainGlobals "bool" = some none)
    (z_dict : PySem.W.nsIn K mainGlobals "dict" = some none)
    (z_int : PySem.W.nsIn K mainGlobals "int" = some none)
    (z_isinstance : PySem.W.nsIn K mainGlobals "isinstance" = some none)
    (z_len : PySem.W.nsIn K mainGlobals "len" = some none)
    (z_list : PySem.W.nsIn K mainGlobals "list" = some none)
    (z_range : PySem.W.nsIn K mainGlobals "range" = some none)
    (z_repr : PySem.W.nsIn K mainGlobals "repr" = some none)
    (z_sorted : PySem.W.nsIn K mainGlobals "sorted" = some none)
    (z_str : PySem.W.nsIn K mainGlobals "str" = some none)
    (z_tuple : PySem.W.nsIn K mainGlobals "tuple" = some none)
    (z_zip : PySem.W.nsIn K mainGlobals "zip" = some none)
    : ∃ fd : FuncData, (∀ (s : Shared) (v : Value), BindsTo s fd ⟨[v], []⟩ [("_law_script", v)]) ∧ ∀ base : Heap, K.In base → base.Ns mainGlobals mg → FnOk l.prog w K mg base CX0 9 fa fd ["_law_script"] (spLaw K) := by
  have e := hfa.symm.trans (PySem.W.mg_of X G a12)
  cases e
  have F0 := fun_mk (st := s_is_rectangle) l0 c0 k0
  have b0 := F0.binds (ps := ["rectangle"]) fun _ _ _ _ _ _ us hl => match us, hl with | [_], _ => rfl
  have F1 := fun_mk (st := s_has_four_numbers) l1 c1 k1
  have b1 := F1.binds (ps := ["value"]) fun _ _ _ _ _ _ us hl => match us, hl with | [_], _ => rfl
  have F2 := fun_mk (st := s_is_name) l2 c2 k2
  have b2 := F2.binds (ps := ["text"]) fun _ _ _ _ _ _ us hl => match us, hl with | [_], _ => rfl
  have F3 := fun_mk (st := s_check_windows) l3 c3 k3
  have b3 := F3.binds (ps := ["windows"]) fun _ _ _ _ _ _ us hl => match us, hl with | [_], _ => rfl
  have F4 := fun_mk (st := s_bag) l4 c4 k4
  have b4 := F4.binds (ps := ["_law_script"]) fun _ _ _ _ _ _ us hl => match us, hl with | [_], _ => rfl
  have F5 := fun_mk (st := s_pull) l5 c5 k5
  have b5 := F5.binds (ps := ["_law_bag_here", "_law_amount"]) fun _ _ _ _ _ _ us hl => match us, hl with | [_, _], _ => rfl
  have F6 := fun_mk (st := s_of) l6 c6 k6
  have b6 := F6.binds (ps := ["_law_bag_here", "_law_things"]) fun _ _ _ _ _ _ us hl => match us, hl with | [_, _], _ => rfl
  have F7 := fun_mk (st := s_like) l7 c7 k7
  have b7 := F7.binds (ps := ["_law_found", "_law_due"]) fun _ _ _ _ _ _ us hl => match us, hl with | [_, _], _ => rfl
  have F8 := fun_mk (st := s_mixed) l8 c8 k8
  have b8 := F8.binds (ps := ["_law_bag_here", "_law_things"]) fun _ _ _ _ _ _ us hl => match us, hl with | [_, _], _ => rfl
  have F9 := fun_mk (st := s_names) l9 c9 k9
  have b9 := F9.binds (ps := ["_law_bag_here", "_law_count"]) fun _ _ _ _ _ _ us hl => match us, hl with | [_, _], _ => rfl
  have F10 := fun_mk (st := s_rectangle) l10 c10 k10
  have b10 := F10.binds (ps := ["_law_bag_here", "_law_scale"]) fun _ _ _ _ _ _ us hl => match us, hl with | [_, _], _ => rfl
  have F11 := fun_mk (st := s_windows) l11 c11 k11
  have b11 := F11.binds (ps := ["_law_bag_here", "_law_least", "_law_most"]) fun _ _ _ _ _ _ us hl => match us, hl with | [_, _, _], _ => rfl
  have F12 := fun_mk (st := s_law) l12 c12 k12
  have b12 := F12.binds (ps := ["_law_script"]) fun _ _ _ _ _ _ us hl => match us, hl with | [_], _ => rfl
  have F13 := fun_mk (st := s_Desk___init) l13 c13 k13
  have b13 := F13.binds (ps := ["self", "windows"]) fun _ _ _ _ _ _ us hl => match us, hl with | [_, _], _ => rfl
  have F14 := fun_mk (st := s_Desk_names) l14 c14 k14
  have b14 := F14.binds (ps := ["self"]) fun _ _ _ _ _ _ us hl => match us, hl with | [_], _ => rfl
  have F15 := fun_mk (st := s_Desk_rectangle) l15 c15 k15
  have b15 := F15.binds (ps := ["self", "name"]) fun _ _ _ _ _ _ us hl => match us, hl with | [_, _], _ => rfl
  have F16 := fun_mk (st := s_Desk___eq) l16 c16 k16
  have b16 := F16.binds (ps := ["self", "other"]) fun _ _ _ _ _ _ us hl => match us, hl with | [_, _], _ => rfl
  have F17 := fun_mk (st := s_Desk___len) l17 c17 k17
  have b17 := F17.binds (ps := ["self"]) fun _ _ _ _ _ _ us hl => match us, hl with | [_], _ => rfl
  have F18 := fun_mk (st := s_Desk___repr) l18 c18 k18
  have b18 := F18.binds (ps := ["self"]) fun _ _ _ _ _ _ us hl => match us, hl with | [_], _ => rfl
  have km_Desk_rectangle_name : KBinds K (PySem.W.fnOf "rectangle" "Desk.rectangle" (defArgs s_Desk_rectangle) (defBody s_Desk_rectangle) (defScope s_Desk_rectangle) .none kV15 dc15 pm15 an15 cd15 ct15) ["self", "name"] ["name"] (kwG_km_Desk_rectangle_name (α := Value)) (kwG_km_Desk_rectangle_name (α := V)) := by
    refine ⟨fun s us ws _ hl => ?_, fun {vs us zs ws} r1 r2 => ?_⟩
    · match us, ws, hl with
      | [a0], [c0], _ => exact BindsTo.of_eq (fd := (PySem.W.fnOf "rectangle" "Desk.rectangle" (defArgs s_Desk_rectangle) (defBody s_Desk_rectangle) (defScope s_Desk_rectangle) .none kV15 dc15 pm15 an15 cd15 ct15)) rfl
    · cases r1 with
      | nil => (cases r2 <;> exact .nil)
      | cons p0 r1 =>
        cases r1 with
        | nil =>
          cases r2 with
          | nil => exact .nil
          | cons q0 r2 =>
            cases r2 with
            | nil =>
              exact (.cons p0 (.cons q0 .nil))
            | cons _ _ => exact .nil
        | cons _ _ => (cases r2 <;> exact .nil)
  have kn_Desk_windows : KBn K (PySem.W.fnOf "__init__" "Desk.__init__" (defArgs s_Desk___init) (defBody s_Desk___init) (defScope s_Desk___init) .none kV13 dc13 pm13 an13 cd13 ct13) ["self", "windows"] 1 ["windows"] (kwG_kn_Desk_windows (α := Value)) (kwG_kn_Desk_windows (α := V)) := by
    refine ⟨fun s us ws _ hl hl2 => ?_, fun {vs us zs ws} r1 r2 => ?_⟩
    · match us, ws, hl, hl2 with
      | [a0], [c0], _, _ => exact BindsTo.of_eq (fd := (PySem.W.fnOf "__init__" "Desk.__init__" (defArgs s_Desk___init) (defBody s_Desk___init) (defScope s_Desk___init) .none kV13 dc13 pm13 an13 cd13 ct13)) rfl
    · cases r1 with
      | nil => (cases r2 <;> exact .nil)
      | cons p0 r1 =>
        cases r1 with
        | nil =>
          cases r2 with
          | nil => exact .nil
          | cons q0 r2 =>
            cases r2 with
            | nil =>
              exact (.cons p0 (.cons q0 .nil))
            | cons _ _ => exact .nil
        | cons _ _ => (cases r2 <;> exact .nil)
  let T : Txt K mg := { f_is_rectangle := _, fd_is_rectangle := _, F_is_rectangle := F0, b_is_rectangle := b0, g_is_rectangle := PySem.W.mg_of X G a0, f_has_four_numbers := _, fd_has_four_numbers := _, F_has_four_numbers := F1, b_has_four_numbers := b1, g_has_four_numbers := PySem.W.mg_of X G a1, f_is_name := _, fd_is_name := _, F_is_name := F2, b_is_name := b2, g_is_name := PySem.W.mg_of X G a2, f_check_windows := _, fd_check_windows := _, F_check_windows := F3, b_check_windows := b3, g_check_windows := PySem.W.mg_of X G a3, f_bag := _, fd_bag := _, F_bag := F4, b_bag := b4, g_bag := PySem.W.mg_of X G a4, f_pull := _, fd_pull := _, F_pull := F5, b_pull := b5, g_pull := PySem.W.mg_of X G a5, f_of := _, fd_of := _, F_of := F6, b_of := b6, g_of := PySem.W.mg_of X G a6, f_like := _, fd_like := _, F_like := F7, b_like := b7, g_like := PySem.W.mg_of X G a7, f_mixed := _, fd_mixed := _, F_mixed := F8, b_mixed := b8, g_mixed := PySem.W.mg_of X G a8, f_names := _, fd_names := _, F_names := F9, b_names := b9, g_names := PySem.W.mg_of X G a9, f_rectangle := _, fd_rectangle := _, F_rectangle := F10, b_rectangle := b10, g_rectangle := PySem.W.mg_of X G a10, f_windows := _, fd_windows := _, F_windows := F11, b_windows := b11, g_windows := PySem.W.mg_of X G a11, f_law := _, fd_law := _, F_law := F12, b_law := b12, g_law := PySem.W.mg_of X G a12, f_Desk___init := _, fd_Desk___init := _, F_Desk___init := F13, b_Desk___init := b13, s_Desk___init := a13, i_Desk___init := i13, M_Desk___init := ⟨a13, i13, k13⟩, f_Desk_names := _, fd_Desk_names := _, F_Desk_names := F14, b_Desk_names := b14, s_Desk_names := a14, i_Desk_names := i14, M_Desk_names := ⟨a14, i14, k14⟩, f_Desk_rectangle := _, fd_Desk_rectangle := _, F_Desk_rectangle := F15, b_Desk_rectangle := b15, s_Desk_rectangle := a15, i_Desk_rectangle := i15, M_Desk_rectangle := ⟨a15, i15, k15⟩, f_Desk___eq := _, fd_Desk___eq := _, F_Desk___eq := F16, b_Desk___eq := b16, s_Desk___eq := a16, i_Desk___eq := i16, M_Desk___eq := ⟨a16, i16, k16⟩, f_Desk___len := _, fd_Desk___len := _, F_Desk___len := F17, b_Desk___len := b17, s_Desk___len := a17, i_Desk___len := i17, M_Desk___len := ⟨a17, i17, k17⟩, f_Desk___repr := _, fd_Desk___repr := _, F_Desk___repr := F18, b_Desk___repr := b18, s_Desk___repr := a18, i_Desk___repr := i18, M_Desk___repr := ⟨a18, i18, k18⟩, C_Desk := C_Desk, cl_Desk := ⟨pg_Desk, hd_Desk, po_Desk, sa_Desk⟩, M_Desk := ⟨mk_Desk, a13, i13, kc_Desk⟩, g_Desk := PySem.W.mg_of X G aC_Desk, n_Desk_windows := nf_Desk_windows, ic_Desk := ⟨⟨pg_Desk, hd_Desk, po_Desk, sa_Desk⟩, ic1_Desk, ic2_Desk, ic3_Desk, ic4_Desk, kit_me _ _⟩, ne_Desk := ne_Desk, mo_Desk := ic4_Desk, sub_dict_Desk := sub_dict_Desk, kit_dict_Desk := kit_sub ic5_Desk ic6_Desk sub_dict_Desk, sub_list_Desk := sub_list_Desk, kit_list_Desk := kit_sub ic5_Desk ic6_Desk sub_list_Desk, km_Desk_rectangle_name := km_Desk_rectangle_name, kn_Desk_windows := kn_Desk_windows, t_MOST_COORDINATE := t_MOST_COORDINATE, c_MOST_COORDINATE := PySem.W.mg_of X G n_MOST_COORDINATE, t_MOST_WINDOWS := t_MOST_WINDOWS, c_MOST_WINDOWS := PySem.W.mg_of X G n_MOST_WINDOWS, t_MOST_LETTERS := t_MOST_LETTERS, c_MOST_LETTERS := PySem.W.mg_of X G n_MOST_LETTERS, t_LETTERS := t_LETTERS, c_LETTERS := PySem.W.mg_of X G n_LETTERS, m_all := PySem.W.mg_none_of X G z_all, m_bool := PySem.W.mg_none_of X G z_bool, m_dict := PySem.W.mg_none_of X G z_dict, m_int := PySem.W.mg_none_of X G z_int, m_isinstance := PySem.W.mg_none_of X G z_isinstance, m_len := PySem.W.mg_none_of X G z_len, m_list := PySem.W.mg_none_of X G z_list, m_range := PySem.W.mg_none_of X G z_range, m_repr := PySem.W.mg_none_of X G z_repr, m_sorted := PySem.W.mg_none_of X G z_sorted, m_str := PySem.W.mg_none_of X G z_str, m_tuple := PySem.W.mg_none_of X G z_tuple, m_zip := PySem.W.mg_none_of X G z_zip }
  exact ⟨(PySem.W.fnOf "law" "law" (defArgs s_law) (defBody s_law) (defScope s_law) .none kV12 dc12 pm12 an12 cd12 ct12), fun s v => .of_eq rfl, fun base _ _ => ok_law T⟩
end RK
open PySem PySem.W PyProof.Rows
set_option maxHeartbeats 0 in
theorem PySem.Challenge.cw_raisekeys_k02_desks_holds : PySem.Challenge.rw_raisekeys_k02_desks.Holds := by
  w_on; o_law; k_head; (case hw => w_witness2)
  k_fill
  refine L2.walk_of (l := PySem.Challenge.rw_raisekeys_k02_desks) (n := 63) (k := 9) (x := "_law_script") (CX := fun _ => L2.CX0) (sp := fun w => RK.spLaw _) rfl (by decide) rfl ⟨rfl, by decide, by decide⟩ (fun w h Y => PySem.W.kIn_of Y) ?F (fun _ _ a ns hl _ hS => ⟨a, ns, rfl, hS, hl, fun _ => rfl⟩) (fun _ _ _ _ _ h => h)
  case F =>
    intro w mg fa h KX G hmg
    refine' RK.all_mk KX G hmg ?aC_Desk ?a0 ?l0 ?c0 ?k0 ?a1 ?l1 ?c1 ?k1 ?a2 ?l2 ?c2 ?k2 ?a3 ?l3 ?c3 ?k3 ?a4 ?l4 ?c4 ?k4 ?a5 ?l5 ?c5 ?k5 ?a6 ?l6 ?c6 ?k6 ?a7 ?l7 ?c7 ?k7 ?a8 ?l8 ?c8 ?k8 ?a9 ?l9 ?c9 ?k9 ?a10 ?l10 ?c10 ?k10 ?a11 ?l11 ?c11 ?k11 ?a12 ?l12 ?c12 ?k12 ?a13 ?i13 ?l13 ?c13 ?k13 ?a14 ?i14 ?l14 ?c14 ?k14 ?a15 ?i15 ?l15 ?c15 ?k15 ?a16 ?i16 ?l16 ?c16 ?k16 ?a17 ?i17 ?l17 ?c17 ?k17 ?a18 ?i18 ?l18 ?c18 ?k18 ?pg_Desk ?hd_Desk ?po_Desk ?sa_Desk ?mk_Desk ?kc_Desk ?nf_Desk_windows ?ic1_Desk ?ic2_Desk ?ic3_Desk ?ic4_Desk ?ic5_Desk ?ic6_Desk ?ne_Desk ?sub_dict_Desk ?sub_list_Desk ?n_MOST_COORDINATE ?n_MOST_WINDOWS ?n_MOST_LETTERS ?n_LETTERS ?z_all ?z_bool ?z_dict ?z_int ?z_isinstance ?z_len ?z_list ?z_range ?z_repr ?z_sorted ?z_str ?z_tuple ?z_zip
    (case aC_Desk => k_is)
    (case a0 => k_is)
    (case l0 => k_is)
    (case c0 => k_is)
    (case k0 => k_is)
    (case a1 => k_is)
    (case l1 => k_is)
    (case c1 => k_is)
    (case k1 => k_is)
    (case a2 => k_is)
    (case l2 => k_is)
    (case c2 => k_is)
    (case k2 => k_is)
    (case a3 => k_is)
    (case l3 => k_is)
    (case c3 => k_is)
    (case k3 => k_is)
    (case a4 => k_is)
    (case l4 => k_is)
    (case c4 => k_is)
    (case k4 => k_is)
    (case a5 => k_is)
    (case l5 => k_is)
    (case c5 => k_is)
    (case k5 => k_is)
    (case a6 => k_is)
    (case l6 => k_is)
    (case c6 => k_is)
    (case k6 => k_is)
    (case a7 => k_is)
    (case l7 => k_is)
    (case c7 => k_is)
    (case k7 => k_is)
    (case a8 => k_is)
    (case l8 => k_is)
    (case c8 => k_is)
    (case k8 => k_is)
    (case a9 => k_is)
    (case l9 => k_is)
    (case c9 => k_is)
    (case k9 => k_is)
    (case a10 => k_is)
    (case l10 => k_is)
    (case c10 => k_is)
    (case k10 => k_is)
    (case a11 => k_is)
    (case l11 => k_is)
    (case c11 => k_is)
    (case k11 => k_is)
    (case a12 => k_is)
    (case l12 => k_is)
    (case c12 => k_is)
    (case k12 => k_is)
    (case a13 => k_is)
    (case i13 => k_is)
    (case l13 => k_is)
    (case c13 => k_is)
    (case k13 => k_is)
    (case a14 => k_is)
    (case i14 => k_is)
    (case l14 => k_is)
    (case c14 => k_is)
    (case k14 => k_is)
    (case a15 => k_is)
    (case i15 => k_is)
    (case l15 => k_is)
    (case c15 => k_is)
    (case k15 => k_is)
    (case a16 => k_is)
    (case i16 => k_is)
    (case l16 => k_is)
    (case c16 => k_is)
    (case k16 => k_is)
    (case a17 => k_is)
    (case i17 => k_is)
    (case l17 => k_is)
    (case c17 => k_is)
    (case k17 => k_is)
    (case a18 => k_is)
    (case i18 => k_is)
    (case l18 => k_is)
    (case c18 => k_is)
    (case k18 => k_is)
    (case pg_Desk => k_is)
    (case hd_Desk => k_is)
    (case po_Desk => k_is)
    (case sa_Desk => k_is)
    (case mk_Desk => k_is)
    (case kc_Desk => k_is)
    (case nf_Desk_windows => k_is)
    (case ic1_Desk => k_is)
    (case ic2_Desk => k_is)
    (case ic3_Desk => k_is)
    (case ic4_Desk => k_is)
    (case ic5_Desk => k_is)
    (case ic6_Desk => k_is)
    (case ne_Desk => k_is)
    (case sub_dict_Desk => k_is)
    (case sub_list_Desk => k_is)
    (case n_MOST_COORDINATE => k_is)
    (case n_MOST_WINDOWS => k_is)
    (case n_MOST_LETTERS => k_is)
    (case n_LETTERS => k_is)
    (case z_all => k_is)
    (case z_bool => k_is)
    (case z_dict => k_is)
    (case z_int => k_is)
    (case z_isinstance => k_is)
    (case z_len => k_is)
    (case z_list => k_is)
    (case z_range => k_is)
    (case z_repr => k_is)
    (case z_sorted => k_is)
    (case z_str => k_is)
    (case z_tuple => k_is)
    (case z_zip => k_is)
