import PyProof.Rows.All
import Wide.All
import OpenK.AllK
import Wide.FinOn
import HandS.Wide
import HandS.Base
import HandS.Call
import HandS.List
import HandS.Comp
import HandS.Ends
import HandS.Dict
import HandS.Iter
import HandS.Text
import HandS.Words
import HandS.Codes
import HandS.Defaults
import HandS.IsInst
import HandS.MakeKwOnly
import HandS.DictComp
import HandS.DictEq
import HandS.More
import HandS.Conv
import HandS.FStr
import HandS.Style
import KE.KDictZip
import KE.KFmtOwn
import HandS.Walk
import HandS.Lambda
import HandS.Deep
import HandS.WordsDict
import KE.GoesMore
import PyProof.EnumMake
import KE.SortData
import HandS.Zip
import HandS.WideBits
import HandS.TupLe
import KE.DataMinMax
import HandS.SetKeys
import HandS.Strs
import HandS.SetFor
import PyProof.Rows.SetFrom
import PyProof.DictUpdate
import PyProof.DictDisplay
import PyProof.ReprRoads
import KE.GoesZip
import PySem.Challenge.RW_raisekeys_k35_counts_of_chains
set_option Elab.async false
set_option linter.all false
set_option maxRecDepth 100000
set_option maxHeartbeats 4000000
namespace RK
open PySem PySem.Spec PyProof.Rows L2
/-! ### heaps -/
theorem same_new {H : Hp} {p : Addr} (h : H p = none) (o : HO) : Same H (upd H p o) := fun b u q => by rw [upd_ne (ne_of_none q h)]; exact q
theorem new_ex {H : Hp} {p : Addr} (h : H p = none) (o : HO) : ∃ H', H' = upd H p o ∧ Same H H' ∧ H' p = some o := ⟨_, rfl, same_new h o, upd_same⟩
/-- all but b stands as it stood -/
def Keep (b : Addr) (H H' : Hp) : Prop := ∀ a o, a ≠ b → H a = some o → H' a = some o
theorem Keep.refl (b : Addr) (H : Hp) : Keep b H H := fun _ _ _ h => h
theorem Keep.trans {b : Addr} {H H1 H2 : Hp} (a : Keep b H H1) (c : Keep b H1 H2) : Keep b H H2 := fun x o n h => c x o n (a x o n h)
theorem Keep.of {b : Addr} {H H1 : Hp} (a : Same H H1) : Keep b H H1 := fun x o _ h => a x o h
theorem Keep.upd {b : Addr} {H H1 : Hp} {o : HO} (a : Keep b H H1) : Keep b H (upd H1 b o) := fun x u n h => by rw [upd_ne n]; exact a x u n h
theorem Keep.tup {b t : Addr} {H H1 : Hp} {xs ys : List V} (k : Keep b H H1) (hb : H b = some (.lst ys)) (h : H t = some (.tup xs)) : H1 t = some (.tup xs) := k t _ (ne_of h hb (by intro z; cases z)) h
theorem Keep.dK {b t : Addr} {H H1 : Hp} {xs : List (Key × V)} {ys : List V} (k : Keep b H H1) (hb : H b = some (.lst ys)) (h : H t = some (.dK xs)) : H1 t = some (.dK xs) := k t _ (ne_of h hb (by intro z; cases z)) h
/-- fresh behind is fresh before -/
theorem Keep.free {b l : Addr} {H H1 : Hp} (k : Keep b H H1) (n : l ≠ b) (h : H1 l = none) : H l = none := by
  cases q : H l with
  | none => rfl
  | some o =>
    rw [k l o n q] at h
    cases h
/-- a bag: the script's copy at s, how many are taken, the great number, the salt -/
structure BagC (H : Hp) (b s : Addr) (ns : List Int) (i : Nat) (big salt : Int) : Prop where
  hb : H b = some (.lst [.ref s, .int i, .int big, .int salt])
  hs : H s = some (.lst (ns.map V.int))
  ne : s ≠ b
  hi : i ≤ ns.length
  hn : ns.length ≤ 63
  h0 : 0 ≤ big
  h1 : 0 ≤ salt
  h2 : salt < 2147483647
def Bag (b s : Addr) (H : Hp) : Prop := ∃ ns i big salt, BagC H b s ns i big salt
theorem Bag.hb {b s : Addr} {H : Hp} (B : Bag b s H) : ∃ ys, H b = some (.lst ys) := by
  obtain ⟨ns, i, big, salt, B⟩ := B
  exact ⟨_, B.hb⟩
theorem Bag.hs {b s : Addr} {H : Hp} (B : Bag b s H) : ∃ ys, H s = some (.lst ys) := by
  obtain ⟨ns, i, big, salt, B⟩ := B
  exact ⟨_, B.hs⟩
theorem Bag.ne {b s : Addr} {H : Hp} (B : Bag b s H) : s ≠ b := by
  obtain ⟨ns, i, big, salt, B⟩ := B
  exact B.ne
theorem Bag.same {b s : Addr} {H H1 : Hp} (B : Bag b s H) (e : Same H H1) : Bag b s H1 := by
  obtain ⟨ns, i, big, salt, B⟩ := B
  exact ⟨ns, i, big, salt, e _ _ B.hb, e _ _ B.hs, B.ne, B.hi, B.hn, B.h0, B.h1, B.h2⟩
theorem Bag.new {b s p : Addr} {H : Hp} {o : HO} (B : Bag b s H) (h : H p = none) : Bag b s (upd H p o) := B.same (same_new h o)
theorem Bag.upd {b s p : Addr} {H : Hp} {o : HO} (B : Bag b s H) (h1 : p ≠ b) (h2 : p ≠ s) : Bag b s (upd H p o) := by
  obtain ⟨ns, i, big, salt, B⟩ := B
  exact ⟨ns, i, big, salt, by rw [upd_ne h1.symm]; exact B.hb, by rw [upd_ne h2.symm]; exact B.hs, B.ne, B.hi, B.hn, B.h0, B.h1, B.h2⟩
theorem Keep.of_tup {b s t : Addr} {H H1 : Hp} {xs : List V} (k : Keep b H H1) (B : Bag b s H) (h : H t = some (.tup xs)) : H1 t = some (.tup xs) := by
  obtain ⟨ys, hb⟩ := B.hb
  exact k.tup hb h
theorem bool_same {a b : Bool} {p : Prop} (h1 : a = true ↔ p) (h2 : b = true ↔ p) : a = b := by
  cases a <;> cases b <;> simp_all
theorem sz {n : Nat} (h : n ≤ 1000) : n ≤ sizeLine := Nat.le_of_lt (small1000 h)
theorem szl {n : Nat} (h : n ≤ 100000) : n < sizeLine := Nat.lt_of_le_of_lt h (by decide)
def spBag (K : PySem.W.Frag) : Sp := fun vs H Q _ => ∃ (a : Addr) (ns : List Int), vs = [.ref a] ∧ SqL K H a (ns.map V.int) ∧ ns.length ≤ 63 ∧ ∀ H' b s, Same H H' → H b = none → H s = none → Bag b s H' → Q (.ref b) H'
theorem cdivw {n : Int} (h1 : 1 ≤ n) (h2 : n ≤ 10000000000000000000000000000000000000000) : CDivW 0 n := by
  refine ⟨by omega, ?_⟩
  have h3 : n.natAbs < 2 ^ 200 := by
    have e : (2 : Nat) ^ 200 = 1606938044258990275541962092341162602522202993782792835301376 := by decide +kernel
    rw [e]
    omega
  have := (Nat.log2_lt (by omega)).mpr h3
  omega
/-- no table comes -/
def NoT (H H' : Hp) : Prop := ∀ a ps, H' a = some (.tbl ps) → ∃ qs, H a = some (.tbl qs)
def Ntb : HO → Prop
  | .tbl _ => False
  | _ => True
theorem noT_upd {H : Hp} {p : Addr} {o : HO} (n : Ntb o) : NoT H (upd H p o) := fun a ps h => by
  by_cases e : a = p
  · rw [e, upd_same] at h
    cases h
    exact n.elim
  · rw [upd_ne e] at h
    exact ⟨_, h⟩
/-- all but b stands, and no table comes -/
structure KeepT (b : Addr) (H H' : Hp) : Prop where
  f : Keep b H H'
  n : NoT H H'
theorem KeepT.refl (b : Addr) (H : Hp) : KeepT b H H := ⟨Keep.refl b H, fun _ _ z => ⟨_, z⟩⟩
theorem KeepT.upd {b : Addr} {H H1 : Hp} {xs : List V} (k : KeepT b H H1) : KeepT b H (upd H1 b (.lst xs)) := ⟨k.f.upd, fun a ps h => let ⟨qs, q⟩ := noT_upd (o := .lst xs) True.intro a ps h; k.n a qs q⟩
def spPull : Sp := fun vs H Q _ => ∃ (b s : Addr) (n : Int), vs = [.ref b, .int n] ∧ Bag b s H ∧ 1 ≤ n ∧ n ≤ 10000000000000000000000000000000000000000 ∧ ∀ r H', 0 ≤ r → r < n → KeepT b H H' → Bag b s H' → Q (.int r) H'
theorem cut63 (ns : List Int) (h : ns.length ≤ 63) : cutV (ns.map V.int) none (some 63) = ns.map V.int := by
  unfold cutV
  rw [HT.sIx_none, show HT.sIx (ns.map V.int).length (ns.map V.int).length (some 63) = min 63 (ns.map V.int).length from HT.sIx_nat _ _ 63]
  rw [List.drop_zero, List.length_map]
  exact List.take_of_length_le (by rw [List.length_map]; omega)
theorem at0 {α : Type} {x : α} {xs : List α} : atI (x :: xs) 0 = some x := atI_nat (j := 0) rfl
theorem at1 {α : Type} {x y : α} {xs : List α} : atI (x :: y :: xs) 1 = some y := atI_nat (j := 1) rfl
theorem at2 {α : Type} {x y z : α} {xs : List α} : atI (x :: y :: z :: xs) 2 = some z := atI_nat (j := 2) rfl
theorem at3 {α : Type} {x y z w : α} {xs : List α} : atI (x :: y :: z :: w :: xs) 3 = some w := atI_nat (j := 3) rfl
/-! ### a call by keywords alone -/
section
variable {X : Cx} {CX : CXT} {k : Nat} {f : Addr} {fd : FuncData} {ps ks : List Str} {sp : Sp} {E : XK} {x : Str} {p pos : Pos} {kws : List Keyword} {tk : TA} {g : List Value → List Value → List Value} {gV : List V → List V → List V}
theorem pe_callK0 (F : FnOk X.prog X.w X.K X.mg X.base CX k f fd ps sp) (hr : Room k X.A) (hg : Gl X x) (hm : X.mg x = some (.ref f)) (hk : PySem.W.keepIn X.K (.ref f) = true) (hb : KBinds X.K fd ps ks g gV) (hx : Passes CX X E) (hkw : PK X kws tk)
    (hall : (backToKw pos (keywordEach kws X.env)).all (·.1.isSome) = true := by rfl) (hks : (backToKw pos (keywordEach kws X.env)).filterMap (·.1) = ks := by rfl) (hdb : (x == ("__debug__" : Str)) = false := by decide)
    (hpl : ((backTo pos (starEach [] X.env)).any (·.1) || (backToKw pos (keywordEach kws X.env)).any (·.1.isNone)) = false := by rfl) :
    PE X (.Call (.Name x p) [] kws pos) (tCallK sp gV E tNil tk) := by
  refine ⟨fun pins s σ H Q I h => ?_⟩
  refine wpAny_Call_Name_kw (ld_glob I hg hm ?_ hdb)
  refine PySem.W.callWith_KW0 (h₀ := X.base) I.ok.mod.kin hk hall ?_ hpl
  refine thn (hkw.run pos pins s σ H _ I h) fun ws s2 ⟨zs, H2, I2, rz, q2⟩ => ⟨I2.kIn, ?_⟩
  rw [hks]
  exact run_fnk F hr hb hx I2 .nil rz q2
end
/-! ### len, list(..) by name -/
def rLenQ (K : PySem.W.Frag) : List V → Hp → VK → Prop := fun xs H Q => ∃ p ys, xs = [.ref p] ∧ (SqL K H p ys ∨ SqT K H p ys) ∧ Q (.int ys.length) H
theorem call_lenQ {X : Cx} : CallR X (.builtin "len") (rLenQ X.K) := call_len_seq
def rListQ (K : PySem.W.Frag) : List V → Hp → VK → Prop := fun xs H Q => ∃ p ys, xs = [.ref p] ∧ (SqL K H p ys ∨ SqT K H p ys) ∧ ∀ l, H l = none → Q (.ref l) (upd H l (.lst ys))
theorem call_listQ {X : Cx} : CallR X (.type "list") (rListQ X.K) := call_list_of
/-! ### data -/
section
variable {K : PySem.W.Frag} {H H' : Hp}
theorem same_tup {a : Addr} {xs : List V} (e : Same H H') (h : SqT K H a xs) : SqT K H' a xs := by
  rcases h with (h | ⟨o, h⟩) | h
  · exact .inl (.inl (e _ _ h))
  · exact .inl (.inr ⟨o, e _ _ h⟩)
  · exact .inr h
mutual
theorem dp_same (e : Same H H') : ∀ {v : V} {d : PyData}, Dp K H v d → Dp K H' v d
  | _, _, .non => .non
  | _, _, .bl b => .bl b
  | _, _, .int i => .int i
  | _, _, .str x => .str x
  | _, _, .lst h a => .lst (e.seq h) (dpAll_same e a)
  | _, _, .tup h a => .tup (same_tup e h) (dpAll_same e a)
theorem dpAll_same (e : Same H H') : ∀ {vs : List V} {ds : List PyData}, DpAll K H vs ds → DpAll K H' vs ds
  | _, _, .nil => .nil
  | _, _, .cons h a => .cons (dp_same e h) (dpAll_same e a)
end
theorem dpAll_len : ∀ {vs : List V} {ds : List PyData}, DpAll K H vs ds → vs.length = ds.length
  | _, _, .nil => rfl
  | _, _, .cons _ a => congrArg Nat.succ (dpAll_len a)
theorem dpAll_at : ∀ {vs : List V} {ds : List PyData} {i : Nat} {d : PyData}, DpAll K H vs ds → ds[i]? = some d → ∃ v, vs[i]? = some v ∧ Dp K H v d
  | _, _, _, _, .nil, h => by simp at h
  | _, _, 0, _, .cons (v := v) q _, h => by
    have e := Option.some.inj h
    exact ⟨v, rfl, e ▸ q⟩
  | _, _, i + 1, _, .cons _ a, h => dpAll_at (i := i) a h
def leafD : PyData → Bool
  | .none => true | .bool _ => true | .int _ => true | .str _ => true | _ => false
def okD : Nat → PyData → Bool
  | 0, d => leafD d
  | n + 1, .list ds => decide (ds.length ≤ 1000) && ds.all (okD n)
  | n + 1, .tuple ds => decide (ds.length ≤ 1000) && ds.all (okD n)
  | _ + 1, d => leafD d
def tyN : PyData → String
  | .none => "NoneType" | .bool _ => "bool" | .int _ => "int" | .str _ => "str" | .list _ => "list" | .tuple _ => "tuple" | .dict _ => "dict"
def isT : PyData → Bool
  | .tuple _ => true | _ => false
def isL : PyData → Bool
  | .list _ => true | _ => false
def isB : PyData → Bool
  | .bool _ => true | _ => false
theorem ty_of {v : V} {d : PyData} (h : Dp K H v d) : TyX K H v (.type (tyN d)) := by
  cases h with
  | non => exact .base .non
  | bl b => exact .base (.bl b)
  | int i => exact .base (.int i)
  | str x => exact .base (.str x)
  | lst h _ =>
    rcases h with (h | ⟨o, h⟩) | ⟨o, its, n, l, c, _⟩
    · exact .base (.lst h)
    · exact .base (.frz h)
    · exact .kList l c
  | tup h _ =>
    rcases h with (h | ⟨o, h⟩) | ⟨o, its, n, l, c, _⟩
    · exact .base (.tup h)
    · exact .fTuple h
    · exact .kTuple l c
theorem ty_tup {a : Addr} {xs : List V} (h : SqT K H a xs) : TyX K H (.ref a) (.type "tuple") := by
  rcases h with (h | ⟨o, h⟩) | ⟨o, its, n, l, c, _⟩
  · exact .base (.tup h)
  · exact .fTuple h
  · exact .kTuple l c
theorem kT : ∀ d : PyData, PySem.W.kitOne K (.type (tyN d)) (.type "tuple") = some (isT d)
  | .none => kit_ty (by decide +kernel : kitB "NoneType" "tuple" = some false)
  | .bool _ => kit_ty (by decide +kernel : kitB "bool" "tuple" = some false)
  | .int _ => kit_ty (by decide +kernel : kitB "int" "tuple" = some false)
  | .str _ => kit_ty (by decide +kernel : kitB "str" "tuple" = some false)
  | .list _ => kit_ty (by decide +kernel : kitB "list" "tuple" = some false)
  | .tuple _ => kit_ty (by decide +kernel : kitB "tuple" "tuple" = some true)
  | .dict _ => kit_ty (by decide +kernel : kitB "dict" "tuple" = some false)
theorem kL : ∀ d : PyData, PySem.W.kitOne K (.type (tyN d)) (.type "list") = some (isL d)
  | .none => kit_ty (by decide +kernel : kitB "NoneType" "list" = some false)
  | .bool _ => kit_ty (by decide +kernel : kitB "bool" "list" = some false)
  | .int _ => kit_ty (by decide +kernel : kitB "int" "list" = some false)
  | .str _ => kit_ty (by decide +kernel : kitB "str" "list" = some false)
  | .list _ => kit_ty (by decide +kernel : kitB "list" "list" = some true)
  | .tuple _ => kit_ty (by decide +kernel : kitB "tuple" "list" = some false)
  | .dict _ => kit_ty (by decide +kernel : kitB "dict" "list" = some false)
theorem kB : ∀ d : PyData, PySem.W.kitOne K (.type (tyN d)) (.type "bool") = some (isB d)
  | .none => kit_ty (by decide +kernel : kitB "NoneType" "bool" = some false)
  | .bool _ => kit_ty (by decide +kernel : kitB "bool" "bool" = some true)
  | .int _ => kit_ty (by decide +kernel : kitB "int" "bool" = some false)
  | .str _ => kit_ty (by decide +kernel : kitB "str" "bool" = some false)
  | .list _ => kit_ty (by decide +kernel : kitB "list" "bool" = some false)
  | .tuple _ => kit_ty (by decide +kernel : kitB "tuple" "bool" = some false)
  | .dict _ => kit_ty (by decide +kernel : kitB "dict" "bool" = some false)
theorem kTL (d : PyData) : PySem.W.kitAny K (.type (tyN d)) [.type "tuple", .type "list"] = some (isT d || isL d) := by
  refine kitAny_cons (kT d) (fun e => ?_) (fun e => by rw [e]; rfl)
  refine kitAny_cons (kL d) (fun e2 => ?_) (fun e2 => by rw [e, e2]; rfl)
  rw [e, e2]
  exact kitAny_nil
end
def spLike (K : PySem.W.Frag) (n : Nat) : Sp := fun vs H Q _ => ∃ (x y : V) (d : PyData), vs = [x, y] ∧ Dp K H x d ∧ Dp K H y d ∧ okD n d = true ∧ ∀ H', Same H H' → Q (.bl true) H'
/-! ### rectangles -/
structure R where
  l : Int
  t : Int
  r : Int
  b : Int
def R.vs (p : R) : List V := [.int p.l, .int p.t, .int p.r, .int p.b]
def R.ds (p : R) : List PyData := [.int p.l, .int p.t, .int p.r, .int p.b]
def R.good (p : R) : Prop := -1000000000 ≤ p.l ∧ p.l ≤ 1000000000 ∧ -1000000000 ≤ p.t ∧ p.t ≤ 1000000000 ∧ -1000000000 ≤ p.r ∧ p.r ≤ 1000000000 ∧ -1000000000 ≤ p.b ∧ p.b ≤ 1000000000 ∧ p.l < p.r ∧ p.t < p.b
def R.has (p : R) (x y : Int) : Prop := p.l ≤ x ∧ x < p.r ∧ p.t ≤ y ∧ y < p.b
theorem R.dp {K : PySem.W.Frag} {H : Hp} (p : R) : DpAll K H p.vs p.ds := .cons (.int _) (.cons (.int _) (.cons (.int _) (.cons (.int _) .nil)))
def spRect : Sp := fun vs H Q _ => ∃ (b s : Addr) (c : Int), vs = [.ref b, .int c] ∧ Bag b s H ∧ 1 ≤ c ∧ c ≤ 100000000 ∧
  ∀ (x y x2 y2 : Int) H' p, Keep b H H' → Bag b s H' → H p = none → H' p = some (.tup (R.vs ⟨c * x, c * y, c * x2, c * y2⟩)) → -4 ≤ x → x ≤ 4 → -4 ≤ y → y ≤ 4 → x < x2 → x2 ≤ x + 4 → y < y2 → y2 ≤ y + 4 → Q (.ref p) H'
end RK

namespace RK
open PySem PySem.Spec PyProof.Rows L2
section
variable {X : Cx}
/-! ### a special method of an own class, called by the machine at A -/
theorem run_special {CX : CXT} {n : Nat} {f : Addr} {fd : FuncData} {ps : List Str} {sp : Sp} {E : XK} {A : Around} {pins : List (Addr × Obj)} {σ : L2.St} {H : Hp} {s : Shared} {us : List Value} {vs : List V} {Q : VK}
    (F : FnOk X.prog X.w X.K X.mg X.base CX n f fd ps sp) (hr : Room n A) (hf : A.frames = X.A.frames) (hb : Binds X.K fd ps []) (hx : Passes CX X E) (I : Inv X pins σ H s) (r : Vals vs us) (h : sp vs H Q E) :
    wpAny (model X.prog X.w) A (call (.ref f) us) (EP X pins σ Q) X.xe s := by
  have e0 : Env0 X.prog X.w X.K X.mg X.base A X.stack s H := by
    have e := I.env0
    exact ⟨by rw [hf]; exact e.frames, e.mod, e.bs, e.bsz, e.funs, e.frf, e.hok, e.bare⟩
  have hl := F.len _ _ _ _ h
  refine wpAny_call (codeAny_mono (F.run A X.stack s H ⟨us, []⟩ us vs Q E hr e0 (by
    have := hb s us I.kIn (by rw [List.append_nil, ← r.length]; exact hl)
    simpa using this) r h) fun r s' hq => ?_)
  cases r with
  | error e => exact hx pins σ H s e s' I hq
  | ok fl =>
    cases fl with
    | ret w => exact I.after hq
    | next => exact False.elim hq
    | brk => exact False.elim hq
    | cont => exact False.elim hq
/-- what is asked of y's type that an own == of C is tried first -/
inductive NotSub (K : PySem.W.Frag) (C : Addr) (H : Hp) : V → Prop
  | ins {a dx : Addr} {fs : List (Str × V)} : H a = some (.ins C dx fs) → NotSub K C H (.ref a)
  | dK {a : Addr} {kvs : List (Key × V)} : H a = some (.dK kvs) → PySem.W.subIn K (.type "dict") (.ref C) = some false → NotSub K C H (.ref a)
  | lst {a : Addr} {xs : List V} : H a = some (.lst xs) → PySem.W.subIn K (.type "list") (.ref C) = some false → NotSub K C H (.ref a)
theorem notSub_of {pins : List (Addr × Obj)} {σ : L2.St} {H : Hp} {s : Shared} {C : Addr} {y : V} {v : Value} (I : Inv X pins σ H s) (ry : RelV y v) (h : NotSub X.K C H y) :
    ∃ tb, PySem.W.Looks (model X.prog X.w) s.heap (typeOf v) tb ∧ PySem.W.notFirst X.K C tb = true := by
  cases h with
  | @ins a dx fs ha =>
    cases ry
    obtain ⟨mA, J, _⟩ := ins_get I.hok ha
    obtain ⟨od, J, _⟩ := J.look
    exact ⟨.ref C, J.type, by simp [PySem.W.notFirst]⟩
  | @dK a kvs ha hs =>
    cases ry
    obtain ⟨_, _, vs, _, o, es, ep, h1, h2, _⟩ := (show ObjOk X.prog X.w H s.heap a (.dK kvs) from I.hok a _ ha)
    refine ⟨.type "dict", ?_, by simp [PySem.W.notFirst, hs]⟩
    exact h2.1 ▸ (PySem.W.Looks.ld h1).andThen .now
  | @lst a xs ha hs =>
    cases ry
    obtain ⟨_, its, n, _, h1⟩ := (show ObjOk X.prog X.w H s.heap a (.lst xs) from I.hok a _ ha)
    refine ⟨.type "list", ?_, by simp [PySem.W.notFirst, hs]⟩
    exact (PySem.W.Looks.ld h1).andThen .now
/-- x == y by the own __eq__ of x's class -/
def rEqOwn (C : Addr) (sp : Sp) (K : PySem.W.Frag) (E : XK) : R2 := fun x y H Q => ∃ (a dx : Addr) (fs : List (Str × V)), x = .ref a ∧ H a = some (.ins C dx fs) ∧ NotSub K C H y ∧ sp [x, y] H (fun v H' => ∃ b, v = .bl b ∧ Q (.bl b) H') E
theorem op_eqOwn {CX : CXT} {n : Nat} {C f : Addr} {fd : FuncData} {ps : List Str} {sp : Sp} {E : XK} (F : FnOk X.prog X.w X.K X.mg X.base CX n f fd ps sp) (hr : Room n X.A)
    (hs : PySem.W.findIn X.K (.ref C) "__eq__" = some (some (.ref f))) (hf : PySem.W.isFn X.K (.ref f) = true) (hb : Binds X.K fd ps []) (hx : Passes CX X E) : OpR X (compareOp .Eq) (rEqOwn C sp X.K E) := by
  intro pins s σ H x y u v Q I rx ry h
  obtain ⟨a, dx, fs, rfl, ha, hn, h⟩ := h
  obtain ⟨tb, L, nf⟩ := notSub_of I ry hn
  cases rx
  obtain ⟨mA, J, _⟩ := ins_get I.hok ha
  obtain ⟨od, J, _⟩ := J.look
  obtain ⟨m, hF⟩ := I.fr
  show wpAny (model X.prog X.w) X.A (richCompare .Eq (.ref a) v) (EP X pins σ Q) X.xe s
  refine PySem.W.cmp_K (op := .Eq) (tb := tb) hr.units0 hF I.ok.mod.kin J L nf hs hf ?_
  refine wpAny_mono (run_special F hr rfl hb hx I (vs := [.ref a, y]) (.cons (show RelV (.ref a) (.ref a) from rfl) (.cons ry .nil)) h) (fun r s' q => ?_) fun _ _ z => z
  obtain ⟨z, H', I', rz, b, rfl, q⟩ := q
  cases rz
  exact ⟨.bl b, H', I', rfl, q⟩
/-- len(x), repr(x) by own methods -/
def rLenOwn (C : Addr) (sp : Sp) (E : XK) : List V → Hp → VK → Prop := fun vs H Q => ∃ (a dx : Addr) (fs : List (Str × V)), vs = [.ref a] ∧ H a = some (.ins C dx fs) ∧ sp [.ref a] H (fun v H' => ∃ i : Int, v = .int i ∧ 0 ≤ i ∧ i < 2 ^ 63 ∧ Q (.int i) H') E
theorem call_lenOwn {CX : CXT} {n : Nat} {C f : Addr} {fd : FuncData} {ps : List Str} {sp : Sp} {E : XK} (F : FnOk X.prog X.w X.K X.mg X.base CX n f fd ps sp) (hr : Room (n + 1) X.A)
    (hs : PySem.W.findIn X.K (.ref C) "__len__" = some (some (.ref f))) (hf : PySem.W.isFn X.K (.ref f) = true) (hb : Binds X.K fd ps []) (hx : Passes CX X E) : CallR X (.builtin "len") (rLenOwn C sp E) := by
  intro pins s σ H xs us Q I r h
  obtain ⟨a, dx, fs, rfl, ha, h⟩ := h
  obtain ⟨u, rfl, rx⟩ := vals1 r
  cases rx
  obtain ⟨mA, J, _⟩ := ins_get I.hok ha
  obtain ⟨od, J, _⟩ := J.look
  obtain ⟨m, hF⟩ := I.fr
  refine PySem.W.len_K hF I.ok.mod.kin J hs hf ?_
  refine wpAny_mono (run_special F hr.in1 rfl hb hx I (vs := [.ref a]) (.cons (show RelV (.ref a) (.ref a) from rfl) .nil) h) (fun r s' q => ?_) fun _ _ z => z
  obtain ⟨z, H', I', rz, i, rfl, h0, h1, q⟩ := q
  obtain ⟨t, rfl⟩ := rz
  exact ⟨⟨h0, h1⟩, .int i, H', I'.tok _, ⟨_, rfl⟩, q⟩
def rReprOwn (C : Addr) (sp : Sp) (E : XK) : List V → Hp → VK → Prop := fun vs H Q => ∃ (a dx : Addr) (fs : List (Str × V)), vs = [.ref a] ∧ H a = some (.ins C dx fs) ∧ sp [.ref a] H (fun v H' => ∃ z : Str, v = .str z ∧ Q (.str z) H') E
theorem call_reprOwn {CX : CXT} {n : Nat} {C f : Addr} {fd : FuncData} {ps : List Str} {sp : Sp} {E : XK} (F : FnOk X.prog X.w X.K X.mg X.base CX n f fd ps sp) (hr : Room (n + 1) X.A)
    (hs : PySem.W.findIn X.K (.ref C) "__repr__" = some (some (.ref f))) (hf : PySem.W.isFn X.K (.ref f) = true) (hb : Binds X.K fd ps []) (hx : Passes CX X E) : CallR X (.builtin "repr") (rReprOwn C sp E) := by
  intro pins s σ H xs us Q I r h
  obtain ⟨a, dx, fs, rfl, ha, h⟩ := h
  obtain ⟨u, rfl, rx⟩ := vals1 r
  cases rx
  obtain ⟨mA, J, _⟩ := ins_get I.hok ha
  obtain ⟨od, J, _⟩ := J.look
  obtain ⟨m, hF⟩ := I.fr
  refine PySem.W.repr_K hr.in1.units0 hF I.ok.mod.kin J hs hf ?_
  refine wpAny_mono (run_special F hr.in1 rfl hb hx I (vs := [.ref a]) (.cons (show RelV (.ref a) (.ref a) from rfl) .nil) h) (fun r s' q => ?_) fun _ _ z => z
  obtain ⟨z, H', I', rz, t, rfl, q⟩ := q
  obtain ⟨k, rfl⟩ := rz
  exact ⟨.str t, H', I', ⟨_, rfl⟩, q⟩
/-! ### == of two dicts, their values data -/
def eqvD (ds es : List (Key × PyData)) : Bool := ds.length == es.length && ds.all fun p => match (es.find? fun kv => decide (kv.1 = p.1)) with | some q => PyData.eqv p.2 q.2 | none => false
/-- the dict's values are the data ds -/
def DatD (K : PySem.W.Frag) (H : Hp) (kvs : List (Key × V)) (ds : List (Key × PyData)) : Prop := Paired (fun (p : Key × V) (q : Key × PyData) => p.1 = q.1 ∧ Dp K H p.2 q.2 ∧ SeqAt.shaped q.2 = true) kvs ds
theorem datD_find {K : PySem.W.Frag} {H : Hp} {k : Key} {P : Program} {w : World} : ∀ {kvs : List (Key × V)} {ds : List (Key × PyData)} {vs : List (Key × Value)}, DatD K H kvs ds → KV kvs vs →
    (valueAt vs k = none ∧ ds.find? (fun kv => decide (kv.1 = k)) = none) ∨ ∃ v u q, valueAt vs k = some u ∧ ds.find? (fun kv => decide (kv.1 = k)) = some q ∧ RelV v u ∧ Dp K H v q.2 ∧ SeqAt.shaped q.2 = true
  | _, _, _, .nil, .nil => .inl ⟨rfl, rfl⟩
  | _, _, _, .cons (a := p) (b := q) h t, .cons (b := r) h2 t2 => by
    obtain ⟨e1, d1, sh⟩ := h
    obtain ⟨e2, r2⟩ := h2
    obtain ⟨rk, rv⟩ := r
    have e2 : p.1 = rk := e2
    subst e2
    by_cases hk : p.1 = k
    · refine .inr ⟨p.2, rv, q, ?_, ?_, r2, d1, sh⟩
      · simp [valueAt, hk]
      · rw [List.find?_cons]
        simp [← e1, hk]
    · have hk2 : ¬ q.1 = k := fun z => hk (e1.trans z)
      rcases datD_find (k := k) (P := P) (w := w) t t2 with ⟨a1, a2⟩ | ⟨v, u, q', a1, a2, a3⟩
      · refine .inl ⟨?_, ?_⟩
        · rw [← a1]
          simp [valueAt, hk]
        · rw [List.find?_cons]
          simp [hk2, a2]
      · refine .inr ⟨v, u, q', ?_, ?_, a3⟩
        · rw [← a1]
          simp [valueAt, hk]
        · rw [List.find?_cons]
          simp [hk2, a2]
theorem hits_of {pins : List (Addr × Obj)} {σ : L2.St} {H : Hp} {s : Shared} (I : Inv X pins σ H s) {A : Around} (hu : A.units + 64 < cLine) {ls : List (Key × V)} {es : List (Key × PyData)} {vb : List (Key × Value)} (rb : KV ls vb) (de : DatD X.K H ls es) :
    ∀ {ks : List (Key × V)} {ds : List (Key × PyData)} {va : List (Key × Value)}, DatD X.K H ks ds → KV ks va →
      PySem.W.KeqHitsP X.prog X.w A s vb va (ds.all fun p => match (es.find? fun kv => decide (kv.1 = p.1)) with | some q => PyData.eqv p.2 q.2 | none => false)
  | _, _, _, .nil, .nil => .nil
  | _, _, _, .cons (a := p) (b := q) h t, .cons (b := r) h2 t2 => by
    obtain ⟨e1, d1, sh⟩ := h
    obtain ⟨e2, r2⟩ := h2
    obtain ⟨rk, rv⟩ := r
    have e2 : p.1 = rk := e2
    subst e2
    have ih := hits_of I hu rb de t t2
    rcases datD_find (k := p.1) (P := X.prog) (w := X.w) de rb with ⟨a1, a2⟩ | ⟨v, u, q', a1, a2, a3, a4, a5⟩
    · rw [List.all_cons, ← e1, a2]
      exact .miss a1
    · rw [List.all_cons, ← e1, a2]
      refine .hit a1 ?_ ih
      obtain ⟨as, r1⟩ := Dp.reads I q.2 p.2 rv d1 r2
      obtain ⟨bs, r2'⟩ := Dp.reads I q'.2 v u a4 a3
      exact (SeqAt.eqAt_reads q.2 q'.2 A s rv u as bs r1 r2' (SeqAt.canLay_of_shaped sh) (SeqAt.canLay_of_shaped a5) (SeqAt.room_of_shaped sh hu)).eqP
def rEqDct (K : PySem.W.Frag) : R2 := fun x y H Q => ∃ (a b : Addr) (ks ls : List (Key × V)) (ds es : List (Key × PyData)), x = .ref a ∧ y = .ref b ∧ H a = some (.dK ks) ∧ H b = some (.dK ls) ∧ DatD K H ks ds ∧ DatD K H ls es ∧ Q (.bl (eqvD ds es)) H
theorem op_eqDct (hu : X.A.units + 65 < cLine) : OpR X (compareOp .Eq) (rEqDct X.K) := by
  intro pins s σ H x y v u Q I rx ry h
  obtain ⟨a, b, ks, ls, ds, es, rfl, rfl, ha, hb, hd, he, q⟩ := h
  cases rx
  cases ry
  obtain ⟨_, ya, va, ra, da⟩ := (show ObjOk X.prog X.w H s.heap a (.dK ks) from I.hok a _ ha)
  obtain ⟨_, yb, vb, rb, db⟩ := (show ObjOk X.prog X.w H s.heap b (.dK ls) from I.hok b _ hb)
  show wpAny (model X.prog X.w) X.A (richCompare .Eq (.ref a) (.ref b)) (EP X pins σ Q) X.xe s
  refine PySem.W.rcP_dicts (knd := mixKind X.prog X.w) ya yb da db (by omega) (fun _ => hits_of I (A := X.A.in1) (by show X.A.units + 1 + 64 < cLine; omega) rb he hd ra) _ _ ?_
  have e1 : va.length = ds.length := by rw [← ra.length]; exact Paired.length hd
  have e2 : vb.length = es.length := by rw [← rb.length]; exact Paired.length he
  rw [e1, e2]
  exact ⟨.bl _, H, I, rfl, q⟩
/-! ### dict(zip(xs, ys)) -/
def tDictZip (K : PySem.W.Frag) (ta : TA) : TE := fun σ H Q => ta σ H fun vs H1 => ∃ (a b : Addr) (ks : List Key) (ys : List V), vs = [.ref a, .ref b] ∧ SqL K H1 a (ks.map kV) ∧ SqL K H1 b ys ∧ ks.length = ys.length ∧ ∀ p, H1 p = none → Q (.ref p) (upd H1 p (.dK (mergeK [] (ks.zip ys))))
theorem kv_zip : ∀ {ks : List Key} {ys : List V} {us ws : List Value}, Vals (ks.map kV) us → Vals ys ws → KV (ks.zip ys) (ks.zip ws)
  | [], _, _, _, _, _ => by
    rw [List.zip_nil_left, List.zip_nil_left]
    exact .nil
  | k :: ks, [], _, _, _, r2 => by
    cases r2
    exact .nil
  | k :: ks, y :: ys, _, _, r1, r2 => by
    cases r1 with
    | cons _ r1 =>
      cases r2 with
      | cons h r2 => exact .cons ⟨rfl, h⟩ (kv_zip r1 r2)
theorem vals_at {k : Key} {P : Program} {w : World} : ∀ {ks : List Key} {us : List Value} {i : Nat} {u : Value}, Vals (ks.map kV) us → us[i]? = some u → ∃ k, ks[i]? = some k ∧ (mixKind P w).is k u = true
  | [], _, _, _, r, h => by
    cases r
    simp at h
  | k :: ks, _, 0, _, r, h => by
    cases r with
    | cons h1 _ =>
      have e := Option.some.inj h
      subst e
      exact ⟨k, rfl, kV_is h1⟩
  | k' :: ks, _, i + 1, _, r, h => by
    cases r with
    | cons _ r => exact vals_at (k := k) (i := i) r h
theorem pe_dictZip {e e2 : Expr} {ta : TA} {p p2 pos pos2 : Pos} (hc : X.calm = true) (hg : Gl X "dict") (hm : X.mg "dict" = none) (hg2 : Gl X "zip") (hm2 : X.mg "zip" = none) (ha : PA X [e, e2] ta)
    (hs : starEach [e, e2] X.env = (false, eval e X.env) :: starEach [e2] X.env := by rfl) (hpl : (backTo pos2 (starEach [e2] X.env)).any (·.1) = false := by rfl)
    (hs2 : starEach [.Call (.Name "zip" p2) [e, e2] [] pos2] X.env = (false, eval (.Call (.Name "zip" p2) [e, e2] [] pos2) X.env) :: starEach [] X.env := by rfl) :
    PE X (.Call (.Name "dict" p) [.Call (.Name "zip" p2) [e, e2] [] pos2] [] pos) (tDictZip X.K ta) := by
  refine ⟨fun pins s σ H Q I h => ?_⟩
  refine Call_ (ld_blt I hg hm (show bootBuiltins "dict" = some (.type "dict") by decide +kernel) (PyProof.Rows.callWith_type1 (args_cons (Call_ (ld_blt I hg2 hm2 PyProof.Rows.boot_zip (PyProof.Rows.callWith_type1 (thn (ha.run pos2 pins s σ H _ I h) fun us s1 ⟨vs, H1, I1, r1, q1⟩ => ?_) hs hpl))) hs2) hs2 rfl))
  obtain ⟨a, b, ks, ys, ex, hqx, hqy, hln, q⟩ := q1
  subst ex
  cases r1 with
  | cons r rr =>
    cases rr with
    | cons r' rr =>
      cases rr
      cases r
      cases r'
      obtain ⟨its, rv, p1, z1⟩ := I1.list hqx
      obtain ⟨its2, rv2, p2', z2⟩ := I1.list hqy
      have la : a < s1.heap.objs.size := p1.lt
      have lb : b < s1.heap.objs.size := p2'.lt
      have hl1 : its.length = ks.length := by rw [← rv.length, List.length_map]
      have hl2 : its2.length = ks.length := by rw [← rv2.length, hln]
      refine call_zip_2 p1.isList p2'.isList fun h' hz hTI hTO h1 h2 hsz hk => args_nil ?_
      have I2 : Inv X pins σ H1 { s1 with heap := h' } := I1.kept (t' := s1.toks) hk
      have hmin : min its.toArray.size its2.toArray.size = ks.length := by rw [List.size_toArray, List.size_toArray, hl1, hl2, Nat.min_self]
      refine PySem.call_dict_pairs (s := { s1 with heap := h' }) (knd := mixKind X.prog X.w) (kvs := ks.zip its2) (PairArg.zip _ _ _ _ _ a b (PySem.W.ktu_apart s1.heap.objs.size a b la lb) its.toArray its2.toArray) (I1.ok.hd hc)
        ⟨hz, hTI, ⟨_, _, hTO⟩, h1, h2, p1.isList.at fun o e => hk _ o e, p2'.isList.at fun o e => hk _ o e⟩ ⟨?_, ?_⟩ ?_ ?_
      · rw [hmin, List.length_zip, hl2, Nat.min_self]
      · rintro i key v ⟨e1, e2⟩
        rw [List.getElem?_toArray] at e1 e2
        obtain ⟨k, hk1, hk2⟩ := vals_at (k := .inl 0) (P := X.prog) (w := X.w) rv e1
        exact ⟨k, by rw [List.getElem?_zip_eq_some]; exact ⟨hk1, e2⟩, hk2⟩
      · rw [hmin, ← hl1, ← rv.length]
        exact z1
      · intro h2' tk hd' hk2
        have hbig : s1.heap.objs.size ≤ h'.objs.size := by omega
        have fr : ∀ c, c ∈ [s1.heap.objs.size + 4, s1.heap.objs.size + 3, s1.heap.objs.size, s1.heap.objs.size + 1] → s1.heap.get? c = none := fun c hc' => by
          simp only [List.mem_cons, List.not_mem_nil, or_false] at hc'
          have : s1.heap.objs.size ≤ c := by rcases hc' with z | z | z | z <;> omega
          exact Heap.get?_none_of_le this
        have keep : ∀ c o, s1.heap.get? c = some o → h2'.get? c = some o := fun c o e => by
          refine hk2 c o (fun hm' => ?_) (hk _ _ e)
          rw [fr c hm'] at e
          cases e
        have hm' : (h'.objs.size == sysModules) = false := beq_eq_false_iff_ne.mpr (Nat.ne_of_gt (Nat.lt_of_lt_of_le I1.big hbig))
        have hlen : (mergeK [] (ks.zip ys)).length ≤ sizeLine := by
          refine Nat.le_trans (length_mergeK _ []) ?_
          rw [List.length_nil, Nat.zero_add, List.length_zip, ← hln, Nat.min_self, ← hl1, ← rv.length]
          exact z1
        exact ⟨.ref h'.objs.size, upd H1 h'.objs.size (.dK (mergeK [] (ks.zip ys))), I1.laid (t' := tk) keep hbig (show ObjOk X.prog X.w _ _ _ (.dK (mergeK [] (ks.zip ys))) from ⟨hlen, hm', merged [] (ks.zip its2), KV.merge (kv_zip rv rv2) .nil, hd'⟩), rfl, q _ (I1.hok.fresh hbig)⟩
end
theorem kit_me (K : PySem.W.Frag) (C : Addr) : PySem.W.kitOne K (.ref C) (.ref C) = some true := by
  unfold PySem.W.kitOne
  rw [if_pos (by simp)]
theorem kit_sub {K : PySem.W.Frag} {C : Addr} {n : String} (h1 : PySem.W.isClsIn K C = true) (h2 : PySem.W.typeIn K (.ref C) = some (.type "type")) (h3 : PySem.W.subIn K (.type n) (.ref C) = some false) : PySem.W.kitOne K (.type n) (.ref C) = some false := by
  unfold PySem.W.kitOne
  rw [if_neg (by simp)]
  show (if ((PySem.W.clsIn K C).isSome && PySem.W.typeIn K (.ref C) == some (.type "type")) = true then PySem.W.subIn K (.type n) (.ref C) else none) = some false
  have h1' : (PySem.W.clsIn K C).isSome = true := h1
  rw [h1', h2, if_pos (by simp)]
  exact h3
end RK

namespace RK
open PySem PySem.Spec PyProof.Rows L2
section
open PySem.W
variable {prog : Program} {w : World} {K : PySem.W.Frag} {A : Around} {E : Value → Shared → Prop} {s : Shared} {x C f : Addr} {ox : Obj} {od : Option Obj}
theorem ifBound_B {M : Model} {name : Str} {id : String} {args : List Value} {Q : Option Value → Shared → Prop} (X : K.In s.heap) (I : InstAt s.heap x ox C od) (hs : findIn K (.ref C) name = some (some (.builtin id)))
    (hb : ∀ self, bindSpecial (.builtin id) self = pure (.builtin id, [self])) (h : wpAny M A (call (.builtin id) (.ref x :: args)) (fun v => Q (some v)) E s) : wpAny M A (callSpecialIfBound? (.ref x) name args) Q E s := by
  simp only [callSpecialIfBound?, bindSpecialIfBound?]
  refine wpAny_holding (wpAny_bind (wpAny_bind (wpAny_bind (I.type.here ((looks_findIn X hs).here ?_)))))
  refine wpAny_bind (wpAny_askSetting (wpAny_ite ?_))
  have fin : wpAny M A (call (.builtin id) ([.ref x] ++ args) >>= fun v => pure (some v)) Q E s := wpAny_bind (wpAny_mono h (fun v s' h' => wpAny_pure h') fun _ _ h' => h')
  split
  · exact wpAny_bind ((Looks.of_pure (hb _)).here (wpAny_pure (by exact fin)))
  · exact wpAny_tryCatch (wpAny_bind ((Looks.of_pure (hb _)).here (wpAny_pure (by exact fin))))
open Builtin in
theorem obj_ne {v : Value} {Q : Value → Shared → Prop} (hu : A.in1.units < cLine) (X : K.In s.heap) (I : InstAt s.heap x ox C od) (hm : mroIn K C (.type "object") = some true) (hr : findIn K (.ref C) "__eq__" = some (some (.ref f))) (hf : isFn K (.ref f) = true)
    (h : wpAny (model prog w) A.in1 (call (.ref f) [.ref x, v]) (fun r s' => ∃ b, r = .bool b ∧ Q (.bool (!b)) s') E s) : wpAny (model prog w) A (call (.builtin "object.__ne__") [.ref x, v]) Q E s := by
  refine wpAny_call (codeAny_call_builtin (by decide +kernel) PySem.F.cmpEntry_ne (check_slot (i := "object.__ne__") (owner := "object") (n := "__ne__") PySem.F.cmpKind_ne PySem.F.cmpSplit_ne (I.type.andThen (looks_mroIn X hm)) (PySem.F.cmpArgs_ne _ _) ?_))
  unfold Builtin.«object.__ne__»
  refine wpAny_bind (m := slotArgs "__ne__" 1 _) (wpAny_pure ?_)
  refine wpAny_bind (m := cRoomFor _ _) (wpAny_cRoomFor hu ?_)
  refine wpAny_bind (m := callSpecialIfBound? (.ref x) (Str.ofString "__eq__") _) (ifBound_K X I hr hf (wpAny_mono h (fun r s' hq => ?_) fun _ _ y => y))
  obtain ⟨b, rfl, hq⟩ := hq
  refine wpAny_bind (m := truthy (.bool b)) (wpAny_truthy_bool ?_)
  exact wpAny_pure hq
theorem cmp_ne {v tb : Value} {Q : Value → Shared → Prop} (hu : A.units + 1 < cLine) (X : K.In s.heap) (I : InstAt s.heap x ox C od) (hb : Looks (model prog w) s.heap (typeOf v) tb) (hn : notFirst K C tb = true)
    (hne : findIn K (.ref C) "__ne__" = some (some (.builtin "object.__ne__"))) (hm : mroIn K C (.type "object") = some true) (hr : findIn K (.ref C) "__eq__" = some (some (.ref f))) (hf : isFn K (.ref f) = true)
    (h : wpAny (model prog w) A.in1 (call (.ref f) [.ref x, v]) (fun r s' => ∃ b, r = .bool b ∧ Q (.bool (!b)) s') E s) : wpAny (model prog w) A (richCompare .NotEq (.ref x) v) Q E s := by
  have one : wpAny (model prog w) A (tryCompare (.ref x) (cmpInfo .NotEq).2.1 v) (fun r s' => ∃ b, r = some (.bool b) ∧ Q (.bool b) s') E s := by
    unfold tryCompare
    refine wpAny_bind (ifBound_B (id := "object.__ne__") X I hne (PySem.F.cmp_object.ne.bind) (obj_ne hu X I hm hr hf (wpAny_mono h (fun r s' hq => ?_) fun _ _ z => z)))
    obtain ⟨b, rfl, hq⟩ := hq
    exact ⟨b, rfl, wpAny_pure ⟨_, rfl, hq⟩⟩
  unfold richCompare
  simp only [oneThing_ref]
  refine wpAny_holding (wpAny_bind (wpAny_cRoomFor (Nat.lt_of_succ_lt hu) ?_))
  refine wpAny_bind (I.type.here (wpAny_bind (hb.here ?_)))
  split
  · rename_i q
    have e : subIn K tb (.ref C) = some false := by
      rcases Bool.or_eq_true_iff.mp hn with e | e
      · rw [beq_iff_eq.mp e] at q; simp at q
      · exact beq_iff_eq.mp e
    refine wpAny_bind ((looks_subIn X e).here ?_)
    simp only [Bool.false_eq_true, if_false]
    refine wpAny_bind (wpAny_mono one (fun r s' z => ?_) fun _ _ e => e)
    obtain ⟨b, rfl, hq⟩ := z
    exact wpAny_pure hq
  · refine wpAny_bind (wpAny_pure ?_)
    simp only [Bool.false_eq_true, if_false]
    refine wpAny_bind (wpAny_mono one (fun r s' z => ?_) fun _ _ e => e)
    obtain ⟨b, rfl, hq⟩ := z
    exact wpAny_pure hq
end
section
variable {X : Cx}
/-- x != y by the own __eq__ of x's class -/
def rNeOwn (C : Addr) (sp : Sp) (K : PySem.W.Frag) (E : XK) : R2 := fun x y H Q => ∃ (a dx : Addr) (fs : List (Str × V)), x = .ref a ∧ H a = some (.ins C dx fs) ∧ NotSub K C H y ∧ sp [x, y] H (fun v H' => ∃ b, v = .bl b ∧ Q (.bl (!b)) H') E
theorem op_neOwn {CX : CXT} {n : Nat} {C f : Addr} {fd : FuncData} {ps : List Str} {sp : Sp} {E : XK} (F : FnOk X.prog X.w X.K X.mg X.base CX n f fd ps sp) (hr : Room (n + 1) X.A)
    (hs : PySem.W.findIn X.K (.ref C) "__eq__" = some (some (.ref f))) (hf : PySem.W.isFn X.K (.ref f) = true) (hne : PySem.W.findIn X.K (.ref C) "__ne__" = some (some (.builtin "object.__ne__"))) (hm : PySem.W.mroIn X.K C (.type "object") = some true)
    (hb : Binds X.K fd ps []) (hx : Passes CX X E) : OpR X (compareOp .NotEq) (rNeOwn C sp X.K E) := by
  intro pins s σ H x y u v Q I rx ry h
  obtain ⟨a, dx, fs, rfl, ha, hn, h⟩ := h
  obtain ⟨tb, L, nf⟩ := notSub_of I ry hn
  cases rx
  obtain ⟨mA, J, _⟩ := ins_get I.hok ha
  obtain ⟨od, J, _⟩ := J.look
  show wpAny (model X.prog X.w) X.A (richCompare .NotEq (.ref a) v) (EP X pins σ Q) X.xe s
  refine cmp_ne hr.in1.units0 I.kIn J L nf hne hm hs hf ?_
  refine wpAny_mono (run_special F hr.in1 rfl hb hx I (vs := [.ref a, y]) (.cons (show RelV (.ref a) (.ref a) from rfl) (.cons ry .nil)) h) (fun r s' q => ?_) fun _ _ z => z
  obtain ⟨z, H', I', rz, b, rfl, q⟩ := q
  cases rz
  exact ⟨b, rfl, .bl (!b), H', I', rfl, q⟩
end
section
variable {X : Cx} {CX : CXT} {k : Nat} {f C : Addr} {fd : FuncData} {ps ks : List Str} {sp : Sp} {E : XK} {m : Str} {pos apos : Pos} {o : Expr} {kws : List Keyword} {ta : TE} {tk : TA} {g : List Value → List Value → List Value} {gV : List V → List V → List V}
/-- o.m(k = v, ..) -/
def tMethK (C : Addr) (m : Str) (sp : Sp) (gV : List V → List V → List V) (E : XK) (ta : TE) (tk : TA) : TE := fun σ H Q => ta σ H fun x H1 => ∃ a dx fs, x = .ref a ∧ H1 a = some (.ins C dx fs) ∧ fs.lookup m = none ∧ tk σ H1 fun zs H2 => sp (gV [.ref a] zs) H2 Q E
theorem pe_methK0 {pl : Sem Bool} (he : PE X o ta) (c : Cls X.K C) (hm : Meth X.K C m f) (F : FnOk X.prog X.w X.K X.mg X.base CX k f fd ps sp) (hr : Room k X.A) (hb : KBinds X.K fd ps ks g gV) (hx : Passes CX X E) (hkw : PK X kws tk)
    (hall : (backToKw pos (keywordEach kws X.env)).all (·.1.isSome) = true := by rfl) (hks : (backToKw pos (keywordEach kws X.env)).filterMap (·.1) = ks := by rfl)
    (hpl : ((backTo pos (starEach [] X.env)).any (·.1) || (backToKw pos (keywordEach kws X.env)).any (·.1.isNone)) = false := by rfl)
    (ht : eval (.Call (.Attribute o m apos) [] kws pos) X.env = (do
      let ov ← eval o X.env
      standAt apos.atName
      let (f, first) ← holding [ov] (getMethod ov m pl)
      callWith pos f first (backTo pos (starEach [] X.env)) (backToKw pos (keywordEach kws X.env))) := by rfl) :
    PE X (.Call (.Attribute o m apos) [] kws pos) (tMethK C m sp gV E ta tk) := by
  refine ⟨fun pins s σ H Q I h => ?_⟩
  refine PySem.W.methodCall_KW (pl := pl) (thn (he.run pins s σ H _ I h) fun u s1 ⟨x, H1, I1, rx, a, dx, fs, ex, ea, l, q⟩ => ?_) ht
  subst ex
  obtain rfl : u = Value.ref a := rx
  refine getmeth_ok I1 ea c hm l ?_
  refine PySem.W.callWith_KW0 (first := [.ref a]) (h₀ := X.base) I.ok.mod.kin hm.kp hall ?_ hpl
  refine thn (hkw.run pos pins s1 σ H1 _ I1 q) fun ws s2 ⟨zs, H2, I2, rz, q2⟩ => ⟨I2.kIn, ?_⟩
  rw [hks]
  exact run_fnk (us := [.ref a]) (vs := [.ref a]) F hr hb hx I2 (.cons (show RelV (.ref a) (.ref a) from rfl) .nil) rz q2
end
end RK

namespace RK
open PySem PySem.Spec PyProof.Rows L2
theorem u65 {n : Nat} {A : Around} (h : Room (n + 1) A) : A.units + 65 < cLine := by
  have h2 : A.units + 1 + 64 < cLine := h.in1.units
  omega
theorem call_lenA {X : Cx} : CallR X (.builtin "len") (rLen X.K) := call_len
/-! ### texts -/
theorem str_len (z : Str) : z.length = z.cps.toList.length := by
  show z.cps.size = _
  simp
theorem app_codes (a b : Str) : (a ++ b).cps.toList = a.cps.toList ++ b.cps.toList := by
  show (a.cps ++ b.cps).toList = _
  simp
theorem cut_codes (z : Str) (lo hi : Option Int) : (cutS z lo hi).cps.toList = (z.cps.toList.drop (HT.sIx z.length 0 lo)).take (HT.sIx z.length z.length hi - HT.sIx z.length 0 lo) := by
  unfold cutS
  simp
theorem str_ext {a b : Str} (h : a.cps.toList = b.cps.toList) : a = b := by
  obtain ⟨⟨x⟩⟩ := a
  obtain ⟨⟨y⟩⟩ := b
  simp at h
  rw [h]
/-- a lowercase letter's code -/
def Low (c : Nat) : Prop := 97 ≤ c ∧ c ≤ 122
def NameOk (z : Str) : Prop := 1 ≤ z.length ∧ z.length ≤ 6 ∧ ∀ c ∈ z.cps.toList, Low c
abbrev abc : Str := "abcdefghijklmnopqrstuvwxyz"
theorem abc_codes : abc.cps.toList = List.range' 97 26 := by decide +kernel
theorem abc_len : abc.length = 26 := by rw [str_len, abc_codes]; rfl
theorem abc_mem {c : Nat} : c ∈ abc.cps.toList ↔ Low c := by
  rw [abc_codes, List.mem_range'_1]
  unfold Low
  omega
theorem abc_at {i : Int} (h0 : 0 ≤ i) (h1 : i < 26) : ∃ c, atI abc.cps.toList i = some c ∧ Low c := by
  have hl : abc.cps.toList.length = 26 := by rw [abc_codes]; rfl
  have hi : i.toNat < abc.cps.toList.length := by omega
  obtain ⟨j, rfl⟩ : ∃ j : Nat, i = (j : Int) := ⟨i.toNat, by omega⟩
  have hj : j < abc.cps.toList.length := by omega
  exact ⟨abc.cps.toList[j], atI_nat (List.getElem?_eq_getElem hj), abc_mem.mp (List.getElem_mem hj)⟩
theorem one_codes (c : Nat) : (⟨#[c]⟩ : Str).cps.toList = [c] := rfl
theorem one_len (c : Nat) : (⟨#[c]⟩ : Str).length = 1 := rfl
theorem mul_codes (c : Nat) : ∀ n : Nat, 1 ≤ n → ∃ k, (Txt.mul ⟨#[c]⟩ (n : Int)).cps.toList = List.replicate k c ∧ k = n := by
  intro n hn
  refine ⟨n, ?_, rfl⟩
  unfold Txt.mul
  rw [if_neg (by omega)]
  by_cases h1 : n = 1
  · subst h1
    rfl
  · have e1 : (((n : Int) == 1) || (⟨#[c]⟩ : Str).length == 0) = false := by
      have : ((n : Int) == 1) = false := by simp; omega
      rw [this]
      rfl
    rw [e1, if_neg (by decide)]
    show ((List.replicate (n : Int).toNat #[c]).foldl (· ++ ·) #[]).toList = _
    rw [Int.toNat_natCast]
    have key : ∀ (m : Nat) (acc : Array Nat), ((List.replicate m #[c]).foldl (· ++ ·) acc).toList = acc.toList ++ List.replicate m c := by
      intro m
      induction m with
      | zero => intro acc; simp
      | succ m ih =>
        intro acc
        rw [List.replicate_succ, List.foldl_cons, ih]
        simp [List.replicate_succ]
    rw [key]
    rfl
section
variable {X : Cx}
/-- one sign * n, n from 1 to 1000 -/
theorem op_mul_str : OpR X (binaryOp .Mult) (fun x y H Q => ∃ (c : Nat) (n : Int), x = .str ⟨#[c]⟩ ∧ y = .int n ∧ 1 ≤ n ∧ n ≤ 1000 ∧ Q (.str (Txt.mul ⟨#[c]⟩ n)) H) := by
  intro pins s σ H x y u v Q I rx ry h
  obtain ⟨c, n, rfl, rfl, h1, h2, q⟩ := h
  obtain ⟨t, rfl⟩ := rx
  obtain ⟨k, rfl⟩ := ry
  refine PySem.SB.mul (x := ⟨#[c]⟩) ⟨?_, ?_, ?_⟩ (fun t' k' => ⟨.str _, H, I.tok _, ⟨_, rfl⟩, q⟩)
  · rw [decide_eq_false (by omega), decide_eq_false (by omega)]
    rfl
  · intro _ _
    have : (1 : Int) ≤ (2 ^ 63 - 1) / n := by
      rw [Int.le_ediv_iff_mul_le (by omega)]
      omega
    show ¬ ((1 : Int) > _)
    omega
  · intro _ _
    show Builtin.Str.tooLong (1 * n.toNat) = false
    rw [Nat.one_mul]
    have hn : n.toNat ≤ 1000 := by omega
    unfold Builtin.Str.tooLong
    exact decide_eq_false (by
      have : (1000 : Nat) ≤ sizeLine := by decide
      omega)
end
/-! ### sorted texts -/
def leS (a b : Str) : Prop := ¬ b.cps.toList < a.cps.toList
theorem leS_antisymm {a b : Str} (h1 : leS a b) (h2 : leS b a) : a = b := str_ext (List.le_antisymm (List.not_lt.mp h1) (List.not_lt.mp h2))
theorem leS_trans {a b c : Str} (h1 : leS a b) (h2 : leS b c) : leS a c := List.not_lt.mpr (List.le_trans (List.not_lt.mp h1) (List.not_lt.mp h2))
theorem leS_total (a b : Str) : leS a b ∨ leS b a := by
  rcases List.le_total a.cps.toList b.cps.toList with h | h
  · exact .inl (List.not_lt.mpr h)
  · exact .inr (List.not_lt.mpr h)
theorem rising_of : ∀ (r : List Str) (p : Str), risingS p r = true → (p :: r).Pairwise leS
  | [], p, _ => List.pairwise_singleton _ _
  | x :: r, p, h => by
    have h : (!ltCps x.cps.toList p.cps.toList && risingS x r) = true := h
    rw [Bool.and_eq_true] at h
    have ih := rising_of r x h.2
    have h1 : leS p x := by
      have h0 := h.1
      rw [ltCps_eq] at h0
      simpa [leS] using h0
    refine List.pairwise_cons.mpr ⟨fun y hy => ?_, ih⟩
    rcases List.mem_cons.mp hy with rfl | hy
    · exact h1
    · exact leS_trans h1 ((List.pairwise_cons.mp ih).1 y hy)
theorem sorted_of {l : List Str} (h : sortedS l = true) : l.Pairwise leS := by
  cases l with
  | nil => exact List.Pairwise.nil
  | cons x r => exact rising_of r x h
/-- two sorted arrangements of one list are one -/
theorem sorted_one : ∀ {a b : List Str}, a.Perm b → a.Pairwise leS → b.Pairwise leS → a = b
  | [], b, p, _, _ => (List.nil_perm.mp p).symm
  | x :: a, [], p, _, _ => absurd p.length_eq (by simp)
  | x :: a, y :: b, p, h1, h2 => by
    have c1 := List.pairwise_cons.mp h1
    have c2 := List.pairwise_cons.mp h2
    have e : x = y := by
      have hx : x ∈ y :: b := p.mem_iff.mp List.mem_cons_self
      have hy : y ∈ x :: a := p.mem_iff.mpr List.mem_cons_self
      rcases List.mem_cons.mp hx with e | hx
      · exact e
      · rcases List.mem_cons.mp hy with e | hy
        · exact e.symm
        · exact leS_antisymm (c1.1 y hy) (c2.1 x hx)
    subst e
    rw [sorted_one ((List.perm_cons x).mp p) c1.2 c2.2]
/-! ### a dict comprehension over a list that stays -/
theorem dc_list {K : PySem.W.Frag} {a : Addr} {xs : List V} {g : TG} {tt : TT} {tk tv : TE} {vs : List Nat} {σ : L2.St} {H1 : Hp} {D : Addr} {Qd : Hp → Prop} (Pv : Nat → Hp → Prop) (start : Pv 0 (upd H1 D (.dK []))) (stays : ∀ i H, Pv i H → SqL K H a xs)
    (turn : ∀ i x H, xs[i]? = some x → Pv i H → g x (wipe σ vs) H fun σ2 H2 => wipe σ2 vs = wipe σ vs ∧ tt σ2 H2 fun b H3 =>
      if b = true then tk σ2 H3 fun y H4 => tv σ2 H4 fun z H5 => ∃ kvs k, y = kV k ∧ H5 D = some (.dK kvs) ∧ kvs.length < sizeLine ∧ Pv (i + 1) (upd H5 D (.dK (putK kvs k z))) else Pv (i + 1) H3) (fin : ∀ H, Pv xs.length H → Qd H) :
    ∃ W : Nat → Nat → Hp → Prop, (∃ m, W 0 m (upd H1 D (.dK []))) ∧ ∀ i m H, W i m H →
      ((Itl K a).stop i H ∧ Qd H) ∨ ((Itl K a).go i H ∧ ∃ Nx : Hp → Prop, (∀ H', Nx H' → ∃ m', m' < m ∧ W (i + 1) m' H') ∧ ∀ x H', (Itl K a).yld i H x H' → g x (wipe σ vs) H' fun σ2 H2 => wipe σ2 vs = wipe σ vs ∧ tt σ2 H2 fun b H3 =>
        if b = true then tk σ2 H3 fun y H4 => tv σ2 H4 fun z H5 => ∃ kvs k, y = kV k ∧ H5 D = some (.dK kvs) ∧ kvs.length < sizeLine ∧ Nx (upd H5 D (.dK (putK kvs k z))) else Nx H3) := by
  refine ⟨fun i m H => m + i = xs.length ∧ Pv i H, ⟨xs.length, rfl, start⟩, fun i m H hw => ?_⟩
  obtain ⟨em, p⟩ := hw
  have q := stays i H p
  cases m with
  | zero =>
    have ei : i = xs.length := by omega
    subst ei
    exact .inl ⟨⟨xs, q, Nat.le_refl _⟩, fin H p⟩
  | succ m =>
    have hlt : i < xs.length := by omega
    have g1 : xs[i]? = some xs[i] := List.getElem?_eq_getElem hlt
    refine .inr ⟨⟨xs, xs[i], q, g1⟩, Pv (i + 1), fun H' p' => ⟨m, Nat.lt_succ_self _, by omega, p'⟩, fun x H' hy => ?_⟩
    obtain ⟨e, hy⟩ := hy
    subst e
    exact turn i x _ (hy xs q) p
/-! ### promises of the law's helpers -/
def spOf : Sp := fun vs H Q _ => ∃ (b s : Addr) (x : V), vs = [.ref b, x] ∧ Bag b s H ∧
  ((∃ (p : Addr) (xs : List V), x = .ref p ∧ p ≠ b ∧ H p = some (.lst xs) ∧ 1 ≤ xs.length ∧ xs.length ≤ 1000 ∧ ∀ v H', v ∈ xs → Keep b H H' → Bag b s H' → Q v H') ∨
   ∃ z : Str, x = .str z ∧ 1 ≤ z.length ∧ z.length ≤ 1000 ∧ ∀ c H', c ∈ z.cps.toList → Keep b H H' → Bag b s H' → Q (.str ⟨#[c]⟩) H')
def spMixed : Sp := fun vs H Q _ => ∃ (b s p : Addr) (xs : List V), vs = [.ref b, .ref p] ∧ Bag b s H ∧ p ≠ b ∧ H p = some (.lst xs) ∧ xs.length ≤ 1000 ∧
  ∀ (ys : List V) (q : Addr) H', ys.Perm xs → Keep b H H' → Bag b s H' → H q = none → q ≠ b → q ≠ s → H' q = some (.lst ys) → Q (.ref q) H'
def spNames : Sp := fun vs H Q _ => ∃ (b s : Addr) (n : Int), vs = [.ref b, .int n] ∧ Bag b s H ∧ 0 ≤ n ∧ n ≤ 100 ∧
  ∀ (zs : List Str) (q : Addr) H', zs.length = n.toNat → (∀ z ∈ zs, NameOk z) → Keep b H H' → Bag b s H' → H q = none → q ≠ b → q ≠ s → H' q = some (.lst (zs.map V.str)) → Q (.ref q) H'
end RK

namespace RK
open PySem PySem.Spec PyProof.Rows L2
/-! ### windows: a name, the address of its tuple, the rectangle -/
abbrev W3 := Str × Addr × R
def kvOf (w : W3) : Key × V := (Sum.inr w.1, .ref w.2.1)
def dOf (w : W3) : Key × PyData := (Sum.inr w.1, .tuple w.2.2.ds)
def nr (w : W3) : Str × R := (w.1, w.2.2)
def putW (ws : List W3) (w : W3) : List W3 := if (ws.any fun v => decide (v.1 = w.1)) = true then ws.map (fun v => if v.1 = w.1 then w else v) else ws ++ [w]
def mergeW (ws l : List W3) : List W3 := l.foldl putW ws
def Names (ws : List W3) : List Str := ws.map (·.1)
theorem inr_inj {a b : Str} : ((Sum.inr a : Key) = Sum.inr b) ↔ a = b := ⟨fun h => Sum.inr.inj h, fun h => by rw [h]⟩
theorem any_kv (ws : List W3) (z : Str) : ((ws.map kvOf).any fun kv => decide (kv.1 = (Sum.inr z : Key))) = ws.any fun v => decide (v.1 = z) := by
  rw [List.any_map]
  congr 1
  funext v
  show decide ((Sum.inr v.1 : Key) = Sum.inr z) = decide (v.1 = z)
  rw [decide_eq_decide]
  exact inr_inj
theorem put_kv (ws : List W3) (w : W3) : putK (ws.map kvOf) (Sum.inr w.1) (.ref w.2.1) = (putW ws w).map kvOf := by
  unfold putK putW
  rw [any_kv]
  by_cases h : (ws.any fun v => decide (v.1 = w.1)) = true
  · rw [if_pos h, if_pos h, List.map_map, List.map_map]
    refine List.map_congr_left fun v _ => ?_
    show (if (Sum.inr v.1 : Key) = Sum.inr w.1 then ((Sum.inr v.1 : Key), V.ref w.2.1) else kvOf v) = kvOf (if v.1 = w.1 then w else v)
    by_cases e : v.1 = w.1
    · rw [if_pos (inr_inj.mpr e), if_pos e, e]
      rfl
    · rw [if_neg (fun z => e (inr_inj.mp z)), if_neg e]
  · rw [if_neg h, if_neg h, List.map_append]
    rfl
theorem merge_kv : ∀ (l ws : List W3), mergeK (ws.map kvOf) (l.map kvOf) = (mergeW ws l).map kvOf
  | [], ws => rfl
  | w :: l, ws => by
    show mergeK (putK (ws.map kvOf) (Sum.inr w.1) (.ref w.2.1)) (l.map kvOf) = (mergeW (putW ws w) l).map kvOf
    rw [put_kv]
    exact merge_kv l (putW ws w)
theorem put_names (ws : List W3) (w : W3) : Names (putW ws w) = if w.1 ∈ Names ws then Names ws else Names ws ++ [w.1] := by
  unfold putW Names
  by_cases h : (ws.any fun v => decide (v.1 = w.1)) = true
  · rw [if_pos h]
    obtain ⟨v, hv, e⟩ := List.any_eq_true.mp h
    rw [if_pos (List.mem_map.mpr ⟨v, hv, of_decide_eq_true e⟩), List.map_map]
    refine List.map_congr_left fun v _ => ?_
    show (if v.1 = w.1 then w else v).1 = v.1
    by_cases e : v.1 = w.1
    · rw [if_pos e, e]
    · rw [if_neg e]
  · rw [if_neg h, if_neg, List.map_append]
    · rfl
    · intro hm
      obtain ⟨v, hv, e⟩ := List.mem_map.mp hm
      exact h (List.any_eq_true.mpr ⟨v, hv, decide_eq_true e⟩)
theorem put_nodup {ws : List W3} (w : W3) (h : (Names ws).Nodup) : (Names (putW ws w)).Nodup := by
  rw [put_names]
  by_cases e : w.1 ∈ Names ws
  · rw [if_pos e]
    exact h
  · rw [if_neg e]
    exact List.nodup_append.mpr ⟨h, List.nodup_cons.mpr ⟨List.not_mem_nil, List.nodup_nil⟩, fun a ha b hb => by
      rw [List.mem_singleton.mp hb]
      intro z
      rw [z] at ha
      exact e ha⟩
theorem put_mem {ws : List W3} {w v : W3} (h : v ∈ putW ws w) : v = w ∨ v ∈ ws := by
  unfold putW at h
  by_cases e : (ws.any fun v => decide (v.1 = w.1)) = true
  · rw [if_pos e] at h
    obtain ⟨u, hu, e2⟩ := List.mem_map.mp h
    by_cases e3 : u.1 = w.1
    · rw [if_pos e3] at e2
      exact .inl e2.symm
    · rw [if_neg e3] at e2
      exact .inr (e2 ▸ hu)
  · rw [if_neg e] at h
    rcases List.mem_append.mp h with h | h
    · exact .inr h
    · exact .inl (List.mem_singleton.mp h)
theorem put_len (ws : List W3) (w : W3) : ws.length ≤ (putW ws w).length ∧ (putW ws w).length ≤ ws.length + 1 ∧ 1 ≤ (putW ws w).length := by
  unfold putW
  by_cases e : (ws.any fun v => decide (v.1 = w.1)) = true
  · rw [if_pos e, List.length_map]
    obtain ⟨v, hv, _⟩ := List.any_eq_true.mp e
    have := List.length_pos_of_mem hv
    omega
  · rw [if_neg e, List.length_append]
    show ws.length ≤ ws.length + 1 ∧ ws.length + 1 ≤ ws.length + 1 ∧ 1 ≤ ws.length + 1
    omega
theorem merge_all : ∀ (l ws : List W3), (Names ws).Nodup → (Names (mergeW ws l)).Nodup ∧ (∀ v ∈ mergeW ws l, v ∈ ws ∨ v ∈ l) ∧ ws.length ≤ (mergeW ws l).length ∧ (mergeW ws l).length ≤ ws.length + l.length ∧ (1 ≤ l.length → 1 ≤ (mergeW ws l).length)
  | [], ws, h => ⟨h, fun v hv => .inl hv, Nat.le_refl _, Nat.le_refl _, fun z => absurd z (by simp)⟩
  | w :: l, ws, h => by
    obtain ⟨a, b, c, d, e⟩ := merge_all l (putW ws w) (put_nodup w h)
    have p := put_len ws w
    refine ⟨a, fun v hv => ?_, Nat.le_trans p.1 c, ?_, fun _ => Nat.le_trans p.2.2 c⟩
    · rcases b v hv with z | z
      · rcases put_mem z with z | z
        · exact .inr (z ▸ List.mem_cons_self)
        · exact .inl z
      · exact .inr (List.mem_cons_of_mem _ z)
    · show (mergeW (putW ws w) l).length ≤ ws.length + (l.length + 1)
      omega
theorem merge_new : ∀ (l ws : List W3), (Names (ws ++ l)).Nodup → mergeW ws l = ws ++ l
  | [], ws, _ => (List.append_nil ws).symm
  | w :: l, ws, h => by
    have e : putW ws w = ws ++ [w] := by
      unfold putW
      rw [if_neg]
      intro z
      obtain ⟨v, hv, e⟩ := List.any_eq_true.mp z
      unfold Names at h
      rw [List.map_append, List.map_cons] at h
      exact (List.nodup_append.mp h).2.2 v.1 (List.mem_map.mpr ⟨v, hv, rfl⟩) w.1 List.mem_cons_self (of_decide_eq_true e)
    show mergeW (putW ws w) l = _
    rw [e, merge_new l (ws ++ [w]) (by rw [List.append_assoc]; exact h), List.append_assoc]
    rfl
theorem val_kv {ws : List W3} (h : (Names ws).Nodup) {w : W3} (hw : w ∈ ws) : valV (ws.map kvOf) (Sum.inr w.1 : Key) = some (.ref w.2.1) := by
  induction ws with
  | nil => cases hw
  | cons v ws ih =>
    have hn := List.nodup_cons.mp h
    rcases List.mem_cons.mp hw with e | hw
    · subst e
      exact valV_pos rfl
    · have ne : ¬ v.1 = w.1 := fun e => hn.1 (List.mem_map.mpr ⟨w, hw, e.symm⟩)
      rw [List.map_cons, valV_neg (fun z => ne (inr_inj.mp z))]
      exact ih hn.2 hw
theorem val_none {ws : List W3} {z : Str} (h : z ∉ Names ws) : valV (ws.map kvOf) (Sum.inr z : Key) = none := by
  induction ws with
  | nil => rfl
  | cons v ws ih =>
    have h1 : ¬ v.1 = z := fun e => h (e ▸ List.mem_cons_self)
    rw [List.map_cons, valV_neg (fun q => h1 (inr_inj.mp q))]
    exact ih fun q => h (List.mem_cons_of_mem _ q)
/-! ### arrangements -/
theorem arrange : ∀ (ys : List Str) (ws : List W3), ys.Perm (Names ws) → ∃ us : List W3, us.Perm ws ∧ Names us = ys
  | [], ws, h => by
    have e := List.nil_perm.mp h
    have e2 : ws = [] := List.map_eq_nil_iff.mp e
    exact ⟨[], e2 ▸ .nil, rfl⟩
  | y :: ys, ws, h => by
    obtain ⟨w, hw, e⟩ := List.mem_map.mp (h.mem_iff.mp List.mem_cons_self)
    obtain ⟨l1, l2, rfl⟩ := List.append_of_mem hw
    have p : (l1 ++ w :: l2).Perm (w :: (l1 ++ l2)) := List.perm_middle
    have h2 : ys.Perm (Names (l1 ++ l2)) := by
      have h3 : (y :: ys).Perm (Names (w :: (l1 ++ l2))) := h.trans (p.map _)
      have e : w.1 = y := e
      have h4 : (y :: ys).Perm (y :: Names (l1 ++ l2)) := by
        have : Names (w :: (l1 ++ l2)) = y :: Names (l1 ++ l2) := by
          show w.1 :: _ = _
          rw [e]
          rfl
        rw [← this]
        exact h3
      exact (List.perm_cons y).mp h4
    obtain ⟨us, p2, e2⟩ := arrange ys (l1 ++ l2) h2
    refine ⟨w :: us, (p2.cons w).trans p.symm, ?_⟩
    show w.1 :: Names us = _
    rw [e2]
    exact congrArg (· :: ys) e
theorem perm_of_sub {α : Type} : ∀ {a b : List α}, a.Nodup → (∀ x ∈ a, x ∈ b) → b.length ≤ a.length → a.Perm b
  | [], b, _, _, h => by
    have : b = [] := List.length_eq_zero_iff.mp (Nat.le_zero.mp h)
    rw [this]
  | x :: a, b, hn, hs, hl => by
    obtain ⟨l1, l2, rfl⟩ := List.append_of_mem (hs x List.mem_cons_self)
    have p : (l1 ++ x :: l2).Perm (x :: (l1 ++ l2)) := List.perm_middle
    have hn2 := List.nodup_cons.mp hn
    have sub : ∀ y ∈ a, y ∈ l1 ++ l2 := fun y hy => by
      rcases List.mem_cons.mp (p.mem_iff.mp (hs y (List.mem_cons_of_mem _ hy))) with e | h
      · exact absurd (e ▸ hy) hn2.1
      · exact h
    have len : (l1 ++ l2).length ≤ a.length := by
      have := p.length_eq
      rw [this] at hl
      simpa using hl
    exact ((perm_of_sub hn2.2 sub len).cons x).trans p.symm
/-! ### == of the dicts, by names and rectangles -/
theorem eqv_ds (p q : R) : PyData.eqv (.tuple p.ds) (.tuple q.ds) = true ↔ p = q := by
  obtain ⟨a, b, c, d⟩ := p
  obtain ⟨a', b', c', d'⟩ := q
  simp [R.ds, PyData.eqv, PyData.eqvAll]
theorem find_d {z : Str} : ∀ {us : List W3}, (us.map dOf).find? (fun kv => decide (kv.1 = (Sum.inr z : Key))) = (us.find? fun v => decide (v.1 = z)).map dOf
  | [] => rfl
  | u :: us => by
    rw [List.map_cons, List.find?_cons, List.find?_cons]
    have e : decide ((dOf u).1 = (Sum.inr z : Key)) = decide (u.1 = z) := by
      rw [decide_eq_decide]
      exact inr_inj
    rw [e]
    cases decide (u.1 = z) with
    | true => rfl
    | false => exact find_d
theorem nodup_of_map {α β : Type} (f : α → β) : ∀ {l : List α}, (l.map f).Nodup → l.Nodup
  | [], _ => List.nodup_nil
  | x :: l, h => by
    have hn := List.nodup_cons.mp h
    exact List.nodup_cons.mpr ⟨fun m => hn.1 (List.mem_map.mpr ⟨x, m, rfl⟩), nodup_of_map f hn.2⟩
theorem eqvD_iff {ws us : List W3} (hw : (Names ws).Nodup) (hu : (Names us).Nodup) : eqvD (ws.map dOf) (us.map dOf) = true ↔ (ws.map nr).Perm (us.map nr) := by
  unfold eqvD
  rw [Bool.and_eq_true, beq_iff_eq, List.length_map, List.length_map, List.all_eq_true]
  have nd : ∀ {l : List W3}, (Names l).Nodup → (l.map nr).Nodup := fun {l} h => by
    have e : Names l = (l.map nr).map (·.1) := by
      unfold Names
      rw [List.map_map]
      rfl
    rw [e] at h
    exact nodup_of_map _ h
  constructor
  · rintro ⟨hl, ha⟩
    refine perm_of_sub (nd hw) (fun x hx => ?_) (by rw [List.length_map, List.length_map, hl]; exact Nat.le_refl _)
    obtain ⟨v, hv, rfl⟩ := List.mem_map.mp hx
    have h := ha (dOf v) (List.mem_map.mpr ⟨v, hv, rfl⟩)
    have h : (match (us.map dOf).find? (fun kv => decide (kv.1 = (Sum.inr v.1 : Key))) with | some q => PyData.eqv (.tuple v.2.2.ds) q.2 | none => false) = true := h
    rw [find_d] at h
    cases e : us.find? (fun u => decide (u.1 = v.1)) with
    | none =>
      rw [e] at h
      cases h
    | some u =>
      rw [e] at h
      have e1 : u.1 = v.1 := of_decide_eq_true (List.find?_some (p := fun u : W3 => decide (u.1 = v.1)) e)
      have e2 : v.2.2 = u.2.2 := (eqv_ds _ _).mp h
      refine List.mem_map.mpr ⟨u, List.mem_of_find?_eq_some e, ?_⟩
      show (u.1, u.2.2) = (v.1, v.2.2)
      rw [e1, e2]
  · intro p
    have hl : ws.length = us.length := by
      have := p.length_eq
      rwa [List.length_map, List.length_map] at this
    refine ⟨hl, fun x hx => ?_⟩
    obtain ⟨v, hv, rfl⟩ := List.mem_map.mp hx
    obtain ⟨u, hu', e⟩ := List.mem_map.mp (p.mem_iff.mp (List.mem_map.mpr ⟨v, hv, rfl⟩))
    have e1 : u.1 = v.1 := congrArg (fun z : Str × R => z.1) e
    have e2 : u.2.2 = v.2.2 := congrArg (fun z : Str × R => z.2) e
    show (match (us.map dOf).find? (fun kv => decide (kv.1 = (Sum.inr v.1 : Key))) with | some q => PyData.eqv (.tuple v.2.2.ds) q.2 | none => false) = true
    rw [find_d]
    cases e3 : us.find? (fun u => decide (u.1 = v.1)) with
    | none =>
      have := List.find?_eq_none.mp e3 u hu'
      exact absurd (decide_eq_true e1) this
    | some u2 =>
      have e4 : u2.1 = v.1 := of_decide_eq_true (List.find?_some (p := fun u : W3 => decide (u.1 = v.1)) e3)
      have m2 := List.mem_of_find?_eq_some e3
      have e5 : u2 = u := by
        have h1 := val_kv hu m2
        clear h1
        -- names are different for different windows
        have inj : ∀ {l : List W3}, (Names l).Nodup → ∀ a ∈ l, ∀ b ∈ l, a.1 = b.1 → a = b := by
          intro l
          induction l with
          | nil => intro _ a ha; cases ha
          | cons c l ih =>
            intro h a ha b hb e
            have hn := List.nodup_cons.mp h
            rcases List.mem_cons.mp ha with ea | ha
            · rcases List.mem_cons.mp hb with eb | hb
              · rw [ea, eb]
              · exact absurd (List.mem_map.mpr ⟨b, hb, by rw [← e, ea]⟩) hn.1
            · rcases List.mem_cons.mp hb with eb | hb
              · exact absurd (List.mem_map.mpr ⟨a, ha, by rw [e, eb]⟩) hn.1
              · exact ih hn.2 a ha b hb e
        exact inj hu _ m2 _ hu' (e4.trans e1.symm)
      show PyData.eqv (.tuple v.2.2.ds) (.tuple u2.2.2.ds) = true
      rw [e5, e2]
      exact (eqv_ds _ _).mpr rfl
/-! ### what stands in the heap -/
structure Wins (H : Hp) (ws : List W3) : Prop where
  nd : (Names ws).Nodup
  nm : ∀ w ∈ ws, NameOk w.1
  at_ : ∀ w ∈ ws, H w.2.1 = some (.tup w.2.2.vs)
  gd : ∀ w ∈ ws, w.2.2.good
theorem Wins.same {H H' : Hp} {ws : List W3} (W : Wins H ws) (e : Same H H') : Wins H' ws := ⟨W.nd, W.nm, fun w hw => e _ _ (W.at_ w hw), W.gd⟩
theorem Wins.keep {b s : Addr} {H H' : Hp} {ws : List W3} (W : Wins H ws) (k : Keep b H H') (B : Bag b s H) : Wins H' ws := ⟨W.nd, W.nm, fun w hw => k.of_tup B (W.at_ w hw), W.gd⟩
theorem Wins.perm {H : Hp} {ws us : List W3} (W : Wins H ws) (p : us.Perm ws) : Wins H us := ⟨(List.Perm.map (fun x : W3 => x.1) p).nodup_iff.mpr W.nd, fun w hw => W.nm w (p.mem_iff.mp hw), fun w hw => W.at_ w (p.mem_iff.mp hw), fun w hw => W.gd w (p.mem_iff.mp hw)⟩
theorem Wins.sub {H : Hp} {ws us : List W3} (W : Wins H ws) (n : (Names us).Nodup) (h : ∀ w ∈ us, w ∈ ws) : Wins H us := ⟨n, fun w hw => W.nm w (h w hw), fun w hw => W.at_ w (h w hw), fun w hw => W.gd w (h w hw)⟩
theorem Wins.datD {K : PySem.W.Frag} {H : Hp} : ∀ {ws : List W3}, (∀ w ∈ ws, H w.2.1 = some (.tup w.2.2.vs)) → DatD K H (ws.map kvOf) (ws.map dOf)
  | [], _ => .nil
  | w :: ws, h => .cons ⟨rfl, .tup (.inl (.inl (h w List.mem_cons_self))) w.2.2.dp, rfl⟩ (Wins.datD fun v hv => h v (List.mem_cons_of_mem _ hv))
def fldW (d : Addr) : List (Str × V) := [("windows", .ref d)]
/-- a desk stands at p -/
structure DeskAt (C : Addr) (H : Hp) (p : Addr) (ws : List W3) : Prop where
  ex : ∃ dx d, H p = some (.ins C dx (fldW d)) ∧ H d = some (.dK (ws.map kvOf))
  win : Wins H ws
  so : (Names ws).Pairwise leS
theorem DeskAt.same {C : Addr} {H H' : Hp} {p : Addr} {ws : List W3} (D : DeskAt C H p ws) (e : Same H H') : DeskAt C H' p ws := by
  obtain ⟨⟨dx, d, h1, h2⟩, h3, h4⟩ := D
  exact ⟨⟨dx, d, e _ _ h1, e _ _ h2⟩, h3.same e, h4⟩
theorem DeskAt.keep {C b s : Addr} {H H' : Hp} {p : Addr} {ws : List W3} (D : DeskAt C H p ws) (k : Keep b H H') (B : Bag b s H) : DeskAt C H' p ws := by
  obtain ⟨⟨dx, d, h1, h2⟩, h3, h4⟩ := D
  obtain ⟨ys, hb⟩ := B.hb
  exact ⟨⟨dx, d, k _ _ (ne_of h1 hb (by intro z; cases z)) h1, k.dK hb h2⟩, h3.keep k B, h4⟩
theorem good_scaled {c x y x2 y2 : Int} (c0 : 1 ≤ c) (c1 : c ≤ 100000000) (a1 : -4 ≤ x) (a2 : x ≤ 4) (a3 : -4 ≤ y) (a4 : y ≤ 4) (a5 : x < x2) (a6 : x2 ≤ x + 4) (a7 : y < y2) (a8 : y2 ≤ y + 4) : (R.mk (c * x) (c * y) (c * x2) (c * y2)).good := by
  have up : ∀ z : Int, z ≤ 8 → c * z ≤ 1000000000 := fun z hz => by
    have h1 : c * z ≤ c * 8 := Int.mul_le_mul_of_nonneg_left hz (by omega)
    omega
  have lo : ∀ z : Int, -4 ≤ z → -1000000000 ≤ c * z := fun z hz => by
    have h1 : c * (-4) ≤ c * z := Int.mul_le_mul_of_nonneg_left hz (by omega)
    omega
  have lt : ∀ u v : Int, u < v → c * u < c * v := fun u v h => Int.mul_lt_mul_of_pos_left h (by omega)
  exact ⟨lo x a1, up x (by omega), lo y a3, up y (by omega), lo x2 (by omega), up x2 (by omega), lo y2 (by omega), up y2 (by omega), lt _ _ a5, lt _ _ a7⟩
def spWindows : Sp := fun vs H Q _ => ∃ (b s : Addr) (hi : Int), vs = [.ref b, .int 1, .int hi] ∧ Bag b s H ∧ 1 ≤ hi ∧ hi ≤ 24 ∧
  ∀ (ws : List W3) (q : Addr) H', Wins H' ws → 1 ≤ ws.length → (ws.length : Int) ≤ hi → Keep b H H' → Bag b s H' → H q = none → H' q = some (.dK (ws.map kvOf)) → Q (.ref q) H'
end RK

/-! ### data: what a Python value is, whatever its address -/
namespace DL
open PySem PySem.Spec PyProof.Rows L2 RK
inductive D where
  | non | bl (b : Bool) | int (i : Int) | str (x : Str)
  | lst (xs : List D) | tup (xs : List D) | ktp (xs : List D)
  | dic (kvs : List (Key × D)) | dct (kvs : List (List Key × D))
  | obj (C : Addr) (fs : List (Str × D))
  | bag
instance : Inhabited D := ⟨.non⟩
/-- the world: none, or the law's bag at b with its script at s, and the tables of its code objects -/
abbrev Wd := Option (Addr × Addr × List (Addr × Str))
def Wd.own : Wd → Addr → Prop
  | none, _ => False
  | some (b, s, T), a => a = b ∨ a = s ∨ ∃ p ∈ T, p.1 = a
def Wd.ok : Wd → Hp → Prop
  | none, _ => True
  | some (b, s, T), H => Bag b s H ∧ LamX.Tabs T H ∧ (T ≠ [] → ∀ a ps, H a = some (.tbl ps) → ∃ p ∈ T, p.1 = a)
/-- what data may stand on: no table, nothing that is told by its one object -/
def Plo : HO → Prop
  | .ext _ => False
  | .tbl _ => False
  | _ => True
theorem Plo.ntb : ∀ {o : HO}, Plo o → Ntb o := fun {o} h => by cases o <;> first | exact True.intro | exact h
theorem Wd.al : ∀ {W : Wd} {H : Hp} {a : Addr}, W.ok H → W.own a → ∃ o, H a = some o
  | some (b, s, T), H, a, h, .inl e => by
    obtain ⟨ys, hb⟩ := Bag.hb h.1
    exact ⟨_, e ▸ hb⟩
  | some (b, s, T), H, a, h, .inr (.inl e) => by
    obtain ⟨ys, hb⟩ := Bag.hs h.1
    exact ⟨_, e ▸ hb⟩
  | some (b, s, T), H, a, h, .inr (.inr ⟨p, hp, e⟩) => by
    obtain ⟨ps, h1, _⟩ := h.2.1 p hp
    exact ⟨_, e ▸ h1⟩
theorem Wd.st0 : ∀ {W : Wd} {H H' : Hp}, W.ok H → (∀ a o, H a = some o → (W.own a ∨ ¬ Plo o) → H' a = some o) → NoT H H' → W.ok H'
  | none, _, _, _, _, _ => trivial
  | some (b, s, T), H, H', h, k, n => by
    obtain ⟨⟨ns, i, big, salt, B⟩, tb, nt⟩ := h
    refine ⟨⟨ns, i, big, salt, k _ _ B.hb (.inl (.inl rfl)), k _ _ B.hs (.inl (.inr (.inl rfl))), B.ne, B.hi, B.hn, B.h0, B.h1, B.h2⟩, fun p hp => ?_, fun ne a ps h => let ⟨qs, q⟩ := n a ps h; nt ne a qs q⟩
    obtain ⟨ps, h1, h2, h3⟩ := tb p hp
    refine ⟨ps, k _ _ h1 (.inl (.inr (.inr ⟨p, hp, rfl⟩))), h2, fun pos cv hc => ?_⟩
    obtain ⟨c, e, hcd⟩ := h3 pos cv hc
    exact ⟨c, e, k _ _ hcd (.inr id)⟩
theorem Wd.st {W : Wd} {H H' : Hp} (h : W.ok H) (k : ∀ a o, H a = some o → (W.own a ∨ ¬ Plo o) → H' a = some o) (n : NoT H H') : W.ok H' := Wd.st0 h k n
mutual
inductive Dd (K : PySem.W.Frag) (N : Addr → Prop) (W : Wd) (H : Hp) : V → D → Prop
  | non : Dd K N W H .non .non
  | bl (b : Bool) : Dd K N W H (.bl b) (.bl b)
  | int (i : Int) : Dd K N W H (.int i) (.int i)
  | str (x : Str) : Dd K N W H (.str x) (.str x)
  | lst {a : Addr} {vs : List V} {ds : List D} : H a = some (.lst vs) → ¬ N a → DdAll K N W H vs ds → Dd K N W H (.ref a) (.lst ds)
  | tup {a : Addr} {vs : List V} {ds : List D} : H a = some (.tup vs) → ¬ N a → DdAll K N W H vs ds → Dd K N W H (.ref a) (.tup ds)
  | dic {a : Addr} {kvs : List (Key × V)} {kds : List (Key × D)} : Rd H a (.dK kvs) → ¬ N a → kvs.map (·.1) = kds.map (·.1) → DdAll K N W H (kvs.map (·.2)) (kds.map (·.2)) → Dd K N W H (.ref a) (.dic kds)
  | dct {a : Addr} {kvs : List (List Key × V)} {kds : List (List Key × D)} : Rd H a (.dT kvs) → ¬ N a → kvs.map (·.1) = kds.map (·.1) → DdAll K N W H (kvs.map (·.2)) (kds.map (·.2)) → Dd K N W H (.ref a) (.dct kds)
  | obj {a C dx : Addr} {fs : List (Str × V)} {fds : List (Str × D)} : H a = some (.ins C dx fs) → ¬ N a → fs.map (·.1) = fds.map (·.1) → DdAll K N W H (fs.map (·.2)) (fds.map (·.2)) → Dd K N W H (.ref a) (.obj C fds)
  | ktp {a : Addr} {o : Obj} {its : Array Value} {n : Nat} {vs : List V} {ds : List D} : K.lookup a = some o → o.cls = .type "tuple" → o.data = .seq its n → its.size ≤ sizeLine → Vals vs its.toList → DdAll K N W H vs ds → Dd K N W H (.ref a) (.ktp ds)
  | bag {b s : Addr} {T : List (Addr × Str)} : W = some (b, s, T) → Dd K N W H (.ref b) .bag
inductive DdAll (K : PySem.W.Frag) (N : Addr → Prop) (W : Wd) (H : Hp) : List V → List D → Prop
  | nil : DdAll K N W H [] []
  | cons {v : V} {d : D} {vs : List V} {ds : List D} : Dd K N W H v d → DdAll K N W H vs ds → DdAll K N W H (v :: vs) (d :: ds)
end
section
variable {K : PySem.W.Frag} {N N' : Addr → Prop} {W : Wd} {H H' : Hp}
theorem rd_keep {a : Addr} {o : HO} (k : ∀ o, H a = some o → H' a = some o) (h : Rd H a o) : Rd H' a o := by
  rcases h with h | ⟨u, h⟩
  · exact .inl (k _ h)
  · exact .inr ⟨u, k _ h⟩
theorem sqt_keep {a : Addr} {vs : List V} (k : ∀ o, H a = some o → H' a = some o) (h : SqT K H a vs) : SqT K H' a vs := by
  rcases h with h | h
  · exact .inl (rd_keep k h)
  · exact .inr h
mutual
theorem Dd.pres (k : ∀ a o, ¬ N a → H a = some o → ¬ N' a ∧ H' a = some o) : ∀ {v : V} {d : D}, Dd K N W H v d → Dd K N' W H' v d
  | _, _, .non => .non
  | _, _, .bl b => .bl b
  | _, _, .int i => .int i
  | _, _, .str x => .str x
  | _, _, .lst h q a => .lst (k _ _ q h).2 (k _ _ q h).1 (DdAll.pres k a)
  | _, _, .tup h q a => .tup (k _ _ q h).2 (k _ _ q h).1 (DdAll.pres k a)
  | _, _, .ktp h1 h2 h3 h4 h5 a => .ktp h1 h2 h3 h4 h5 (DdAll.pres k a)
  | _, _, .dic h q e a => .dic (rd_keep (fun o g => (k _ o q g).2) h) (by rcases h with h | ⟨u, h⟩ <;> exact (k _ _ q h).1) e (DdAll.pres k a)
  | _, _, .dct h q e a => .dct (rd_keep (fun o g => (k _ o q g).2) h) (by rcases h with h | ⟨u, h⟩ <;> exact (k _ _ q h).1) e (DdAll.pres k a)
  | _, _, .obj h q e a => .obj (k _ _ q h).2 (k _ _ q h).1 e (DdAll.pres k a)
  | _, _, .bag e => .bag e
theorem DdAll.pres (k : ∀ a o, ¬ N a → H a = some o → ¬ N' a ∧ H' a = some o) : ∀ {vs : List V} {ds : List D}, DdAll K N W H vs ds → DdAll K N' W H' vs ds
  | _, _, .nil => .nil
  | _, _, .cons h a => .cons (Dd.pres k h) (DdAll.pres k a)
end
theorem Dd.keep (k : ∀ a o, ¬ N a → H a = some o → H' a = some o) (n : ∀ a, N' a → N a) {v : V} {d : D} (h : Dd K N W H v d) : Dd K N' W H' v d := h.pres fun a o q g => ⟨fun z => q (n a z), k a o q g⟩
theorem DdAll.keep (k : ∀ a o, ¬ N a → H a = some o → H' a = some o) (n : ∀ a, N' a → N a) {v : List V} {d : List D} (h : DdAll K N W H v d) : DdAll K N' W H' v d := h.pres fun a o q g => ⟨fun z => q (n a z), k a o q g⟩
theorem DdAll.len : ∀ {vs : List V} {ds : List D}, DdAll K N W H vs ds → vs.length = ds.length
  | _, _, .nil => rfl
  | _, _, .cons _ a => congrArg Nat.succ (DdAll.len a)
theorem DdAll.get : ∀ {vs : List V} {ds : List D} {i : Nat} {d : D}, DdAll K N W H vs ds → ds[i]? = some d → ∃ v, vs[i]? = some v ∧ Dd K N W H v d
  | _, _, _, _, .nil, h => by simp at h
  | _, _, 0, _, .cons (v := v) q _, h => by
    have e := Option.some.inj h
    exact ⟨v, rfl, e ▸ q⟩
  | _, _, i + 1, _, .cons _ a, h => DdAll.get (i := i) a h
theorem DdAll.getV : ∀ {vs : List V} {ds : List D} {i : Nat} {v : V}, DdAll K N W H vs ds → vs[i]? = some v → ∃ d, ds[i]? = some d ∧ Dd K N W H v d
  | _, _, _, _, .nil, h => by simp at h
  | _, _, 0, _, .cons (d := d) q _, h => by
    have e := Option.some.inj h
    exact ⟨d, rfl, e ▸ q⟩
  | _, _, i + 1, _, .cons _ a, h => DdAll.getV (i := i) a h
theorem DdAll.app : ∀ {vs us : List V} {ds es : List D}, DdAll K N W H vs ds → DdAll K N W H us es → DdAll K N W H (vs ++ us) (ds ++ es)
  | _, _, _, _, .nil, b => b
  | _, _, _, _, .cons h a, b => .cons h (DdAll.app a b)
theorem DdAll.drop : ∀ {vs : List V} {ds : List D} (n : Nat), DdAll K N W H vs ds → DdAll K N W H (vs.drop n) (ds.drop n)
  | _, _, 0, a => a
  | _, _, _ + 1, .nil => .nil
  | _, _, n + 1, .cons _ a => DdAll.drop n a
theorem DdAll.take : ∀ {vs : List V} {ds : List D} (n : Nat), DdAll K N W H vs ds → DdAll K N W H (vs.take n) (ds.take n)
  | _, _, 0, _ => .nil
  | _, _, _ + 1, .nil => .nil
  | _, _, n + 1, .cons h a => .cons h (DdAll.take n a)
theorem DdAll.rev {vs : List V} {ds : List D} (a : DdAll K N W H vs ds) : DdAll K N W H vs.reverse ds.reverse := by
  have key : ∀ {vs : List V} {ds : List D}, DdAll K N W H vs ds → ∀ {us es}, DdAll K N W H us es → DdAll K N W H (vs.reverseAux us) (ds.reverseAux es) := by
    intro vs
    induction vs with
    | nil => intro ds a us es b; cases a; exact b
    | cons v vs ih => intro ds a us es b; cases a with | cons h a => exact ih a (.cons h b)
  exact key a .nil
theorem DdAll.set : ∀ {vs : List V} {ds : List D} (i : Nat) {v : V} {d : D}, DdAll K N W H vs ds → Dd K N W H v d → DdAll K N W H (vs.set i v) (ds.set i d)
  | _, _, _, _, _, .nil, _ => .nil
  | _, _, 0, _, _, .cons _ a, q => .cons q a
  | _, _, i + 1, _, _, .cons h a, q => .cons h (DdAll.set i a q)
theorem DdAll.eraseIdx : ∀ {vs : List V} {ds : List D} (i : Nat), DdAll K N W H vs ds → DdAll K N W H (vs.eraseIdx i) (ds.eraseIdx i)
  | _, _, _, .nil => .nil
  | _, _, 0, .cons _ a => a
  | _, _, i + 1, .cons h a => .cons h (DdAll.eraseIdx i a)
end
/-! ### what a slot holds -/
inductive En where
  | no | fz (d : D) | ow (ds : List D) | od (kvs : List (Key × D)) | ot (kvs : List (List Key × D))
def En.isOw : En → Bool
  | .ow _ => true | .od _ => true | .ot _ => true | _ => false
abbrev De := List En
def KeepW (W : Wd) (H H' : Hp) : Prop := ∀ a o, ¬ W.own a → H a = some o → H' a = some o
theorem KeepW.refl (W : Wd) (H : Hp) : KeepW W H H := fun _ _ _ h => h
theorem KeepW.trans {W : Wd} {H H1 H2 : Hp} (a : KeepW W H H1) (b : KeepW W H1 H2) : KeepW W H H2 := fun x o n h => b x o n (a x o n h)
theorem KeepW.new {W : Wd} {H : Hp} {p : Addr} {o : HO} (h : H p = none) : KeepW W H (upd H p o) := fun b u _ q => by rw [upd_ne (ne_of_none q h)]; exact q
theorem ok_new {W : Wd} {H : Hp} {p : Addr} {o : HO} (k : W.ok H) (h : H p = none) (n : Ntb o := by exact True.intro) : W.ok (upd H p o) := Wd.st k (fun b u q _ => by rw [upd_ne (ne_of_none q h)]; exact q) (noT_upd n)
/-- what is fixed through a def's run: the written part, the world, what must not be touched, the heap at the entry, whether the answer must be new -/
structure Fx where
  K : PySem.W.Frag
  W : Wd
  N0 : Addr → Prop
  H0 : Hp
  fr : Bool
def Fx.N (F : Fx) (L : List Addr) : Addr → Prop := fun a => F.N0 a ∨ a ∈ L
def EnOk (F : Fx) (L : List Addr) (H : Hp) : En → Option V → Prop
  | .no, _ => True
  | .fz d, some v => Dd F.K (F.N L) F.W H v d
  | .ow ds, some (.ref a) => a ∈ L ∧ ∃ vs, H a = some (.lst vs) ∧ DdAll F.K (F.N L) F.W H vs ds
  | .od kds, some (.ref a) => a ∈ L ∧ ∃ kvs, H a = some (.dK kvs) ∧ kvs.map (·.1) = kds.map (·.1) ∧ DdAll F.K (F.N L) F.W H (kvs.map (·.2)) (kds.map (·.2))
  | .ot kds, some (.ref a) => a ∈ L ∧ ∃ kvs, H a = some (.dT kvs) ∧ kvs.map (·.1) = kds.map (·.1) ∧ DdAll F.K (F.N L) F.W H (kvs.map (·.2)) (kds.map (·.2))
  | _, _ => False
structure Abs (F : Fx) (env : De) (σ : L2.St) (L : List Addr) (H : Hp) : Prop where
  ok : F.W.ok H
  al : ∀ a, F.N0 a → ∃ o, F.H0 a = some o
  wn : ∀ a, F.W.own a → F.N0 a
  kp : KeepW F.W F.H0 H
  fr : ∀ a ∈ L, F.H0 a = none ∧ ∃ o, H a = some o ∧ Plo o
  ls : env.length = σ.length
  sep : ∀ (i j : Nat) (a : Addr) (ei ej : En), env[i]? = some ei → env[j]? = some ej → ei.isOw = true → ej.isOw = true → σ[i]? = some (some (.ref a)) → σ[j]? = some (some (.ref a)) → i = j
  en : ∀ (i : Nat) (e : En) (x : Option V), env[i]? = some e → σ[i]? = some x → EnOk F L H e x
section
variable {F : Fx} {env : De} {σ : L2.St} {L : List Addr} {H H' : Hp}
theorem Abs.alN (A : Abs F env σ L H) {a : Addr} (h : F.N L a) : ∃ o, H a = some o := by
  rcases h with h | h
  · obtain ⟨o, e⟩ := A.al a h
    by_cases w : F.W.own a
    · exact Wd.al A.ok w
    · exact ⟨o, A.kp a o w e⟩
  · obtain ⟨_, o, e, _⟩ := A.fr a h
    exact ⟨o, e⟩
theorem Abs.new (A : Abs F env σ L H) {p : Addr} (h : H p = none) : ¬ F.N L p := fun z => by
  obtain ⟨o, e⟩ := A.alN z
  rw [h] at e
  cases e
theorem Abs.out (A : Abs F env σ L H) {a : Addr} (h : a ∈ L) : ¬ F.N0 a := fun z => by
  obtain ⟨o, e⟩ := A.al a z
  rw [(A.fr a h).1] at e
  cases e
theorem nw_of (A : Abs F env σ L H) {a : Addr} (h : ¬ F.N L a) : ¬ F.W.own a := fun z => h (.inl (A.wn a z))
theorem KeepW.n (A : Abs F env σ L H) (k : KeepW F.W H H') : ∀ a o, ¬ F.N L a → H a = some o → H' a = some o := fun a o n h => k a o (nw_of A n) h
theorem Abs.kd (A : Abs F env σ L H) (k : KeepW F.W H H') {v : V} {d : D} (h : Dd F.K (F.N L) F.W H v d) : Dd F.K (F.N L) F.W H' v d := h.keep (k.n A) fun _ z => z
theorem Abs.kda (A : Abs F env σ L H) (k : KeepW F.W H H') {v : List V} {d : List D} (h : DdAll F.K (F.N L) F.W H v d) : DdAll F.K (F.N L) F.W H' v d := h.keep (k.n A) fun _ z => z
theorem EnOk.keep {L' : List Addr} (A : Abs F env σ L H) (k : ∀ a o, ¬ F.N L a → H a = some o → H' a = some o) (n : ∀ a, F.N L' a → F.N L a) : ∀ {e : En} {x : Option V}, (∀ a, x = some (.ref a) → e.isOw = true → a ∈ L → a ∈ L' ∧ ∀ o, H a = some o → H' a = some o) → EnOk F L H e x → EnOk F L' H' e x
  | .no, _, _, _ => trivial
  | .fz d, some v, _, h => Dd.keep k n h
  | .ow ds, some (.ref a), g, ⟨h1, vs, h2, h3⟩ => let ⟨g1, g2⟩ := g a rfl rfl h1; ⟨g1, vs, g2 _ h2, DdAll.keep k n h3⟩
  | .od ds, some (.ref a), g, ⟨h1, vs, h2, h4, h3⟩ => let ⟨g1, g2⟩ := g a rfl rfl h1; ⟨g1, vs, g2 _ h2, h4, DdAll.keep k n h3⟩
  | .ot ds, some (.ref a), g, ⟨h1, vs, h2, h4, h3⟩ => let ⟨g1, g2⟩ := g a rfl rfl h1; ⟨g1, vs, g2 _ h2, h4, DdAll.keep k n h3⟩
/-- behind an expression -/
theorem Abs.step (A : Abs F env σ L H) (k : KeepW F.W H H') (o : F.W.ok H') : Abs F env σ L H' := by
  have w : ∀ a ∈ L, ¬ F.W.own a := fun a h z => A.out h (A.wn a z)
  refine ⟨o, A.al, A.wn, A.kp.trans k, fun a h => ?_, A.ls, A.sep, fun i e x h1 h2 => ?_⟩
  · obtain ⟨h1, u, h2, pl⟩ := A.fr a h
    exact ⟨h1, u, k a u (w a h) h2, pl⟩
  · exact EnOk.keep A (k.n A) (fun _ z => z) (fun a _ _ h => ⟨h, fun o q => k a o (w a h) q⟩) (A.en i e x h1 h2)
end
/-! ### expressions -/
abbrev TDE := De → (D → Prop) → Prop
abbrev TDT := De → (Bool → Prop) → Prop
abbrev TDA := De → (List D → Prop) → Prop
/-- clean: the answer has nothing of what is owned -/
def lC (F : Fx) (d : TDE) : TE := fun σ H Q => ∃ env L P, Abs F env σ L H ∧ d env P ∧ ∀ x v H', P x → KeepW F.W H H' → F.W.ok H' → Dd F.K (F.N L) F.W H' v x → Q v H'
/-- the object at a is x, its items have nothing of what is owned nor of a itself -/
def NewV (F : Fx) (L : List Addr) (H : Hp) (a : Addr) : D → Prop
  | .lst ds => ∃ vs, H a = some (.lst vs) ∧ DdAll F.K (F.N (a :: L)) F.W H vs ds
  | .tup ds => ∃ vs, H a = some (.tup vs) ∧ DdAll F.K (F.N (a :: L)) F.W H vs ds
  | .dic kds => ∃ kvs, H a = some (.dK kvs) ∧ kvs.map (·.1) = kds.map (·.1) ∧ DdAll F.K (F.N (a :: L)) F.W H (kvs.map (·.2)) (kds.map (·.2))
  | .dct kds => ∃ kvs, H a = some (.dT kvs) ∧ kvs.map (·.1) = kds.map (·.1) ∧ DdAll F.K (F.N (a :: L)) F.W H (kvs.map (·.2)) (kds.map (·.2))
  | _ => False
theorem nl_sub {F : Fx} {L : List Addr} {a : Addr} : ∀ x, F.N L x → F.N (a :: L) x := fun x h => h.imp id (List.mem_cons_of_mem _)
theorem NewV.dd {F : Fx} {L : List Addr} {H : Hp} {a : Addr} (n : ¬ F.N L a) : ∀ {x : D}, NewV F L H a x → Dd F.K (F.N L) F.W H (.ref a) x
  | .lst ds, ⟨vs, h, g⟩ => .lst h n (g.keep (fun _ _ _ z => z) nl_sub)
  | .tup ds, ⟨vs, h, g⟩ => .tup h n (g.keep (fun _ _ _ z => z) nl_sub)
  | .dic ds, ⟨vs, h, e, g⟩ => .dic (.inl h) n e (g.keep (fun _ _ _ z => z) nl_sub)
  | .dct ds, ⟨vs, h, e, g⟩ => .dct (.inl h) n e (g.keep (fun _ _ _ z => z) nl_sub)
/-- new: clean, and the object itself is new -/
def lN (F : Fx) (d : TDE) : TE := fun σ H Q => ∃ env L P, Abs F env σ L H ∧ d env P ∧ ∀ x a H', P x → KeepW F.W H H' → F.W.ok H' → H a = none → NewV F L H' a x → Q (.ref a) H'
/-- borrowed: clean, or an owned thing of clean items -/
def Bw (F : Fx) (L : List Addr) (H : Hp) (v : V) (x : D) : Prop := Dd F.K (F.N L) F.W H v x ∨ ∃ e, e.isOw = true ∧ EnOk F L H e (some v) ∧ x = (match e with | .ow ds => .lst ds | .od ds => .dic ds | .ot ds => .dct ds | _ => .non)
def lB (F : Fx) (d : TDE) : TE := fun σ H Q => ∃ env L P, Abs F env σ L H ∧ d env P ∧ ∀ x v H', P x → KeepW F.W H H' → F.W.ok H' → Bw F L H' v x → Q v H'
def lT (F : Fx) (d : TDT) : TT := fun σ H Q => ∃ env L P, Abs F env σ L H ∧ d env P ∧ ∀ x H', P x → KeepW F.W H H' → F.W.ok H' → Q x H'
def lA (F : Fx) (d : TDA) : TA := fun σ H Q => ∃ env L P, Abs F env σ L H ∧ d env P ∧ ∀ xs vs H', P xs → KeepW F.W H H' → F.W.ok H' → DdAll F.K (F.N L) F.W H' vs xs → Q vs H'
section
variable {X : Cx} {F : Fx} {e a b : Expr} {d da db : TDE}
theorem PE.mono {t t' : TE} (h : PE X e t) (m : ∀ σ H Q, t' σ H Q → t σ H Q) : PE X e t' := ⟨fun pins s σ H Q I q => h.run pins s σ H Q I (m σ H Q q)⟩
theorem PT.mono {t t' : TT} (h : PT X e t) (m : ∀ σ H Q, t' σ H Q → t σ H Q) : PT X e t' := ⟨fun pins s σ H Q I q => h.run pins s σ H Q I (m σ H Q q)⟩
theorem PW.mono {t t' : TT} (h : PW X e t) (m : ∀ σ H Q, t' σ H Q → t σ H Q) : PW X e t' := ⟨fun wh pins s σ H Q I q => h.run wh pins s σ H Q I (m σ H Q q)⟩
theorem PA.mono {es : List Expr} {t t' : TA} (h : PA X es t) (m : ∀ σ H Q, t' σ H Q → t σ H Q) : PA X es t' := ⟨fun pos pins s σ H Q I q => h.run pos pins s σ H Q I (m σ H Q q)⟩
theorem PK.mono {es : List Keyword} {t t' : TA} (h : PK X es t) (m : ∀ σ H Q, t' σ H Q → t σ H Q) : PK X es t' := ⟨fun pos pins s σ H Q I q => h.run pos pins s σ H Q I (m σ H Q q)⟩
theorem PS.mono {st : Stmt} {t t' : TS} (h : PS X st t) (m : ∀ E σ H, t' E σ H → t E σ H) : PS X st t' := ⟨fun pins s σ H E I q => h.run pins s σ H E I (m E σ H q)⟩
theorem PSs.mono {st : List Stmt} {t t' : TS} (h : PSs X st t) (m : ∀ E σ H, t' E σ H → t E σ H) : PSs X st t' := ⟨fun pins s σ H E I q => h.run pins s σ H E I (m E σ H q)⟩
theorem n_c (h : PE X e (lN F d)) : PE X e (lC F d) := PE.mono h fun σ H Q ⟨env, L, P, A, p, q⟩ => ⟨env, L, P, A, p, fun x a H' px k o n dd => q x _ H' px k o (dd.dd (A.new n))⟩
theorem c_b (h : PE X e (lC F d)) : PE X e (lB F d) := PE.mono h fun σ H Q ⟨env, L, P, A, p, q⟩ => ⟨env, L, P, A, p, fun x v H' px k o dd => q x v H' px k o (.inl dd)⟩
/-- an answer that is no object at all is clean -/
def D.leaf : D → Bool
  | .non => true | .bl _ => true | .int _ => true | .str _ => true | _ => false
/-! constants and names -/
def dC (x : D) : TDE := fun _ P => P x
theorem c_lift {x : D} {v : V} (h : PE X e (tC v)) (r : ∀ K N W H, Dd K N W H v x) : PE X e (lC F (dC x)) := PE.mono h fun σ H Q ⟨env, L, P, A, p, q⟩ => q x v H p (.refl _ _) A.ok (r _ _ _ _)
theorem dd_int {i : Int} {j} {pos : Pos} : PE X (.Constant (.int i) j pos) (lC F (dC (.int i))) := c_lift pe_int fun _ _ _ _ => .int i
theorem dd_str {i : Str} {j} {pos : Pos} : PE X (.Constant (.str i) j pos) (lC F (dC (.str i))) := c_lift pe_str fun _ _ _ _ => .str i
theorem dd_bl {i : Bool} {j} {pos : Pos} : PE X (.Constant (.bool i) j pos) (lC F (dC (.bl i))) := c_lift pe_bl fun _ _ _ _ => .bl i
theorem dd_non {j} {pos : Pos} : PE X (.Constant .none j pos) (lC F (dC .non)) := c_lift pe_non fun _ _ _ _ => .non
def dV (i : Nat) : TDE := fun env P => match env[i]? with | some (.fz d) => P d | _ => False
def dB (i : Nat) : TDE := fun env P => match env[i]? with | some (.fz d) => P d | some (.ow ds) => P (.lst ds) | some (.od ds) => P (.dic ds) | some (.ot ds) => P (.dct ds) | _ => False
theorem abs_at {env : De} {σ : L2.St} {L : List Addr} {H : Hp} (A : Abs F env σ L H) {i : Nat} {e : En} (h : env[i]? = some e) (n : e ≠ .no) : ∃ v, σ[i]? = some (some v) ∧ EnOk F L H e (some v) := by
  have hi : i < σ.length := by rw [← A.ls]; exact (List.getElem?_eq_some_iff.mp h).1
  have h2 := A.en i e σ[i] h (List.getElem?_eq_getElem hi)
  cases q : σ[i] with
  | none =>
    rw [q] at h2
    cases e with
    | no => exact absurd rfl n
    | _ => exact h2.elim
  | some v =>
    rw [q] at h2
    exact ⟨v, by rw [List.getElem?_eq_getElem hi, q], h2⟩
theorem dd_v {i : Nat} (h : PE X e (tVar i)) : PE X e (lC F (dV i)) := PE.mono h fun σ H Q ⟨env, L, P, A, p, q⟩ => by
  unfold dV at p
  cases z : env[i]? with
  | none => rw [z] at p; exact p.elim
  | some en =>
    rw [z] at p
    cases en with
    | fz d =>
      obtain ⟨v, h1, h2⟩ := abs_at A z (by intro w; cases w)
      exact ⟨v, h1, q d v H p (.refl _ _) A.ok h2⟩
    | _ => exact p.elim
theorem dd_b {i : Nat} (h : PE X e (tVar i)) : PE X e (lB F (dB i)) := PE.mono h fun σ H Q ⟨env, L, P, A, p, q⟩ => by
  unfold dB at p
  cases z : env[i]? with
  | none => rw [z] at p; exact p.elim
  | some en =>
    rw [z] at p
    cases en with
    | no => exact p.elim
    | fz d =>
      obtain ⟨v, h1, h2⟩ := abs_at A z (by intro w; cases w)
      exact ⟨v, h1, q d v H p (.refl _ _) A.ok (.inl h2)⟩
    | _ =>
      obtain ⟨v, h1, h2⟩ := abs_at A z (by intro w; cases w)
      exact ⟨v, h1, q _ v H p (.refl _ _) A.ok (.inr ⟨_, rfl, h2, rfl⟩)⟩
end
end DL

namespace DL
open PySem PySem.Spec PyProof.Rows L2 RK
/-! ### partial answers -/
def ob {α : Type} (o : Option α) (P : α → Prop) : Prop := match o with | some z => P z | none => False
theorem ob_some {α : Type} {z : α} {P : α → Prop} : ob (some z) P = P z := rfl
theorem ob_elim {α : Type} {o : Option α} {P : α → Prop} (h : ob o P) : ∃ z, o = some z ∧ P z := by
  cases o with
  | none => exact h.elim
  | some z => exact ⟨z, rfl, h⟩
/-! ### data as the library's data -/
mutual
def toPy : D → Option PyData
  | .non => some .none
  | .bl b => some (.bool b)
  | .int i => some (.int i)
  | .str x => some (.str x)
  | .lst xs => (toPyA xs).map .list
  | .tup xs => (toPyA xs).map .tuple
  | _ => none
def toPyA : List D → Option (List PyData)
  | [] => some []
  | d :: ds => (toPy d).bind fun p => (toPyA ds).map fun ps => p :: ps
end
section
variable {K : PySem.W.Frag} {N : Addr → Prop} {W : Wd} {H H' : Hp}
mutual
theorem Dd.py : ∀ {v : V} {d : D} {p : PyData}, Dd K N W H v d → toPy d = some p → Dp K H v p
  | _, _, _, .non, e => by cases Option.some.inj e; exact .non
  | _, _, _, .bl b, e => by cases Option.some.inj e; exact .bl b
  | _, _, _, .int i, e => by cases Option.some.inj e; exact .int i
  | _, _, _, .str x, e => by cases Option.some.inj e; exact .str x
  | _, _, _, .lst h _ a, e => by
    obtain ⟨ps, h1, h2⟩ := Option.map_eq_some_iff.mp e
    subst h2
    exact .lst (SqL.of h) (DdAll.py a h1)
  | _, _, _, .tup h _ a, e => by
    obtain ⟨ps, h1, h2⟩ := Option.map_eq_some_iff.mp e
    subst h2
    exact .tup (SqT.of h) (DdAll.py a h1)
  | _, _, _, .ktp .., e => by cases e
  | _, _, _, .dic .., e => by cases e
  | _, _, _, .dct .., e => by cases e
  | _, _, _, .obj .., e => by cases e
  | _, _, _, .bag .., e => by cases e
theorem DdAll.py : ∀ {vs : List V} {ds : List D} {ps : List PyData}, DdAll K N W H vs ds → toPyA ds = some ps → DpAll K H vs ps
  | _, _, _, .nil, e => by cases Option.some.inj e; exact .nil
  | _, _, _, .cons h a, e => by
    obtain ⟨p, h1, h2⟩ := Option.bind_eq_some_iff.mp e
    obtain ⟨ps, h3, h4⟩ := Option.map_eq_some_iff.mp h2
    subst h4
    exact .cons (Dd.py h h1) (DdAll.py a h3)
end
theorem dd_intE {v : V} {i : Int} (h : Dd K N W H v (.int i)) : v = .int i := by cases h; rfl
theorem dd_strE {v : V} {i : Str} (h : Dd K N W H v (.str i)) : v = .str i := by cases h; rfl
theorem dd_blE {v : V} {i : Bool} (h : Dd K N W H v (.bl i)) : v = .bl i := by cases h; rfl
theorem dd_nonE {v : V} (h : Dd K N W H v .non) : v = .non := by cases h; rfl
theorem dd_lstE {v : V} {ds : List D} (h : Dd K N W H v (.lst ds)) : ∃ a vs, v = .ref a ∧ H a = some (.lst vs) ∧ ¬ N a ∧ DdAll K N W H vs ds := by cases h with | lst h1 h2 h3 => exact ⟨_, _, rfl, h1, h2, h3⟩
theorem dd_tupE {v : V} {ds : List D} (h : Dd K N W H v (.tup ds)) : ∃ a vs, v = .ref a ∧ H a = some (.tup vs) ∧ ¬ N a ∧ DdAll K N W H vs ds := by cases h with | tup h1 h2 h3 => exact ⟨_, _, rfl, h1, h2, h3⟩
end
section
variable {F : Fx} {env : De} {σ : L2.St} {L : List Addr} {H H' : Hp}
theorem bw_leaf {v : V} {x : D} (h : Bw F L H v x) (l : x.leaf = true) : Dd F.K (F.N L) F.W H v x := by
  rcases h with h | ⟨e, h1, h2, rfl⟩
  · exact h
  · cases e with
    | no => cases h1
    | fz _ => cases h1
    | ow _ => cases l
    | od _ => cases l
    | ot _ => cases l
theorem bw_int {v : V} {i : Int} (h : Bw F L H v (.int i)) : v = .int i := dd_intE (bw_leaf h rfl)
theorem bw_str {v : V} {i : Str} (h : Bw F L H v (.str i)) : v = .str i := dd_strE (bw_leaf h rfl)
theorem bw_bl {v : V} {i : Bool} (h : Bw F L H v (.bl i)) : v = .bl i := dd_blE (bw_leaf h rfl)
theorem bw_non {v : V} (h : Bw F L H v .non) : v = .non := dd_nonE (bw_leaf h rfl)
theorem bw_lst {v : V} {ds : List D} (h : Bw F L H v (.lst ds)) : ∃ a vs, v = .ref a ∧ H a = some (.lst vs) ∧ DdAll F.K (F.N L) F.W H vs ds := by
  rcases h with h | ⟨e, h1, h2, h3⟩
  · obtain ⟨a, vs, h1, h2, _, h3⟩ := dd_lstE h
    exact ⟨a, vs, h1, h2, h3⟩
  · cases e with
    | ow es =>
      cases h3
      cases v with
      | ref a => exact ⟨a, h2.2.choose, rfl, h2.2.choose_spec⟩
      | _ => exact h2.elim
    | no => cases h1
    | fz _ => cases h1
    | od _ => cases h3
    | ot _ => cases h3
theorem bw_tup {v : V} {ds : List D} (h : Bw F L H v (.tup ds)) : ∃ a vs, v = .ref a ∧ H a = some (.tup vs) ∧ DdAll F.K (F.N L) F.W H vs ds := by
  rcases h with h | ⟨e, h1, h2, h3⟩
  · obtain ⟨a, vs, h1, h2, _, h3⟩ := dd_tupE h
    exact ⟨a, vs, h1, h2, h3⟩
  · cases e with
    | no => cases h1
    | fz _ => cases h1
    | ow _ => cases h3
    | od _ => cases h3
    | ot _ => cases h3
theorem bw_dic {v : V} {ds : List (Key × D)} (h : Bw F L H v (.dic ds)) : ∃ a kvs, v = .ref a ∧ Rd H a (.dK kvs) ∧ kvs.map (·.1) = ds.map (·.1) ∧ DdAll F.K (F.N L) F.W H (kvs.map (·.2)) (ds.map (·.2)) := by
  rcases h with h | ⟨e, h1, h2, h3⟩
  · cases h with | dic g1 g2 g3 g4 => exact ⟨_, _, rfl, g1, g3, g4⟩
  · cases e with
    | od es =>
      cases h3
      cases v with
      | ref a =>
        obtain ⟨_, kvs, g1, g2, g3⟩ := h2
        exact ⟨a, kvs, rfl, .inl g1, g2, g3⟩
      | _ => exact h2.elim
    | no => cases h1
    | fz _ => cases h1
    | ow _ => cases h3
    | ot _ => cases h3
theorem bw_dct {v : V} {ds : List (List Key × D)} (h : Bw F L H v (.dct ds)) : ∃ a kvs, v = .ref a ∧ Rd H a (.dT kvs) ∧ kvs.map (·.1) = ds.map (·.1) ∧ DdAll F.K (F.N L) F.W H (kvs.map (·.2)) (ds.map (·.2)) := by
  rcases h with h | ⟨e, h1, h2, h3⟩
  · cases h with | dct g1 g2 g3 g4 => exact ⟨_, _, rfl, g1, g3, g4⟩
  · cases e with
    | ot es =>
      cases h3
      cases v with
      | ref a =>
        obtain ⟨_, kvs, g1, g2, g3⟩ := h2
        exact ⟨a, kvs, rfl, .inl g1, g2, g3⟩
      | _ => exact h2.elim
    | no => cases h1
    | fz _ => cases h1
    | ow _ => cases h3
    | od _ => cases h3
theorem bw_py {v : V} {d : D} {p : PyData} (h : Bw F L H v d) (e : toPy d = some p) : Dp F.K H v p := by
  rcases h with h | ⟨en, h1, h2, h3⟩
  · exact h.py e
  · cases en with
    | ow es =>
      have hh : Bw F L H v (.lst es) := .inr ⟨.ow es, rfl, h2, rfl⟩
      obtain ⟨a, vs, rfl, g2, g3⟩ := bw_lst hh
      subst h3
      obtain ⟨ps, h1, h2⟩ := Option.map_eq_some_iff.mp e
      subst h2
      exact .lst (SqL.of g2) (g3.py h1)
    | no => cases h1
    | fz _ => cases h1
    | od _ => subst h3; cases e
    | ot _ => subst h3; cases e
theorem Bw.step (A : Abs F env σ L H) (k : KeepW F.W H H') {v : V} {x : D} (h : Bw F L H v x) : Bw F L H' v x := by
  rcases h with h | ⟨e, h1, h2, h3⟩
  · exact .inl (A.kd k h)
  · have w : ∀ a ∈ L, ¬ F.W.own a := fun a h z => A.out h (A.wn a z)
    exact .inr ⟨e, h1, EnOk.keep A (k.n A) (fun _ z => z) (fun a _ _ h => ⟨h, fun o q => k a o (w a h) q⟩) h2, h3⟩
theorem new_pres (A : Abs F env σ L H) {p : Addr} {o : HO} (hp : H p = none) {vs : List V} {ds : List D} (h : DdAll F.K (F.N L) F.W H vs ds) : DdAll F.K (F.N (p :: L)) F.W (upd H p o) vs ds := h.pres fun a u n g => by
  have ne : a ≠ p := ne_of_none g hp
  refine ⟨fun z => ?_, by rw [upd_ne ne]; exact g⟩
  rcases z with z | z
  · exact n (.inl z)
  · rcases List.mem_cons.mp z with z | z
    · exact ne z
    · exact n (.inr z)
theorem new_lstN (A : Abs F env σ L H) {p : Addr} (hp : H p = none) {vs : List V} {ds : List D} (h : DdAll F.K (F.N L) F.W H vs ds) : NewV F L (upd H p (.lst vs)) p (.lst ds) := ⟨vs, upd_same, new_pres A hp h⟩
theorem new_tupN (A : Abs F env σ L H) {p : Addr} (hp : H p = none) {vs : List V} {ds : List D} (h : DdAll F.K (F.N L) F.W H vs ds) : NewV F L (upd H p (.tup vs)) p (.tup ds) := ⟨vs, upd_same, new_pres A hp h⟩
theorem new_lst (A : Abs F env σ L H) {p : Addr} (hp : H p = none) {vs : List V} {ds : List D} (h : DdAll F.K (F.N L) F.W H vs ds) : Dd F.K (F.N L) F.W (upd H p (.lst vs)) (.ref p) (.lst ds) := .lst upd_same (A.new hp) (A.kda (KeepW.new hp) h)
theorem new_tup (A : Abs F env σ L H) {p : Addr} (hp : H p = none) {vs : List V} {ds : List D} (h : DdAll F.K (F.N L) F.W H vs ds) : Dd F.K (F.N L) F.W (upd H p (.tup vs)) (.ref p) (.tup ds) := .tup upd_same (A.new hp) (A.kda (KeepW.new hp) h)
end
/-! ### operators -/
abbrev B2 := D → D → Option D
/-- a value-level rule that keeps to f: a clean answer -/
def Op2 (F : Fx) (r : R2) (f : B2) : Prop := ∀ {env : De} {σ : L2.St} {L : List Addr} {H : Hp} {x y : V} {dx dy z : D}, Abs F env σ L H → Bw F L H x dx → Bw F L H y dy → f dx dy = some z →
  ∀ Q : VK, (∀ v H', KeepW F.W H H' → F.W.ok H' → Dd F.K (F.N L) F.W H' v z → Q v H') → r x y H Q
/-- .. a new answer -/
def Op2N (F : Fx) (r : R2) (f : B2) : Prop := ∀ {env : De} {σ : L2.St} {L : List Addr} {H : Hp} {x y : V} {dx dy z : D}, Abs F env σ L H → Bw F L H x dx → Bw F L H y dy → f dx dy = some z →
  ∀ Q : VK, (∀ a H', KeepW F.W H H' → F.W.ok H' → H a = none → NewV F L H' a z → Q (.ref a) H') → r x y H Q
def dO2 (f : B2) (da db : TDE) : TDE := fun env P => da env fun x => db env fun y => ob (f x y) P
section
variable {X : Cx} {F : Fx} {e a b c : Expr} {d da db dc : TDE} {pos : Pos} {f g : B2} {r r' : R2}
theorem lop2 (h : Op2 F r f) : ∀ σ H Q, lC F (dO2 f da db) σ H Q → tOp r (lB F da) (lB F db) σ H Q := fun σ H Q ⟨env, L, P, A, p, q⟩ =>
  ⟨env, L, _, A, p, fun x v H1 px k1 o1 b1 => ⟨env, L, _, A.step k1 o1, px, fun y u H2 py k2 o2 b2 => by
    obtain ⟨z, e, pz⟩ := ob_elim py
    exact h ((A.step k1 o1).step k2 o2) (b1.step (A.step k1 o1) k2) b2 e Q fun w H3 k3 o3 d3 => q z w H3 pz ((k1.trans k2).trans k3) o3 d3⟩⟩
theorem lop2N (h : Op2N F r f) : ∀ σ H Q, lN F (dO2 f da db) σ H Q → tOp r (lB F da) (lB F db) σ H Q := fun σ H Q ⟨env, L, P, A, p, q⟩ =>
  ⟨env, L, _, A, p, fun x v H1 px k1 o1 b1 => ⟨env, L, _, A.step k1 o1, px, fun y u H2 py k2 o2 b2 => by
    obtain ⟨z, e, pz⟩ := ob_elim py
    refine h ((A.step k1 o1).step k2 o2) (b1.step (A.step k1 o1) k2) b2 e Q fun w H3 k3 o3 hw d3 => q z w H3 pz ((k1.trans k2).trans k3) o3 ?_ d3
    cases zz : H w with
    | none => rfl
    | some o =>
      by_cases ow : F.W.own w
      · obtain ⟨o2', e2⟩ := Wd.al o2 ow
        rw [hw] at e2
        cases e2
      · rw [(k1.trans k2) w o ow zz] at hw
        cases hw⟩⟩
theorem dd_op {op : Operator} (h : Op2 F r f) (ho : OpR X (binaryOp op) r) (ha : PE X a (lB F da)) (hb : PE X b (lB F db)) : PE X (.BinOp a op b pos) (lC F (dO2 f da db)) := PE.mono (pe_op ho ha hb) (lop2 h)
theorem dn_op {op : Operator} (h : Op2N F r f) (ho : OpR X (binaryOp op) r) (ha : PE X a (lB F da)) (hb : PE X b (lB F db)) : PE X (.BinOp a op b pos) (lN F (dO2 f da db)) := PE.mono (pe_op ho ha hb) (lop2N h)
theorem dd_cmp {op : CmpOp} (h : Op2 F r f) (ho : OpR X (compareOp op) r) (ha : PE X a (lB F da)) (hb : PE X b (lB F db)) (hm : behindInMarks op b = false) : PE X (.Compare a [op] [b] pos) (lC F (dO2 f da db)) := PE.mono (pe_cmpR ho ha hb hm) (lop2 h)
/-- a clean expression whose answer is a bool, as a test -/
def dT (d : TDE) : TDT := fun env P => d env fun x => match x with | .bl b => P b | _ => False
theorem l_test : ∀ σ H Q, lT F (dT d) σ H Q → tTest (lC F d) σ H Q := fun σ H Q ⟨env, L, P, A, p, q⟩ =>
  ⟨env, L, _, A, p, fun x v H1 px k1 o1 d1 => by
    cases x with
    | bl b => cases d1; exact ⟨b, rfl, q b H1 px k1 o1⟩
    | _ => exact px.elim⟩
theorem dt_val (h : PE X e (lC F d)) (he : ∀ whole, isTrue e X.env whole = (do let v ← whole; standAt e.pos; holding [v] (truthy v)) := by intro _; rfl) : PT X e (lT F (dT d)) := PT.mono (pt_val h he) fun σ H Q q => l_test σ H Q q
theorem PT.cmp_of {op : CmpOp} {t : TE} (h : PE X (.Compare a [op] [b] pos) t) (hp : ∀ whole, isTrue (.Compare a [op] [b] pos) X.env whole = isTrue (.Compare a [op] [b] pos) X.env whole) : True := trivial
theorem dt_cmp {op : CmpOp} (h : Op2 F r f) (ho : OpR X (compareOp op) r) (ha : PE X a (lB F da)) (hb : PE X b (lB F db)) (hm : behindInMarks op b = false) : PT X (.Compare a [op] [b] pos) (lT F (dT (dO2 f da db))) :=
  PT.mono (pt_cmpR ho ha hb hm) fun σ H Q ⟨env, L, P, A, p, q⟩ => lop2 h σ H _ ⟨env, L, _, A, p, fun x v H1 px k1 o1 d1 => by
    cases x with
    | bl b => cases d1; exact ⟨b, rfl, q b H1 px k1 o1⟩
    | _ => exact px.elim⟩
/-! and, or, not, the conditional expression -/
def dAndT (t u : TDT) : TDT := fun env P => t env fun x => if x = true then u env P else P false
def dOrT (t u : TDT) : TDT := fun env P => t env fun x => if x = true then P true else u env P
def dNotT (t : TDT) : TDT := fun env P => t env fun x => P (!x)
variable {tA tB : TDT} {rest : List Expr}
theorem wt_and1 (ha : PT X a (lT F tA)) : PW X (.BoolOp .And [a] pos) (lT F tA) := pw_and1 ha
theorem wt_or1 (ha : PT X a (lT F tA)) : PW X (.BoolOp .Or [a] pos) (lT F tA) := pw_or1 ha
theorem wt_and (ha : PT X a (lT F tA)) (hb : PW X (.BoolOp .And (b :: rest) pos) (lT F tB)) : PW X (.BoolOp .And (a :: b :: rest) pos) (lT F (dAndT tA tB)) :=
  PW.mono (pw_and ha hb) fun σ H Q ⟨env, L, P, A, p, q⟩ => ⟨env, L, _, A, p, fun x H1 px k1 o1 => by
    cases x with
    | true => exact iteT ⟨env, L, _, A.step k1 o1, px, fun y H2 py k2 o2 => q y H2 py (k1.trans k2) o2⟩
    | false => exact iteF (q false H1 px k1 o1)⟩
theorem wt_or (ha : PT X a (lT F tA)) (hb : PW X (.BoolOp .Or (b :: rest) pos) (lT F tB)) : PW X (.BoolOp .Or (a :: b :: rest) pos) (lT F (dOrT tA tB)) :=
  PW.mono (pw_or ha hb) fun σ H Q ⟨env, L, P, A, p, q⟩ => ⟨env, L, _, A, p, fun x H1 px k1 o1 => by
    cases x with
    | false => exact iteF ⟨env, L, _, A.step k1 o1, px, fun y H2 py k2 o2 => q y H2 py (k1.trans k2) o2⟩
    | true => exact iteT (q true H1 px k1 o1)⟩
theorem dt_not (ha : PT X a (lT F tA)) : PT X (.UnaryOp .Not a pos) (lT F (dNotT tA)) :=
  PT.mono (pt_not ha) fun σ H Q ⟨env, L, P, A, p, q⟩ => ⟨env, L, _, A, p, fun x H1 px k1 o1 => q (!x) H1 px k1 o1⟩
def dIf (t : TDT) (da db : TDE) : TDE := fun env P => t env fun x => if x = true then da env P else db env P
theorem dd_if (hc : PT X c (lT F tA)) (ha : PE X a (lC F da)) (hb : PE X b (lC F db)) : PE X (.IfExp c a b pos) (lC F (dIf tA da db)) :=
  PE.mono (pe_ifExp hc ha hb) fun σ H Q ⟨env, L, P, A, p, q⟩ => ⟨env, L, _, A, p, fun x H1 px k1 o1 => by
    cases x with
    | false => exact iteF ⟨env, L, _, A.step k1 o1, px, fun y v H2 py k2 o2 d2 => q y v H2 py (k1.trans k2) o2 d2⟩
    | true => exact iteT ⟨env, L, _, A.step k1 o1, px, fun y v H2 py k2 o2 d2 => q y v H2 py (k1.trans k2) o2 d2⟩⟩
def dAndV (da db : TDE) : TDE := fun env P => da env fun x => match x with | .bl b => if b = true then db env P else P (.bl false) | _ => False
def dOrV (da db : TDE) : TDE := fun env P => da env fun x => match x with | .bl b => if b = true then P (.bl true) else db env P | _ => False
def dNotV (da : TDE) : TDE := fun env P => da env fun x => match x with | .bl b => P (.bl (!b)) | _ => False
theorem dd_one {op} (ha : PE X a (lC F da)) : PE X (.BoolOp op [a] pos) (lC F da) := pe_one ha
theorem dd_and (ha : PE X a (lC F da)) (hb : PE X (.BoolOp .And (b :: rest) pos) (lC F db)) : PE X (.BoolOp .And (a :: b :: rest) pos) (lC F (dAndV da db)) :=
  PE.mono (pe_and ha hb) fun σ H Q ⟨env, L, P, A, p, q⟩ => ⟨env, L, _, A, p, fun x v H1 px k1 o1 d1 => by
    cases x with
    | bl b =>
      cases d1
      refine ⟨b, rfl, ?_⟩
      cases b with
      | true => exact iteT ⟨env, L, _, A.step k1 o1, px, fun y v H2 py k2 o2 d2 => q y v H2 py (k1.trans k2) o2 d2⟩
      | false => exact iteF (q _ _ H1 px k1 o1 (.bl false))
    | _ => exact px.elim⟩
theorem dd_or (ha : PE X a (lC F da)) (hb : PE X (.BoolOp .Or (b :: rest) pos) (lC F db)) : PE X (.BoolOp .Or (a :: b :: rest) pos) (lC F (dOrV da db)) :=
  PE.mono (pe_or ha hb) fun σ H Q ⟨env, L, P, A, p, q⟩ => ⟨env, L, _, A, p, fun x v H1 px k1 o1 d1 => by
    cases x with
    | bl b =>
      cases d1
      refine ⟨b, rfl, ?_⟩
      cases b with
      | false => exact iteF ⟨env, L, _, A.step k1 o1, px, fun y v H2 py k2 o2 d2 => q y v H2 py (k1.trans k2) o2 d2⟩
      | true => exact iteT (q _ _ H1 px k1 o1 (.bl true))
    | _ => exact px.elim⟩
theorem dd_not (ha : PE X a (lC F da)) : PE X (.UnaryOp .Not a pos) (lC F (dNotV da)) :=
  PE.mono (pe_not ha) fun σ H Q ⟨env, L, P, A, p, q⟩ => ⟨env, L, _, A, p, fun x v H1 px k1 o1 d1 => by
    cases x with
    | bl b => cases d1; exact ⟨b, rfl, q _ _ H1 px k1 o1 (.bl _)⟩
    | _ => exact px.elim⟩
end
end DL

namespace DL
open PySem PySem.Spec PyProof.Rows L2 RK
theorem guard_elim {α : Type} {c : Prop} [Decidable c] {x z : α} (h : (if c then some x else none) = some z) : c ∧ x = z := by
  by_cases hc : c
  · rw [if_pos hc] at h
    exact ⟨hc, Option.some.inj h⟩
  · rw [if_neg hc] at h
    cases h
/-! ### the operators, by what they do to data -/
section
variable {X : Cx} {F : Fx} {e a b c : Expr} {d da db dc : TDE} {pos : Pos}
theorem Op2.or {r r' : R2} {f g : B2} (h : Op2 F r f) (h' : Op2 F r' g) : Op2 F (fun x y H Q => r x y H Q ∨ r' x y H Q) (fun x y => (f x y).or (g x y)) := fun A bx byy e Q q => by
  rename_i dx dy z
  replace e : (f dx dy).or (g dx dy) = some z := e
  cases hf : f dx dy with
  | some z' =>
    rw [hf] at e
    exact .inl (h A bx byy (hf.trans e) Q q)
  | none =>
    rw [hf] at e
    exact .inr (h' A bx byy e Q q)
/-- two ints -/
def iI (C : Int → Int → Bool) (g : Int → Int → D) : B2
  | .int i, .int j => if C i j = true then some (g i j) else none
  | _, _ => none
theorem iI_ok {C : Int → Int → Bool} {C' : Int → Int → Prop} {g : Int → Int → D} {gV : Int → Int → V} (hC : ∀ i j, C i j = true → C' i j) (hg : ∀ i j K N W H, Dd K N W H (gV i j) (g i j)) : Op2 F (rI C' gV) (iI C g) := fun A bx byy e Q q => by
  rename_i dx dy z
  cases dx <;> try cases e
  cases dy <;> try cases e
  rename_i i j
  have hx := bw_int bx
  have hy := bw_int byy
  subst hx hy
  obtain ⟨hc, rfl⟩ := guard_elim e
  exact ⟨i, j, rfl, rfl, hC i j hc, q _ _ (.refl _ _) A.ok (hg i j _ _ _ _)⟩
def iI0 (g : Int → Int → D) : B2
  | .int i, .int j => some (g i j)
  | _, _ => none
theorem iI0_ok {g : Int → Int → D} {gV : Int → Int → V} (hg : ∀ i j K N W H, Dd K N W H (gV i j) (g i j)) : Op2 F (rI0 gV) (iI0 g) := fun A bx byy e Q q => by
  rename_i dx dy z
  cases dx <;> try cases e
  cases dy <;> try cases e
  rename_i i j
  have hx := bw_int bx
  have hy := bw_int byy
  subst hx hy
  exact ⟨i, j, rfl, rfl, q _ _ (.refl _ _) A.ok (hg i j _ _ _ _)⟩
def bCat : B2
  | .lst xs, .lst ys => if xs.length + ys.length ≤ sizeLine then some (.lst (xs ++ ys)) else none
  | _, _ => none
theorem cat_okN : Op2N F rCat bCat := fun A bx byy e Q q => by
  rename_i dx dy z
  cases dx <;> try cases e
  cases dy <;> try cases e
  rename_i xs ys
  obtain ⟨l, vs, rfl, h1, h2⟩ := bw_lst bx
  obtain ⟨m, us, rfl, h3, h4⟩ := bw_lst byy
  obtain ⟨hc, rfl⟩ := guard_elim e
  exact ⟨l, m, vs, us, rfl, rfl, h1, h3, by rw [h2.len, h4.len]; exact hc, fun p hp => q p _ (.new hp) (ok_new A.ok hp) hp (new_lstN A hp (h2.app h4))⟩
theorem op2n_c {r : R2} {f : B2} (h : Op2N F r f) : Op2 F r f := fun A bx byy e Q q => h A bx byy e Q fun a H' k o n d => q _ _ k o (d.dd (A.new n))
def bCatS : B2
  | .str x, .str y => if x.length + y.length ≤ sizeLine then some (.str (x ++ y)) else none
  | _, _ => none
theorem catS_ok : Op2 F (fun x y H Q => ∃ i j, x = .str i ∧ y = .str j ∧ i.length + j.length ≤ sizeLine ∧ Q (.str (i ++ j)) H) bCatS := fun A bx byy e Q q => by
  rename_i dx dy z
  cases dx <;> try cases e
  cases dy <;> try cases e
  rename_i xs ys
  have hx := bw_str bx
  have hy := bw_str byy
  subst hx hy
  obtain ⟨hc, rfl⟩ := guard_elim e
  exact ⟨xs, ys, rfl, rfl, hc, q _ _ (.refl _ _) A.ok (.str _)⟩
def bRep : B2
  | .lst xs, .int k => if -(2 ^ 63) ≤ k ∧ k < 2 ^ 63 ∧ xs.length * k.toNat ≤ sizeLine then some (.lst (List.replicate k.toNat xs).flatten) else none
  | _, _ => none
theorem DdAll.rep {K : PySem.W.Frag} {N : Addr → Prop} {W : Wd} {H : Hp} {vs : List V} {ds : List D} (h : DdAll K N W H vs ds) : ∀ n : Nat, DdAll K N W H (List.replicate n vs).flatten (List.replicate n ds).flatten
  | 0 => .nil
  | n + 1 => by
    rw [List.replicate_succ, List.replicate_succ, List.flatten_cons, List.flatten_cons]
    exact h.app (DdAll.rep h n)
def bAdd : B2 := fun x y => (iI0 (fun i j => .int (i + j)) x y).or ((bCatS x y).or (bCat x y))
theorem dd_add (ha : PE X a (lB F da)) (hb : PE X b (lB F db)) : PE X (.BinOp a .Add b pos) (lC F (dO2 bAdd da db)) :=
  dd_op (Op2.or (iI0_ok fun i j _ _ _ _ => .int _) (Op2.or catS_ok (op2n_c cat_okN))) (op_add.or (op_add_str.or op_cat)) ha hb
theorem dn_add (ha : PE X a (lB F da)) (hb : PE X b (lB F db)) : PE X (.BinOp a .Add b pos) (lN F (dO2 bCat da db)) := dn_op cat_okN op_cat ha hb
def bSub : B2 := iI0 fun i j => .int (i - j)
theorem dd_sub (ha : PE X a (lB F da)) (hb : PE X b (lB F db)) : PE X (.BinOp a .Sub b pos) (lC F (dO2 bSub da db)) := dd_op (iI0_ok fun i j _ _ _ _ => .int _) op_sub ha hb
def bMod : B2 := iI (fun _ j => decide (0 < j)) fun i j => .int (i % j)
theorem dd_mod (ha : PE X a (lB F da)) (hb : PE X b (lB F db)) : PE X (.BinOp a .Mod b pos) (lC F (dO2 bMod da db)) := dd_op (iI_ok (fun i j h => of_decide_eq_true h) fun i j _ _ _ _ => .int _) op_mod ha hb
def bDiv : B2 := iI (fun _ j => decide (0 < j ∧ j < 1073741824)) fun i j => .int (i / j)
theorem dd_div (ha : PE X a (lB F da)) (hb : PE X b (lB F db)) : PE X (.BinOp a .FloorDiv b pos) (lC F (dO2 bDiv da db)) := dd_op (iI_ok (C' := CDiv) (fun i j h => by have h' := of_decide_eq_true h; exact h') fun i j _ _ _ _ => .int _) op_fdiv ha hb
def bPow : B2 := iI (fun i j => decide (0 ≤ j ∧ j ≤ 1000000 ∧ i.natAbs < 2 ^ 64)) fun i j => .int (i ^ j.toNat)
theorem dd_pow (ha : PE X a (lB F da)) (hb : PE X b (lB F db)) : PE X (.BinOp a .Pow b pos) (lC F (dO2 bPow da db)) := dd_op (iI_ok (C' := CPow) (fun i j h => by have h' := of_decide_eq_true h; exact h') fun i j _ _ _ _ => .int _) op_pow ha hb
def bMulI : B2 := iI (fun i j => decide ((-(2 ^ 64) < i ∧ i < 2 ^ 64) ∨ (-(2 ^ 64) < j ∧ j < 2 ^ 64))) fun i j => .int (i * j)
theorem rep_okN : Op2N F rRep bRep := fun A bx byy e Q q => by
  rename_i dx dy z
  cases dx <;> try cases e
  cases dy <;> try cases e
  rename_i xs k
  obtain ⟨l, vs, rfl, h1, h2⟩ := bw_lst bx
  have hy := bw_int byy
  subst hy
  obtain ⟨hc, rfl⟩ := guard_elim e
  exact ⟨l, k, vs, rfl, rfl, h1, hc.1, hc.2.1, by rw [h2.len]; exact hc.2.2, fun p hp => q p _ (.new hp) (ok_new A.ok hp) hp (new_lstN A hp (h2.rep _))⟩
def bRepS : B2
  | .str x, .int n => match x.cps.toList with | [c] => if 1 ≤ n ∧ n ≤ 1000 then some (.str (PySem.Txt.mul ⟨#[c]⟩ n)) else none | _ => none
  | _, _ => none
theorem repS_ok : Op2 F (fun x y H Q => ∃ (c : Nat) (n : Int), x = .str ⟨#[c]⟩ ∧ y = .int n ∧ 1 ≤ n ∧ n ≤ 1000 ∧ Q (.str (PySem.Txt.mul ⟨#[c]⟩ n)) H) bRepS := fun A bx byy e Q q => by
  rename_i dx dy z
  cases dx <;> try cases e
  cases dy <;> try cases e
  rename_i x n
  have hx := bw_str bx
  have hy := bw_int byy
  subst hx hy
  obtain ⟨⟨l⟩⟩ := x
  match l, e with
  | [c], e =>
    obtain ⟨hc, rfl⟩ := guard_elim e
    exact ⟨c, n, rfl, rfl, hc.1, hc.2, q _ _ (.refl _ _) A.ok (.str _)⟩
  | [], e => cases e
  | _ :: _ :: _, e => cases e
def bMul : B2 := fun x y => (bMulI x y).or ((bRep x y).or (bRepS x y))
theorem dd_mul (ha : PE X a (lB F da)) (hb : PE X b (lB F db)) : PE X (.BinOp a .Mult b pos) (lC F (dO2 bMul da db)) :=
  dd_op (Op2.or (iI_ok (C' := CMul) (fun i j h => by have h' := of_decide_eq_true h; exact h') fun i j _ _ _ _ => .int _) (Op2.or (op2n_c rep_okN) repS_ok)) (op_mul.or (op_rep.or op_mul_str)) ha hb
/-! comparisons -/
def bLtS : B2
  | .str x, .str y => some (.bl (decide (x.cps.toList < y.cps.toList)))
  | _, _ => none
theorem ltS_ok : Op2 F (fun x y H Q => ∃ i j, x = .str i ∧ y = .str j ∧ Q (.bl (decide (i.cps.toList < j.cps.toList))) H) bLtS := fun A bx byy e Q q => by
  rename_i dx dy z
  cases dx <;> try cases e
  cases dy <;> try cases e
  have hx := bw_str bx
  have hy := bw_str byy
  subst hx hy
  exact ⟨_, _, rfl, rfl, q _ _ (.refl _ _) A.ok (.bl _)⟩
def bLt : B2 := fun x y => (iI0 (fun i j => .bl (decide (i < j))) x y).or (bLtS x y)
theorem dd_lt (ha : PE X a (lB F da)) (hb : PE X b (lB F db)) : PE X (.Compare a [.Lt] [b] pos) (lC F (dO2 bLt da db)) := dd_cmp (Op2.or (iI0_ok fun i j _ _ _ _ => .bl _) ltS_ok) (op_lt.or op_lt_str) ha hb (nomark _)
theorem dt_lt (ha : PE X a (lB F da)) (hb : PE X b (lB F db)) : PT X (.Compare a [.Lt] [b] pos) (lT F (dT (dO2 bLt da db))) := dt_cmp (Op2.or (iI0_ok fun i j _ _ _ _ => .bl _) ltS_ok) (op_lt.or op_lt_str) ha hb (nomark _)
def bLe : B2 := iI0 fun i j => .bl (decide (i ≤ j))
theorem dd_le (ha : PE X a (lB F da)) (hb : PE X b (lB F db)) : PE X (.Compare a [.LtE] [b] pos) (lC F (dO2 bLe da db)) := dd_cmp (iI0_ok fun i j _ _ _ _ => .bl _) op_le ha hb (nomark _)
theorem dt_le (ha : PE X a (lB F da)) (hb : PE X b (lB F db)) : PT X (.Compare a [.LtE] [b] pos) (lT F (dT (dO2 bLe da db))) := dt_cmp (iI0_ok fun i j _ _ _ _ => .bl _) op_le ha hb (nomark _)
def bGt : B2 := iI0 fun i j => .bl (decide (j < i))
theorem dd_gt (ha : PE X a (lB F da)) (hb : PE X b (lB F db)) : PE X (.Compare a [.Gt] [b] pos) (lC F (dO2 bGt da db)) := dd_cmp (iI0_ok fun i j _ _ _ _ => .bl _) op_gt ha hb (nomark _)
theorem dt_gt (ha : PE X a (lB F da)) (hb : PE X b (lB F db)) : PT X (.Compare a [.Gt] [b] pos) (lT F (dT (dO2 bGt da db))) := dt_cmp (iI0_ok fun i j _ _ _ _ => .bl _) op_gt ha hb (nomark _)
def bGe : B2 := iI0 fun i j => .bl (decide (j ≤ i))
theorem dd_ge (ha : PE X a (lB F da)) (hb : PE X b (lB F db)) : PE X (.Compare a [.GtE] [b] pos) (lC F (dO2 bGe da db)) := dd_cmp (iI0_ok fun i j _ _ _ _ => .bl _) op_ge ha hb (nomark _)
theorem dt_ge (ha : PE X a (lB F da)) (hb : PE X b (lB F db)) : PT X (.Compare a [.GtE] [b] pos) (lT F (dT (dO2 bGe da db))) := dt_cmp (iI0_ok fun i j _ _ _ _ => .bl _) op_ge ha hb (nomark _)
/-- equality of two plain values of one kind -/
def eqS (neg : Bool) : B2
  | .int i, .int j => some (.bl (neg ^^ decide (i = j)))
  | .str i, .str j => some (.bl (neg ^^ decide (i = j)))
  | .bl i, .bl j => some (.bl (neg ^^ decide (i = j)))
  | _, _ => none
def eqP (neg : Bool) : B2 := fun x y => match toPy x, toPy y with
  | some p, some q => if SeqAt.shaped p = true ∧ SeqAt.shaped q = true then some (.bl (neg ^^ PyData.eqv p q)) else none
  | _, _ => none
def bEqN (neg : Bool) : B2 := fun x y => (eqS neg x y).or (eqP neg x y)
theorem eqS_ok : Op2 F rEq (eqS false) := fun A bx byy e Q q => by
  rename_i dx dy z
  cases dx <;> try cases e
  all_goals cases dy <;> try cases e
  · have hx := bw_bl bx
    have hy := bw_bl byy
    subst hx hy
    exact ⟨rfl, by simpa using q (.bl _) _ (.refl _ _) A.ok (.bl _)⟩
  · have hx := bw_int bx
    have hy := bw_int byy
    subst hx hy
    exact ⟨rfl, by simpa using q (.bl _) _ (.refl _ _) A.ok (.bl _)⟩
  · have hx := bw_str bx
    have hy := bw_str byy
    subst hx hy
    exact ⟨rfl, by simpa using q (.bl _) _ (.refl _ _) A.ok (.bl _)⟩
theorem neS_ok : Op2 F rNe (eqS true) := fun A bx byy e Q q => by
  rename_i dx dy z
  cases dx <;> try cases e
  all_goals cases dy <;> try cases e
  · have hx := bw_bl bx
    have hy := bw_bl byy
    subst hx hy
    exact ⟨rfl, by simpa using q (.bl _) _ (.refl _ _) A.ok (.bl _)⟩
  · have hx := bw_int bx
    have hy := bw_int byy
    subst hx hy
    exact ⟨rfl, by simpa using q (.bl _) _ (.refl _ _) A.ok (.bl _)⟩
  · have hx := bw_str bx
    have hy := bw_str byy
    subst hx hy
    exact ⟨rfl, by simpa using q (.bl _) _ (.refl _ _) A.ok (.bl _)⟩
theorem eqP_elim {neg : Bool} {dx dy z : D} (e : eqP neg dx dy = some z) : ∃ p q, toPy dx = some p ∧ toPy dy = some q ∧ SeqAt.shaped p = true ∧ SeqAt.shaped q = true ∧ z = .bl (neg ^^ PyData.eqv p q) := by
  unfold eqP at e
  cases h1 : toPy dx with
  | none => rw [h1] at e; cases e
  | some p =>
    cases h2 : toPy dy with
    | none => rw [h1, h2] at e; cases e
    | some q =>
      rw [h1, h2] at e
      by_cases hc : SeqAt.shaped p = true ∧ SeqAt.shaped q = true
      · simp only [if_pos hc] at e
        cases e
        exact ⟨p, q, rfl, rfl, hc.1, hc.2, rfl⟩
      · simp only [if_neg hc] at e
        cases e
theorem eqP_ok : Op2 F (rEqD F.K) (eqP false) := fun A bx byy e Q q => by
  obtain ⟨p1, p2, h1, h2, s1, s2, rfl⟩ := eqP_elim e
  exact ⟨p1, p2, bw_py bx h1, bw_py byy h2, s1, s2, q _ _ (.refl _ _) A.ok (by rw [Bool.false_xor]; exact .bl _)⟩
theorem neP_ok : Op2 F (rNeD F.K) (eqP true) := fun A bx byy e Q q => by
  obtain ⟨p1, p2, h1, h2, s1, s2, rfl⟩ := eqP_elim e
  exact ⟨p1, p2, bw_py bx h1, bw_py byy h2, s1, s2, q _ _ (.refl _ _) A.ok (by rw [Bool.true_xor]; exact .bl _)⟩
variable {k : Nat}
theorem eqR (hr : Room k X.A) (hK : F.K = X.K) : OpR X (compareOp .Eq) (fun x y H Q => rEq x y H Q ∨ rEqD F.K x y H Q) := by
  rw [hK]
  exact op_eq.or (op_eqD hr.units)
theorem neR (hr : Room k X.A) (hK : F.K = X.K) : OpR X (compareOp .NotEq) (fun x y H Q => rNe x y H Q ∨ rNeD F.K x y H Q) := by
  rw [hK]
  exact op_ne.or (op_neD hr.units)
theorem dd_eq (hr : Room k X.A) (ha : PE X a (lB F da)) (hb : PE X b (lB F db)) (hK : F.K = X.K := by rfl) : PE X (.Compare a [.Eq] [b] pos) (lC F (dO2 (bEqN false) da db)) := dd_cmp (Op2.or eqS_ok eqP_ok) (eqR hr hK) ha hb (nomark _)
theorem dt_eq (hr : Room k X.A) (ha : PE X a (lB F da)) (hb : PE X b (lB F db)) (hK : F.K = X.K := by rfl) : PT X (.Compare a [.Eq] [b] pos) (lT F (dT (dO2 (bEqN false) da db))) := dt_cmp (Op2.or eqS_ok eqP_ok) (eqR hr hK) ha hb (nomark _)
theorem dd_ne (hr : Room k X.A) (ha : PE X a (lB F da)) (hb : PE X b (lB F db)) (hK : F.K = X.K := by rfl) : PE X (.Compare a [.NotEq] [b] pos) (lC F (dO2 (bEqN true) da db)) := dd_cmp (Op2.or neS_ok neP_ok) (neR hr hK) ha hb (nomark _)
theorem dt_ne (hr : Room k X.A) (ha : PE X a (lB F da)) (hb : PE X b (lB F db)) (hK : F.K = X.K := by rfl) : PT X (.Compare a [.NotEq] [b] pos) (lT F (dT (dO2 (bEqN true) da db))) := dt_cmp (Op2.or neS_ok neP_ok) (neR hr hK) ha hb (nomark _)
/-- is None -/
def D.isN : D → Bool
  | .non => true | _ => false
def bIsN (neg : Bool) : B2
  | x, .non => some (.bl (neg ^^ x.isN))
  | _, _ => none
theorem isN_iff {L : List Addr} {H : Hp} {v : V} {x : D} (h : Bw F L H v x) : decide (v = .non) = x.isN := by
  cases x with
  | non => rw [bw_non h]; rfl
  | bl _ => rw [bw_bl h]; rfl
  | int _ => rw [bw_int h]; rfl
  | str _ => rw [bw_str h]; rfl
  | lst _ => obtain ⟨a, vs, rfl, _⟩ := bw_lst h; rfl
  | tup _ => obtain ⟨a, vs, rfl, _⟩ := bw_tup h; rfl
  | dic _ => obtain ⟨a, vs, rfl, _⟩ := bw_dic h; rfl
  | dct _ => obtain ⟨a, vs, rfl, _⟩ := bw_dct h; rfl
  | ktp _ =>
    rcases h with h | ⟨e, h1, h2, h3⟩
    · cases h; rfl
    · cases e <;> cases h3
  | obj _ _ =>
    rcases h with h | ⟨e, h1, h2, h3⟩
    · cases h; rfl
    · cases e <;> cases h3
  | bag =>
    rcases h with h | ⟨e, h1, h2, h3⟩
    · cases h; rfl
    · cases e <;> cases h3
theorem isN_ok : Op2 F (fun x y H Q => y = .non ∧ Q (.bl (decide (x = .non))) H) (bIsN false) := fun A bx byy e Q q => by
  rename_i dx dy z
  cases dy <;> try cases e
  exact ⟨bw_non byy, by rw [isN_iff bx]; simpa using q (.bl _) _ (.refl _ _) A.ok (.bl _)⟩
theorem notN_ok : Op2 F (fun x y H Q => y = .non ∧ Q (.bl (!decide (x = .non))) H) (bIsN true) := fun A bx byy e Q q => by
  rename_i dx dy z
  cases dy <;> try cases e
  exact ⟨bw_non byy, by rw [isN_iff bx]; simpa using q (.bl _) _ (.refl _ _) A.ok (.bl _)⟩
theorem dd_is (ha : PE X a (lB F da)) (hb : PE X b (lB F db)) : PE X (.Compare a [.Is] [b] pos) (lC F (dO2 (bIsN false) da db)) := dd_cmp isN_ok op_isN ha hb (nomark _)
theorem dt_is (ha : PE X a (lB F da)) (hb : PE X b (lB F db)) : PT X (.Compare a [.Is] [b] pos) (lT F (dT (dO2 (bIsN false) da db))) := dt_cmp isN_ok op_isN ha hb (nomark _)
theorem dd_isnot (ha : PE X a (lB F da)) (hb : PE X b (lB F db)) : PE X (.Compare a [.IsNot] [b] pos) (lC F (dO2 (bIsN true) da db)) := dd_cmp notN_ok op_notN ha hb (nomark _)
theorem dt_isnot (ha : PE X a (lB F da)) (hb : PE X b (lB F db)) : PT X (.Compare a [.IsNot] [b] pos) (lT F (dT (dO2 (bIsN true) da db))) := dt_cmp notN_ok op_notN ha hb (nomark _)
end
end DL

namespace DL
open PySem PySem.Spec PyProof.Rows L2 RK
/-! ### dicts -/
def valD {κ : Type} [DecidableEq κ] (kds : List (κ × D)) (k : κ) : Option D := (kds.find? fun kv => decide (kv.1 = k)).map (·.2)
def putD {κ : Type} [DecidableEq κ] (kds : List (κ × D)) (k : κ) (v : D) : List (κ × D) :=
  if (kds.any fun kv => decide (kv.1 = k)) = true then kds.map (fun kv => if kv.1 = k then (kv.1, v) else kv) else kds ++ [(k, v)]
section
variable {K : PySem.W.Frag} {N : Addr → Prop} {W : Wd} {H H' : Hp} {κ : Type} [DecidableEq κ]
theorem val_rel {k : κ} : ∀ {kvs : List (κ × V)} {kds : List (κ × D)}, kvs.map (·.1) = kds.map (·.1) → DdAll K N W H (kvs.map (·.2)) (kds.map (·.2)) →
    (valV kvs k = none ∧ valD kds k = none) ∨ ∃ v d, valV kvs k = some v ∧ valD kds k = some d ∧ Dd K N W H v d
  | [], [], _, _ => .inl ⟨rfl, rfl⟩
  | [], _ :: _, e, _ => by cases e
  | _ :: _, [], e, _ => by cases e
  | (k1, v) :: kvs, (k2, d) :: kds, e, .cons h a => by
    have e1 : k1 = k2 := (List.cons.inj e).1
    have e2 := (List.cons.inj e).2
    subst e1
    by_cases hk : k1 = k
    · exact .inr ⟨v, d, by simp [valV, List.find?_cons, hk], by simp [valD, List.find?_cons, hk], h⟩
    · rcases val_rel (k := k) e2 a with ⟨h1, h2⟩ | ⟨v', d', h1, h2, h3⟩
      · left
        constructor
        · simpa [valV, List.find?_cons, hk] using h1
        · simpa [valD, List.find?_cons, hk] using h2
      · refine .inr ⟨v', d', ?_, ?_, h3⟩
        · simpa [valV, List.find?_cons, hk] using h1
        · simpa [valD, List.find?_cons, hk] using h2
theorem any_rel {k : κ} : ∀ {kvs : List (κ × V)} {kds : List (κ × D)}, kvs.map (·.1) = kds.map (·.1) → (kvs.any fun kv => decide (kv.1 = k)) = kds.any fun kv => decide (kv.1 = k)
  | [], [], _ => rfl
  | [], _ :: _, e => by cases e
  | _ :: _, [], e => by cases e
  | (k1, v) :: kvs, (k2, d) :: kds, e => by
    have e1 : k1 = k2 := (List.cons.inj e).1
    have ih := any_rel (k := k) (List.cons.inj e).2
    subst e1
    simp [List.any_cons, ih]
theorem put_rel {k : κ} {v : V} {d : D} {kvs : List (κ × V)} {kds : List (κ × D)} (e : kvs.map (·.1) = kds.map (·.1)) (a : DdAll K N W H (kvs.map (·.2)) (kds.map (·.2))) (h : Dd K N W H v d) :
    (putK kvs k v).map (·.1) = (putD kds k d).map (·.1) ∧ DdAll K N W H ((putK kvs k v).map (·.2)) ((putD kds k d).map (·.2)) := by
  unfold putK putD
  rw [any_rel e]
  split
  · have key : ∀ {kvs : List (κ × V)} {kds : List (κ × D)}, kvs.map (·.1) = kds.map (·.1) → DdAll K N W H (kvs.map (·.2)) (kds.map (·.2)) →
        (kvs.map (fun kv => if kv.1 = k then (kv.1, v) else kv)).map (·.1) = (kds.map (fun kv => if kv.1 = k then (kv.1, d) else kv)).map (·.1) ∧
        DdAll K N W H ((kvs.map (fun kv => if kv.1 = k then (kv.1, v) else kv)).map (·.2)) ((kds.map (fun kv => if kv.1 = k then (kv.1, d) else kv)).map (·.2)) := by
      intro kvs
      induction kvs with
      | nil =>
        intro kds e a
        cases kds with
        | nil => exact ⟨rfl, .nil⟩
        | cons _ _ => cases e
      | cons p kvs ih =>
        intro kds e a
        cases kds with
        | nil => cases e
        | cons p' kds =>
          obtain ⟨k1, v1⟩ := p
          obtain ⟨k2, d1⟩ := p'
          cases a with
          | cons h1 a =>
            have e1 : k1 = k2 := (List.cons.inj e).1
            subst e1
            obtain ⟨i1, i2⟩ := ih (List.cons.inj e).2 a
            by_cases hk : k1 = k
            · simp only [List.map_cons, if_pos hk]
              exact ⟨by rw [i1], .cons h i2⟩
            · simp only [List.map_cons, if_neg hk]
              exact ⟨by rw [i1], .cons h1 i2⟩
    exact key e a
  · rw [List.map_append, List.map_append, List.map_append, List.map_append, e]
    exact ⟨rfl, a.app (.cons h .nil)⟩
end
def keyD : D → Option Key
  | .int i => some (.inl i)
  | .str x => some (.inr x)
  | _ => none
def keysD : List D → Option (List Key)
  | [] => some []
  | d :: ds => (keyD d).bind fun k => (keysD ds).map fun ks => k :: ks
theorem keyD_v {F : Fx} {L : List Addr} {H : Hp} {v : V} {d : D} {k : Key} (b : Bw F L H v d) (e : keyD d = some k) : v = kV k := by
  cases d <;> cases e
  · exact bw_int b
  · exact bw_str b
theorem keysD_v {K : PySem.W.Frag} {N : Addr → Prop} {W : Wd} {H : Hp} : ∀ {vs : List V} {ds : List D} {ks : List Key}, DdAll K N W H vs ds → keysD ds = some ks → vs = ks.map kV
  | _, _, _, .nil, e => by cases e; rfl
  | _, _, _, .cons (v := v) (d := d) h a, e => by
    obtain ⟨k, h1, h2⟩ := Option.bind_eq_some_iff.mp e
    obtain ⟨ks, h3, h4⟩ := Option.map_eq_some_iff.mp h2
    subst h4
    rw [keysD_v a h3]
    cases d <;> cases h1
    · rw [dd_intE h]; rfl
    · rw [dd_strE h]; rfl
/-- what stands under a key -/
def getD : D → D → Option (Option D)
  | .dic kds, y => (keyD y).map fun k => valD kds k
  | .dct kds, .tup ys => (keysD ys).map fun k => valD kds k
  | _, _ => none
theorem getD_ok {F : Fx} {L : List Addr} {H : Hp} {x y : V} {dx dy : D} {r : Option D} (bx : Bw F L H x dx) (bb : Bw F L H y dy) (e : getD dx dy = some r) :
    ∃ a o, x = .ref a ∧ DGet H a y o ∧ ((o = none ∧ r = none) ∨ ∃ v d, o = some v ∧ r = some d ∧ Dd F.K (F.N L) F.W H v d) := by
  cases dx with
  | dic kds =>
    obtain ⟨a, kvs, rfl, h1, h2, h3⟩ := bw_dic bx
    obtain ⟨k, e1, e2⟩ := Option.map_eq_some_iff.mp e
    have hy := keyD_v bb e1
    subst hy e2
    exact ⟨a, valV kvs k, rfl, .inl ⟨kvs, k, h1, rfl, rfl⟩, val_rel h2 h3⟩
  | dct kds =>
    cases dy with
    | tup ys =>
      obtain ⟨a, kvs, rfl, h1, h2, h3⟩ := bw_dct bx
      obtain ⟨b, vs, rfl, g1, g2⟩ := bw_tup bb
      obtain ⟨k, e1, e2⟩ := Option.map_eq_some_iff.mp e
      have hy := keysD_v g2 e1
      subst hy e2
      exact ⟨a, valV kvs k, rfl, .inr ⟨kvs, k, b, h1, rfl, g1, rfl⟩, val_rel h2 h3⟩
    | _ => cases e
  | _ => cases e
/-! ### in -/
def eqF : D → D → Bool
  | .non, .non => true
  | .bl a, .bl b => a == b
  | .bl a, .int b => (if a then 1 else 0) == b
  | .int a, .bl b => a == (if b then 1 else 0)
  | .int a, .int b => a == b
  | .str a, .str b => a == b
  | _, _ => false
def itemsD : D → Option (List D)
  | .lst xs => some xs
  | .tup xs => some xs
  | .ktp xs => some xs
  | _ => none
def inFlat (neg : Bool) : B2 := fun x y => (itemsD y).bind fun ys => if x.leaf = true ∧ ys.all D.leaf = true then some (.bl (neg ^^ ys.any fun y => eqF y x)) else none
def inDeep (neg : Bool) : B2 := fun x y => match toPy x, toPy y with
  | some p, some (.list ps) => if SeqAt.shaped p = true ∧ SeqAt.shaped (.list ps) = true then some (.bl (neg ^^ ps.any fun z => PyData.eqv z p)) else none
  | _, _ => none
def inDict (neg : Bool) : B2 := fun x y => (getD y x).map fun r => .bl (neg ^^ r.isSome)
def inSign (neg : Bool) : B2
  | .str x, .str z => match x.cps.toList with | [c] => some (.bl (neg ^^ decide (c ∈ z.cps.toList))) | _ => none
  | _, _ => none
def bIn (neg : Bool) : B2 := fun x y => (inFlat neg x y).or ((inDict neg x y).or ((inSign neg x y).or (inDeep neg x y)))
theorem leaf_flat {K : PySem.W.Frag} {N : Addr → Prop} {W : Wd} {H : Hp} {v : V} {d : D} (h : Dd K N W H v d) (l : d.leaf = true) : flatV v = true := by cases h <;> first | rfl | cases l
theorem leaf_eq {K : PySem.W.Frag} {N : Addr → Prop} {W : Wd} {H : Hp} {v u : V} {d e : D} (h : Dd K N W H v d) (l : d.leaf = true) (h' : Dd K N W H u e) (l' : e.leaf = true) : eqV v u = eqF d e := by
  cases h <;> cases h' <;> first | rfl | cases l | cases l'
theorem all_leaf {K : PySem.W.Frag} {N : Addr → Prop} {W : Wd} {H : Hp} {v : V} {d : D} (h : Dd K N W H v d) (l : d.leaf = true) : ∀ {vs : List V} {ds : List D}, DdAll K N W H vs ds → ds.all D.leaf = true → vs.all flatV = true ∧ inV v vs = ds.any fun y => eqF y d
  | _, _, .nil, _ => ⟨rfl, rfl⟩
  | _, _, .cons g a, q => by
    rw [List.all_cons, Bool.and_eq_true] at q
    obtain ⟨i1, i2⟩ := all_leaf h l a q.2
    refine ⟨by rw [List.all_cons, leaf_flat g q.1, i1]; rfl, ?_⟩
    unfold inV at i2 ⊢
    rw [List.any_cons, List.any_cons, i2, leaf_eq g q.1 h l]
section
variable {X : Cx} {F : Fx} {e a b c : Expr} {d da db dc : TDE} {pos : Pos}
theorem bw_items {L : List Addr} {H : Hp} {v : V} {y : D} {ys : List D} (h : Bw F L H v y) (e : itemsD y = some ys) : ∃ a vs, v = .ref a ∧ (SqL F.K H a vs ∨ SqT F.K H a vs) ∧ DdAll F.K (F.N L) F.W H vs ys := by
  cases y <;> cases e
  · obtain ⟨a, vs, rfl, h1, h2⟩ := bw_lst h
    exact ⟨a, vs, rfl, .inl (SqL.of h1), h2⟩
  · obtain ⟨a, vs, rfl, h1, h2⟩ := bw_tup h
    exact ⟨a, vs, rfl, .inr (SqT.of h1), h2⟩
  · rcases h with h | ⟨e, h1, h2, h3⟩
    · cases h with | ktp h1 h2 h3 h4 h5 h6 => exact ⟨_, _, rfl, .inr (.inr ⟨_, _, _, h1, h2, h3, h4, h5⟩), h6⟩
    · cases e <;> cases h3
theorem inFlat_ok (neg : Bool) : Op2 F (rIn F.K neg) (inFlat neg) := fun A bx byy e Q q => by
  obtain ⟨ys, h1, h2⟩ := Option.bind_eq_some_iff.mp e
  obtain ⟨⟨l1, l2⟩, rfl⟩ := guard_elim h2
  obtain ⟨p, vs, rfl, g1, g2⟩ := bw_items byy h1
  have dx := bw_leaf bx l1
  obtain ⟨i1, i2⟩ := all_leaf dx l1 g2 l2
  refine ⟨p, vs, rfl, g1, leaf_flat dx l1, i1, ?_⟩
  rw [i2]
  cases neg
  · rw [Bool.false_xor] at q
    exact q _ _ (.refl _ _) A.ok (.bl _)
  · rw [Bool.true_xor] at q
    exact q _ _ (.refl _ _) A.ok (.bl _)
theorem inDeep_elim {neg : Bool} {dx dy z : D} (e : inDeep neg dx dy = some z) : ∃ p ps, toPy dx = some p ∧ toPy dy = some (.list ps) ∧ SeqAt.shaped p = true ∧ SeqAt.shaped (.list ps) = true ∧ z = .bl (neg ^^ ps.any fun z => PyData.eqv z p) := by
  unfold inDeep at e
  cases h1 : toPy dx with
  | none => rw [h1] at e; cases e
  | some p =>
    cases h2 : toPy dy with
    | none => rw [h1, h2] at e; cases e
    | some q =>
      rw [h1, h2] at e
      cases q with
      | list ps =>
        obtain ⟨hc, rfl⟩ := guard_elim e
        exact ⟨p, ps, rfl, rfl, hc.1, hc.2, rfl⟩
      | _ => cases e
theorem inDeep_ok : Op2 F (rInD F.K) (inDeep false) := fun A bx byy e Q q => by
  obtain ⟨p1, p2, h1, h2, s1, s2, rfl⟩ := inDeep_elim e
  exact ⟨p1, p2, bw_py bx h1, bw_py byy h2, s1, s2, q _ _ (.refl _ _) A.ok (by rw [Bool.false_xor]; exact .bl _)⟩
theorem notInDeep_ok : Op2 F (rNotInD F.K) (inDeep true) := fun A bx byy e Q q => by
  obtain ⟨p1, p2, h1, h2, s1, s2, rfl⟩ := inDeep_elim e
  exact ⟨p1, p2, bw_py bx h1, bw_py byy h2, s1, s2, q _ _ (.refl _ _) A.ok (by rw [Bool.true_xor]; exact .bl _)⟩
def rDIn (neg : Bool) : R2 := fun x y H Q => ∃ a o, y = .ref a ∧ DGet H a x o ∧ Q (.bl (neg ^^ o.isSome)) H
theorem op_dIn (hu : X.A.units + 1 < cLine) : OpR X (compareOp .In) (rDIn false) := fun pins s σ H x y v u Q I rx ry h => by
  obtain ⟨a, o, rfl, g, q⟩ := h
  cases ry
  exact d_in hu I g rx fun s' I' => ⟨.bl _, H, I', rfl, by simpa using q⟩
theorem op_dNotIn (hu : X.A.units + 1 < cLine) : OpR X (compareOp .NotIn) (rDIn true) := fun pins s σ H x y v u Q I rx ry h => by
  obtain ⟨a, o, rfl, g, q⟩ := h
  cases ry
  exact d_notIn hu I g rx fun s' I' => ⟨.bl _, H, I', rfl, by simpa using q⟩
theorem inDict_ok (neg : Bool) : Op2 F (rDIn neg) (inDict neg) := fun A bx byy e Q q => by
  obtain ⟨r, h1, rfl⟩ := Option.map_eq_some_iff.mp e
  obtain ⟨a, o, rfl, g, h⟩ := getD_ok byy bx h1
  refine ⟨a, o, rfl, g, ?_⟩
  have : o.isSome = r.isSome := by
    rcases h with ⟨rfl, rfl⟩ | ⟨v, d, rfl, rfl, _⟩ <;> rfl
  rw [this]
  exact q _ _ (.refl _ _) A.ok (.bl _)
theorem inSign_ok (neg : Bool) : Op2 F (fun x y H Q => ∃ (c : Nat) (z : Str), x = .str ⟨#[c]⟩ ∧ y = .str z ∧ Q (.bl (neg ^^ decide (c ∈ z.cps.toList))) H) (inSign neg) := fun A bx byy e Q q => by
  rename_i dx dy z
  cases dx <;> try cases e
  cases dy <;> try cases e
  rename_i x y
  have hx := bw_str bx
  have hy := bw_str byy
  subst hx hy
  obtain ⟨⟨l⟩⟩ := x
  match l, e with
  | [c], e =>
    cases e
    exact ⟨c, y, rfl, rfl, q _ _ (.refl _ _) A.ok (.bl _)⟩
  | [], e => cases e
  | _ :: _ :: _, e => cases e
theorem op_inSg : OpR X (compareOp .In) (fun x y H Q => ∃ (c : Nat) (z : Str), x = .str ⟨#[c]⟩ ∧ y = .str z ∧ Q (.bl (false ^^ decide (c ∈ z.cps.toList))) H) := fun pins s σ H x y v u Q I rx ry ⟨c, z, e1, e2, q⟩ => op_in_sign pins s σ H x y v u Q I rx ry ⟨c, z, e1, e2, by rw [Bool.false_xor] at q; exact q⟩
theorem op_notInSg : OpR X (compareOp .NotIn) (fun x y H Q => ∃ (c : Nat) (z : Str), x = .str ⟨#[c]⟩ ∧ y = .str z ∧ Q (.bl (true ^^ decide (c ∈ z.cps.toList))) H) := fun pins s σ H x y v u Q I rx ry ⟨c, z, e1, e2, q⟩ => op_notIn_sign pins s σ H x y v u Q I rx ry ⟨c, z, e1, e2, by rw [Bool.true_xor] at q; exact q⟩
variable {k : Nat}
theorem u65' (hr : Room k X.A) : X.A.units + 65 < cLine := by have := hr.un; omega
theorem inR (hr : Room k X.A) (hK : F.K = X.K) : OpR X (compareOp .In) (fun x y H Q => rIn F.K false x y H Q ∨ (rDIn false x y H Q ∨ ((∃ (c : Nat) (z : Str), x = .str ⟨#[c]⟩ ∧ y = .str z ∧ Q (.bl (false ^^ decide (c ∈ z.cps.toList))) H) ∨ rInD F.K x y H Q))) := by
  rw [hK]
  exact op_in_seq.or ((op_dIn (hu_of hr)).or (op_inSg.or (op_inD (u65' hr))))
theorem notInR (hr : Room k X.A) (hK : F.K = X.K) : OpR X (compareOp .NotIn) (fun x y H Q => rIn F.K true x y H Q ∨ (rDIn true x y H Q ∨ ((∃ (c : Nat) (z : Str), x = .str ⟨#[c]⟩ ∧ y = .str z ∧ Q (.bl (true ^^ decide (c ∈ z.cps.toList))) H) ∨ rNotInD F.K x y H Q))) := by
  rw [hK]
  exact op_notIn_seq.or ((op_dNotIn (hu_of hr)).or (op_notInSg.or (op_notInD (u65' hr))))
theorem dd_in (hr : Room k X.A) (ha : PE X a (lB F da)) (hb : PE X b (lB F db)) (hm : behindInMarks .In b = false := by rfl) (hK : F.K = X.K := by rfl) : PE X (.Compare a [.In] [b] pos) (lC F (dO2 (bIn false) da db)) :=
  dd_cmp (Op2.or (inFlat_ok false) (Op2.or (inDict_ok false) (Op2.or (inSign_ok false) inDeep_ok))) (inR hr hK) ha hb hm
theorem dt_in (hr : Room k X.A) (ha : PE X a (lB F da)) (hb : PE X b (lB F db)) (hm : behindInMarks .In b = false := by rfl) (hK : F.K = X.K := by rfl) : PT X (.Compare a [.In] [b] pos) (lT F (dT (dO2 (bIn false) da db))) :=
  dt_cmp (Op2.or (inFlat_ok false) (Op2.or (inDict_ok false) (Op2.or (inSign_ok false) inDeep_ok))) (inR hr hK) ha hb hm
theorem dd_notin (hr : Room k X.A) (ha : PE X a (lB F da)) (hb : PE X b (lB F db)) (hm : behindInMarks .NotIn b = false := by rfl) (hK : F.K = X.K := by rfl) : PE X (.Compare a [.NotIn] [b] pos) (lC F (dO2 (bIn true) da db)) :=
  dd_cmp (Op2.or (inFlat_ok true) (Op2.or (inDict_ok true) (Op2.or (inSign_ok true) notInDeep_ok))) (notInR hr hK) ha hb hm
theorem dt_notin (hr : Room k X.A) (ha : PE X a (lB F da)) (hb : PE X b (lB F db)) (hm : behindInMarks .NotIn b = false := by rfl) (hK : F.K = X.K := by rfl) : PT X (.Compare a [.NotIn] [b] pos) (lT F (dT (dO2 (bIn true) da db))) :=
  dt_cmp (Op2.or (inFlat_ok true) (Op2.or (inDict_ok true) (Op2.or (inSign_ok true) notInDeep_ok))) (notInR hr hK) ha hb hm
/-! a < b < c -/
def dChain (f g : B2) (da db dc : TDE) : TDE := fun env P => da env fun x => db env fun y => ob (f x y) fun z => match z with | .bl true => dc env fun w => ob (g y w) P | .bl false => P (.bl false) | _ => False
end
/-! ### arguments, displays -/
section
variable {X : Cx} {F : Fx} {e a b c : Expr} {es : List Expr} {d da db dc : TDE} {ds : TDA} {pos : Pos}
def aNil : TDA := fun _ P => P []
def aCons (d : TDE) (ds : TDA) : TDA := fun env P => d env fun x => ds env fun xs => P (x :: xs)
theorem l_nil : ∀ σ H Q, lA F aNil σ H Q → tNil σ H Q := fun σ H Q ⟨env, L, P, A, p, q⟩ => q [] [] H p (.refl _ _) A.ok .nil
theorem l_cons : ∀ σ H Q, lA F (aCons d ds) σ H Q → tCons (lC F d) (lA F ds) σ H Q := fun σ H Q ⟨env, L, P, A, p, q⟩ =>
  ⟨env, L, _, A, p, fun x v H1 px k1 o1 d1 => ⟨env, L, _, A.step k1 o1, px, fun xs vs H2 pxs k2 o2 d2 => q (x :: xs) (v :: vs) H2 pxs (k1.trans k2) o2 (.cons ((A.step k1 o1).kd k2 d1) d2)⟩⟩
theorem da_nil : PA X [] (lA F aNil) := PA.mono pa_nil l_nil
theorem da_cons (ha : PE X e (lC F d)) (hr : PA X es (lA F ds)) (hs : starEach (e :: es) X.env = (false, eval e X.env) :: starEach es X.env := by rfl) : PA X (e :: es) (lA F (aCons d ds)) := PA.mono (pa_cons ha hr hs) l_cons
theorem dk_nil : PK X [] (lA F aNil) := PK.mono pk_nil l_nil
theorem dk_cons {nm : Option Str} {kpos : Pos} {kws : List Keyword} (ha : PE X e (lC F d)) (hr : PK X kws (lA F ds)) : PK X (⟨nm, e, kpos⟩ :: kws) (lA F (aCons d ds)) := PK.mono (pk_cons ha hr) l_cons
def dTup (ds : TDA) : TDE := fun env P => ds env fun xs => xs.length ≤ sizeLine ∧ P (.tup xs)
def dLst (ds : TDA) : TDE := fun env P => ds env fun xs => xs.length ≤ sizeLine ∧ P (.lst xs)
theorem free_of {W : Wd} {H H1 : Hp} (k : KeepW W H H1) (o : W.ok H1) {a : Addr} (h : H1 a = none) : H a = none := by
  cases zz : H a with
  | none => rfl
  | some u =>
    by_cases ow : W.own a
    · obtain ⟨u2, e2⟩ := Wd.al o ow
      rw [h] at e2
      cases e2
    · rw [k a u ow zz] at h
      cases h
theorem dn_tup {x1} (h : PA X es (lA F ds)) : PE X (.Tuple es x1 pos) (lN F (dTup ds)) := PE.mono (pe_tup h) fun σ H Q ⟨env, L, P, A, p, q⟩ =>
  ⟨env, L, _, A, p, fun xs vs H1 pxs k1 o1 d1 => ⟨by rw [d1.len]; exact pxs.1, fun t ht => q _ t _ pxs.2 (k1.trans (.new ht)) (ok_new o1 ht) (free_of k1 o1 ht) (new_tupN (A.step k1 o1) ht d1)⟩⟩
theorem dn_lst (h : PA X es (lA F ds)) : PE X (.List es pos) (lN F (dLst ds)) := PE.mono (pe_lst h) fun σ H Q ⟨env, L, P, A, p, q⟩ =>
  ⟨env, L, _, A, p, fun xs vs H1 pxs k1 o1 d1 => ⟨by rw [d1.len]; exact pxs.1, fun t ht => q _ t _ pxs.2 (k1.trans (.new ht)) (ok_new o1 ht) (free_of k1 o1 ht) (new_lstN (A.step k1 o1) ht d1)⟩⟩
end
end DL

namespace DL
open PySem PySem.Spec PyProof.Rows L2 RK
/-! ### subscripts -/
theorem DdAll.at {K : PySem.W.Frag} {N : Addr → Prop} {W : Wd} {H : Hp} {vs : List V} {ds : List D} {i : Int} {d : D} (a : DdAll K N W H vs ds) (h : atI ds i = some d) : ∃ v, atI vs i = some v ∧ Dd K N W H v d := by
  unfold atI at h ⊢
  rw [a.len]
  obtain ⟨j, h1, h2⟩ := Option.bind_eq_some_iff.mp h
  obtain ⟨v, h3, h4⟩ := a.get h2
  exact ⟨v, by rw [h1]; exact h3, h4⟩
def ixSeq : B2
  | .lst xs, .int i => atI xs i
  | .tup xs, .int i => atI xs i
  | .ktp xs, .int i => atI xs i
  | _, _ => none
def ixStr : B2
  | .str z, .int i => if z.length ≤ sizeLine then (atI z.cps.toList i).map fun c => .str ⟨#[c]⟩ else none
  | _, _ => none
def ixDic : B2 := fun x y => (getD x y).bind fun r => r
def bIx : B2 := fun x y => (ixSeq x y).or ((ixStr x y).or (ixDic x y))
section
variable {X : Cx} {F : Fx} {e a b c : Expr} {d da db dc : TDE} {pos : Pos}
theorem ixSeq_ok : Op2 F (fun x y H Q => rIxL F.K x y H Q ∨ rIxT F.K x y H Q) ixSeq := fun A bx byy e Q q => by
  rename_i dx dy z
  cases dx <;> try cases e
  all_goals cases dy <;> try cases e
  · obtain ⟨p, vs, rfl, h1, h2⟩ := bw_lst bx
    have hy := bw_int byy
    subst hy
    obtain ⟨v, h3, h4⟩ := h2.at e
    exact .inl ⟨p, vs, _, v, rfl, rfl, SqL.of h1, h3, q _ _ (.refl _ _) A.ok h4⟩
  · obtain ⟨p, vs, rfl, h1, h2⟩ := bw_tup bx
    have hy := bw_int byy
    subst hy
    obtain ⟨v, h3, h4⟩ := h2.at e
    exact .inr ⟨p, vs, _, v, rfl, rfl, SqT.of h1, h3, q _ _ (.refl _ _) A.ok h4⟩
  · obtain ⟨p, vs, rfl, h1, h2⟩ := bw_items bx rfl
    have hy := bw_int byy
    subst hy
    obtain ⟨v, h3, h4⟩ := h2.at e
    rcases h1 with h1 | h1
    · exact .inl ⟨p, vs, _, v, rfl, rfl, h1, h3, q _ _ (.refl _ _) A.ok h4⟩
    · exact .inr ⟨p, vs, _, v, rfl, rfl, h1, h3, q _ _ (.refl _ _) A.ok h4⟩
theorem ixStr_ok : Op2 F rIxS ixStr := fun A bx byy e Q q => by
  rename_i dx dy z
  cases dx <;> try cases e
  cases dy <;> try cases e
  rename_i x i
  have hx := bw_str bx
  have hy := bw_int byy
  subst hx hy
  replace e : (if x.length ≤ sizeLine then (atI x.cps.toList i).map fun c => D.str ⟨#[c]⟩ else none) = some z := e
  by_cases hl : x.length ≤ sizeLine
  · rw [if_pos hl] at e
    obtain ⟨c, h1, rfl⟩ := Option.map_eq_some_iff.mp e
    exact ⟨x, i, c, rfl, rfl, hl, h1, q _ _ (.refl _ _) A.ok (.str _)⟩
  · rw [if_neg hl] at e
    cases e
def rDG : R2 := fun x y H Q => ∃ a v, x = .ref a ∧ DGet H a y (some v) ∧ Q v H
theorem ix_dict (hu : X.A.units + 1 < cLine) : IxR X rDG := fun value slice pins s σ H x y v u Q I rx ry h hs => by
  obtain ⟨a, w, e1, g, q⟩ := h
  subst e1
  cases rx
  have tI := dict_typeIs I g
  have got : wpAny (model X.prog X.w) X.A (getItem (.ref a) u) (EP X pins σ Q) X.xe s := d_getItem hu I g ry fun w' s3 I3 rw' => ⟨w, H, I3, rw', q⟩
  unfold PyProof.Rows.subscriptTail
  refine wpAny_bind ?_
  rw [getitemInPython_of_ne tI.not_modules]
  refine wpAny_bind (wpAny_specialOf tI PySem.F.slot_dict_getitem.lookup ?_)
  have behind : wpAny (model X.prog X.w) X.A (subscripted slice false (.ref a) u) (fun z s3 => wpAny (model X.prog X.w) X.A (letTemporaryGo value (.ref a) z >>= fun _ => pure z) (EP X pins σ Q) X.xe s3) X.xe s := by
    rw [hs]
    exact wpAny_operating (wpAny_mono got (fun z s3 h3 => wpAny_bind (wpAny_letTemporaryGo (wpAny_pure h3))) fun _ _ k => k)
  first
    | exact wpAny_pure (wpAny_bind behind)
    | exact wpAny_bind (wpAny_pure (wpAny_bind behind))
    | exact wpAny_bind behind
theorem ixDic_ok : Op2 F rDG ixDic := fun A bx byy e Q q => by
  obtain ⟨r, h1, h2⟩ := Option.bind_eq_some_iff.mp e
  subst h2
  obtain ⟨a, o, rfl, g, h⟩ := getD_ok bx byy h1
  rcases h with ⟨_, h⟩ | ⟨v, d, rfl, h, hd⟩
  · cases h
  · cases h
    exact ⟨a, v, rfl, g, q _ _ (.refl _ _) A.ok hd⟩
variable {k : Nat}
theorem ixR (hr : Room k X.A) (hK : F.K = X.K) : IxR X (fun x y H Q => (rIxL F.K x y H Q ∨ rIxT F.K x y H Q) ∨ (rIxS x y H Q ∨ rDG x y H Q)) := by
  rw [hK]
  exact (ix_list.or ix_tup).or (ix_str.or (ix_dict (hu_of hr)))
theorem dd_ix (hr : Room k X.A) (ha : PE X a (lB F da)) (hb : PE X b (lB F db)) (hs : PlainIx b := by intro _ _; rfl) (hK : F.K = X.K := by rfl) : PE X (.Subscript a b pos) (lC F (dO2 bIx da db)) :=
  PE.mono (pe_ix (ixR hr hK) ha hb hs) (lop2 (Op2.or ixSeq_ok (Op2.or ixStr_ok ixDic_ok)))
/-! slices -/
def cutD (xs : List D) (lo hi : Option Int) : List D := (xs.drop (HT.sIx xs.length 0 lo)).take (HT.sIx xs.length xs.length hi - HT.sIx xs.length 0 lo)
theorem DdAll.cut {K : PySem.W.Frag} {N : Addr → Prop} {W : Wd} {H : Hp} {vs : List V} {ds : List D} (a : DdAll K N W H vs ds) (lo hi : Option Int) : DdAll K N W H (cutV vs lo hi) (cutD ds lo hi) := by
  unfold cutV cutD
  rw [a.len]
  exact (a.drop _).take _
abbrev TDO := De → (Option Int → Prop) → Prop
def oNone : TDO := fun _ P => P none
def oSome (d : TDE) : TDO := fun env P => d env fun x => match x with | .int i => P (some i) | _ => False
def lO (F : Fx) (d : TDO) : TO := fun σ H Q => ∃ env L P, Abs F env σ L H ∧ d env P ∧ ∀ x H', P x → KeepW F.W H H' → F.W.ok H' → Q x H'
theorem PO.mono {e : Option Expr} {t t' : TO} (h : PO X e t) (m : ∀ σ H Q, t' σ H Q → t σ H Q) : PO X e t' := ⟨fun pins s σ H Q I q => h.run pins s σ H Q I (m σ H Q q)⟩
theorem do_none : PO X none (lO F oNone) := PO.mono po_none fun σ H Q ⟨env, L, P, A, p, q⟩ => q none H p (.refl _ _) A.ok
theorem do_some (h : PE X e (lC F d)) : PO X (some e) (lO F (oSome d)) := PO.mono (po_some h) fun σ H Q ⟨env, L, P, A, p, q⟩ => ⟨env, L, _, A, p, fun x v H1 px k1 o1 d1 => by
  cases x with
  | int i => cases d1; exact ⟨i, rfl, q _ H1 px k1 o1⟩
  | _ => exact px.elim⟩
def cutL (x : D) (lo hi : Option Int) : Option D := match x with
  | .lst xs => some (.lst (cutD xs lo hi))
  | _ => none
def cutA (x : D) (lo hi : Option Int) : Option D := match x with
  | .lst xs => some (.lst (cutD xs lo hi))
  | .tup xs => if HT.sIx xs.length 0 lo = 0 ∧ HT.sIx xs.length xs.length hi = xs.length then none else some (.tup (cutD xs lo hi))
  | .str z => if z.length ≤ sizeLine then some (.str (cutS z lo hi)) else none
  | _ => none
def dCut (f : D → Option Int → Option Int → Option D) (de : TDE) (dl dh : TDO) : TDE := fun env P => de env fun x => dl env fun l => dh env fun h => ob (f x l h) P
theorem slR (hK : F.K = X.K) : SlR X (fun x lo hi H Q => rSlL F.K x lo hi H Q ∨ (rSlT F.K x lo hi H Q ∨ rSlS x lo hi H Q)) := by
  rw [hK]
  exact sl_list.or (sl_tup.or sl_str)
variable {lo hi : Option Expr} {dl dh : TDO} {p2 : Pos}
theorem dd_cut (he : PE X e (lB F d)) (hl : PO X lo (lO F dl)) (hu : PO X hi (lO F dh)) (hK : F.K = X.K := by rfl) : PE X (.Subscript e (.Slice lo hi none p2) pos) (lC F (dCut cutA d dl dh)) :=
  PE.mono (pe_slice (slR hK) he hl hu) fun σ H Q ⟨env, L, P, A, p, q⟩ => ⟨env, L, _, A, p, fun x v H1 px k1 o1 b1 => ⟨env, L, _, A.step k1 o1, px, fun l H2 pl k2 o2 => ⟨env, L, _, (A.step k1 o1).step k2 o2, pl, fun h H3 ph k3 o3 => by
    obtain ⟨z, e, pz⟩ := ob_elim ph
    have A3 := ((A.step k1 o1).step k2 o2).step k3 o3
    have b3 := (b1.step (A.step k1 o1) k2).step ((A.step k1 o1).step k2 o2) k3
    have kk := (k1.trans k2).trans k3
    cases x with
    | lst xs =>
      cases e
      obtain ⟨a, vs, rfl, h1, h2⟩ := bw_lst b3
      exact .inl ⟨a, vs, rfl, SqL.of h1, fun t ht => q _ _ _ pz (kk.trans (.new ht)) (ok_new o3 ht) (new_lst A3 ht (h2.cut l h))⟩
    | tup xs =>
      obtain ⟨a, vs, rfl, h1, h2⟩ := bw_tup b3
      replace e : (if HT.sIx xs.length 0 l = 0 ∧ HT.sIx xs.length xs.length h = xs.length then none else some (D.tup (cutD xs l h))) = some z := e
      by_cases hc : HT.sIx xs.length 0 l = 0 ∧ HT.sIx xs.length xs.length h = xs.length
      · rw [if_pos hc] at e
        cases e
      · rw [if_neg hc] at e
        cases e
        exact .inr (.inl ⟨a, vs, rfl, SqT.of h1, by rw [h2.len]; exact hc, fun t ht => q _ _ _ pz (kk.trans (.new ht)) (ok_new o3 ht) (new_tup A3 ht (h2.cut l h))⟩)
    | str s =>
      have hs := bw_str b3
      subst hs
      obtain ⟨hc, rfl⟩ := guard_elim e
      exact .inr (.inr ⟨s, rfl, hc, q _ _ _ pz kk o3 (.str _)⟩)
    | _ => cases e⟩⟩⟩
theorem dn_cut (he : PE X e (lB F d)) (hl : PO X lo (lO F dl)) (hu : PO X hi (lO F dh)) (hK : F.K = X.K := by rfl) : PE X (.Subscript e (.Slice lo hi none p2) pos) (lN F (dCut cutL d dl dh)) :=
  PE.mono (pe_slice (slR hK) he hl hu) fun σ H Q ⟨env, L, P, A, p, q⟩ => ⟨env, L, _, A, p, fun x v H1 px k1 o1 b1 => ⟨env, L, _, A.step k1 o1, px, fun l H2 pl k2 o2 => ⟨env, L, _, (A.step k1 o1).step k2 o2, pl, fun h H3 ph k3 o3 => by
    obtain ⟨z, e, pz⟩ := ob_elim ph
    have A3 := ((A.step k1 o1).step k2 o2).step k3 o3
    have b3 := (b1.step (A.step k1 o1) k2).step ((A.step k1 o1).step k2 o2) k3
    have kk := (k1.trans k2).trans k3
    cases x with
    | lst xs =>
      cases e
      obtain ⟨a, vs, rfl, h1, h2⟩ := bw_lst b3
      exact .inl ⟨a, vs, rfl, SqL.of h1, fun t ht => q _ _ _ pz (kk.trans (.new ht)) (ok_new o3 ht) (free_of kk o3 ht) (new_lstN A3 ht (h2.cut l h))⟩
    | _ => cases e⟩⟩⟩
/-- xs[::-1] -/
def dRev (d : TDE) : TDE := fun env P => d env fun x => match x with | .lst xs => P (.lst xs.reverse) | _ => False
theorem dn_rev {k' : Nat} {q1 q2 q3 : Pos} (he : PE X e (lB F d)) (hK : F.K = X.K := by rfl) : PE X (.Subscript e (.Slice none none (some (.UnaryOp .USub (.Constant (.int 1) k' q1) q2)) q3) pos) (lN F (dRev d)) :=
  PE.mono (pe_revL he) fun σ H Q ⟨env, L, P, A, p, q⟩ => ⟨env, L, _, A, p, fun x v H1 px k1 o1 b1 => by
    cases x with
    | lst xs =>
      obtain ⟨a, vs, rfl, h1, h2⟩ := bw_lst b1
      exact ⟨a, vs, rfl, SqL.of h1, fun t ht => q _ _ _ px (k1.trans (.new ht)) (ok_new o1 ht) (free_of k1 o1 ht) (new_lstN (A.step k1 o1) ht h2.rev)⟩
    | _ => exact px.elim⟩
/-! a < b < c -/
theorem lchain {r r' : R2} {f g : B2} (h : Op2 F r f) (h' : Op2 F r' g) : ∀ σ H Q, lC F (dChain f g da db dc) σ H Q → tChain r r' (lB F da) (lB F db) (lB F dc) σ H Q := fun σ H Q ⟨env, L, P, A, p, q⟩ =>
  ⟨env, L, _, A, p, fun x v H1 px k1 o1 b1 => ⟨env, L, _, A.step k1 o1, px, fun y u H2 py k2 o2 b2 => by
    obtain ⟨z, e, pz⟩ := ob_elim py
    have A2 := (A.step k1 o1).step k2 o2
    refine h A2 (b1.step (A.step k1 o1) k2) b2 e _ fun w H3 k3 o3 d3 => ?_
    cases z with
    | bl z =>
      have hw := dd_blE d3
      subst hw
      refine ⟨z, rfl, ?_⟩
      cases z with
      | false => exact iteF (q _ _ H3 pz ((k1.trans k2).trans k3) o3 d3)
      | true => exact iteT ⟨env, L, _, A2.step k3 o3, pz, fun t tv H4 pt k4 o4 b4 => by
          obtain ⟨z2, e2, pz2⟩ := ob_elim pt
          exact h' ((A2.step k3 o3).step k4 o4) ((b2.step A2 k3).step (A2.step k3 o3) k4) b4 e2 Q fun w2 H5 k5 o5 d5 => q _ _ H5 pz2 ((((k1.trans k2).trans k3).trans k4).trans k5) o5 d5⟩
    | _ => exact pz.elim⟩⟩
theorem dd_lele (ha : PE X a (lB F da)) (hb : PE X b (lB F db)) (hc : PE X c (lB F dc)) (hm : lastMarks [.LtE, .LtE] [b, c] = false := by with_unfolding_all rfl) : PE X (.Compare a [.LtE, .LtE] [b, c] pos) (lC F (dChain bLe bLe da db dc)) :=
  PE.mono (pe_chain op_le op_le ha hb hc hm) (lchain (iI0_ok fun i j _ _ _ _ => .bl _) (iI0_ok fun i j _ _ _ _ => .bl _))
theorem dd_lelt (ha : PE X a (lB F da)) (hb : PE X b (lB F db)) (hc : PE X c (lB F dc)) (hm : lastMarks [.LtE, .Lt] [b, c] = false := by with_unfolding_all rfl) : PE X (.Compare a [.LtE, .Lt] [b, c] pos) (lC F (dChain bLe (iI0 fun i j => .bl (decide (i < j))) da db dc)) :=
  PE.mono (pe_chain op_le op_lt ha hb hc hm) (lchain (iI0_ok fun i j _ _ _ _ => .bl _) (iI0_ok fun i j _ _ _ _ => .bl _))
theorem dd_ltlt (ha : PE X a (lB F da)) (hb : PE X b (lB F db)) (hc : PE X c (lB F dc)) (hm : lastMarks [.Lt, .Lt] [b, c] = false := by with_unfolding_all rfl) : PE X (.Compare a [.Lt, .Lt] [b, c] pos) (lC F (dChain (iI0 fun i j => .bl (decide (i < j))) (iI0 fun i j => .bl (decide (i < j))) da db dc)) :=
  PE.mono (pe_chain op_lt op_lt ha hb hc hm) (lchain (iI0_ok fun i j _ _ _ _ => .bl _) (iI0_ok fun i j _ _ _ _ => .bl _))
theorem l_testE {t : TE} (h : ∀ σ H Q, lC F d σ H Q → t σ H Q) : ∀ σ H Q, lT F (dT d) σ H Q → tTest t σ H Q := fun σ H Q ⟨env, L, P, A, p, q⟩ => h σ H _ ⟨env, L, _, A, p, fun x v H1 px k1 o1 d1 => by
  cases x with
  | bl b => cases d1; exact ⟨b, rfl, q b H1 px k1 o1⟩
  | _ => exact px.elim⟩
theorem dt_lele (ha : PE X a (lB F da)) (hb : PE X b (lB F db)) (hc : PE X c (lB F dc)) (hm : lastMarks [.LtE, .LtE] [b, c] = false := by with_unfolding_all rfl) : PT X (.Compare a [.LtE, .LtE] [b, c] pos) (lT F (dT (dChain bLe bLe da db dc))) :=
  PT.mono (pt_chain op_le op_le ha hb hc hm) (l_testE (lchain (iI0_ok fun i j _ _ _ _ => .bl _) (iI0_ok fun i j _ _ _ _ => .bl _)))
theorem dt_lelt (ha : PE X a (lB F da)) (hb : PE X b (lB F db)) (hc : PE X c (lB F dc)) (hm : lastMarks [.LtE, .Lt] [b, c] = false := by with_unfolding_all rfl) : PT X (.Compare a [.LtE, .Lt] [b, c] pos) (lT F (dT (dChain bLe (iI0 fun i j => .bl (decide (i < j))) da db dc))) :=
  PT.mono (pt_chain op_le op_lt ha hb hc hm) (l_testE (lchain (iI0_ok fun i j _ _ _ _ => .bl _) (iI0_ok fun i j _ _ _ _ => .bl _)))
theorem dt_ltlt (ha : PE X a (lB F da)) (hb : PE X b (lB F db)) (hc : PE X c (lB F dc)) (hm : lastMarks [.Lt, .Lt] [b, c] = false := by with_unfolding_all rfl) : PT X (.Compare a [.Lt, .Lt] [b, c] pos) (lT F (dT (dChain (iI0 fun i j => .bl (decide (i < j))) (iI0 fun i j => .bl (decide (i < j))) da db dc))) :=
  PT.mono (pt_chain op_lt op_lt ha hb hc hm) (l_testE (lchain (iI0_ok fun i j _ _ _ _ => .bl _) (iI0_ok fun i j _ _ _ _ => .bl _)))
/-- -a -/
def dNeg (d : TDE) : TDE := fun env P => d env fun x => match x with | .int i => P (.int (-i)) | _ => False
theorem dd_neg (ha : PE X a (lC F d)) : PE X (.UnaryOp .USub a pos) (lC F (dNeg d)) := PE.mono (pe_un un_neg ha) fun σ H Q ⟨env, L, P, A, p, q⟩ => ⟨env, L, _, A, p, fun x v H1 px k1 o1 d1 => by
  cases x with
  | int i => cases d1; exact ⟨i, rfl, q _ _ H1 px k1 o1 (.int _)⟩
  | _ => exact px.elim⟩
/-- truth of a value as a test -/
def truD : D → Option Bool
  | .non => some false
  | .bl b => some b
  | .int i => some (i != 0)
  | .str y => if y.length ≤ sizeLine then some ((y.length : Int) != 0) else none
  | .lst xs => some (!xs.isEmpty)
  | .tup xs => some (!xs.isEmpty)
  | _ => none
def dTru (d : TDE) : TDT := fun env P => d env fun x => ob (truD x) P
theorem empty_len {K : PySem.W.Frag} {N : Addr → Prop} {W : Wd} {H : Hp} {vs : List V} {ds : List D} (a : DdAll K N W H vs ds) : (!ds.isEmpty) = !vs.isEmpty := by cases a <;> rfl
theorem dt_tru (ha : PE X a (lB F d)) (he : ∀ whole, isTrue a X.env whole = (do let v ← whole; standAt a.pos; holding [v] (truthy v)) := by intro _; rfl) (hK : F.K = X.K := by rfl) : PT X a (lT F (dTru d)) := PT.mono (pt_truth ha he) fun σ H Q ⟨env, L, P, A, p, q⟩ => ⟨env, L, _, A, p, fun x v H1 px k1 o1 b1 => by
  obtain ⟨z, e, pz⟩ := ob_elim px
  refine ⟨z, ?_, q _ H1 pz k1 o1⟩
  rw [← hK]
  cases x with
  | non => rw [bw_non b1]; cases e; rfl
  | bl _ => rw [bw_bl b1]; cases e; rfl
  | int _ => rw [bw_int b1]; cases e; rfl
  | str _ =>
    rw [bw_str b1]
    obtain ⟨hc, rfl⟩ := guard_elim e
    exact ⟨hc, rfl⟩
  | lst _ =>
    obtain ⟨a, vs, rfl, h1, h2⟩ := bw_lst b1
    cases e
    exact .inl ⟨vs, SqL.of h1, empty_len h2⟩
  | tup _ =>
    obtain ⟨a, vs, rfl, h1, h2⟩ := bw_tup b1
    cases e
    exact .inr (.inl ⟨vs, SqT.of h1, empty_len h2⟩)
  | _ => cases e⟩
end
end DL

namespace DL
open PySem PySem.Spec PyProof.Rows L2 RK
/-! ### calls of built-ins: borrowed arguments -/
abbrev BwA (F : Fx) (L : List Addr) (H : Hp) : List V → List D → Prop := Paired (Bw F L H)
def lAb (F : Fx) (d : TDA) : TA := fun σ H Q => ∃ env L P, Abs F env σ L H ∧ d env P ∧ ∀ xs vs H', P xs → KeepW F.W H H' → F.W.ok H' → BwA F L H' vs xs → Q vs H'
section
variable {X : Cx} {F : Fx} {e a b c : Expr} {es : List Expr} {d da db dc : TDE} {ds : TDA} {pos : Pos}
theorem db_nil : PA X [] (lAb F aNil) := PA.mono pa_nil fun σ H Q ⟨env, L, P, A, p, q⟩ => q [] [] H p (.refl _ _) A.ok .nil
theorem db_cons (ha : PE X e (lB F d)) (hr : PA X es (lAb F ds)) (hs : starEach (e :: es) X.env = (false, eval e X.env) :: starEach es X.env := by rfl) : PA X (e :: es) (lAb F (aCons d ds)) := PA.mono (pa_cons ha hr hs) fun σ H Q ⟨env, L, P, A, p, q⟩ =>
  ⟨env, L, _, A, p, fun x v H1 px k1 o1 d1 => ⟨env, L, _, A.step k1 o1, px, fun xs vs H2 pxs k2 o2 d2 => q (x :: xs) (v :: vs) H2 pxs (k1.trans k2) o2 (.cons (d1.step (A.step k1 o1) k2) d2)⟩⟩
def Ca (F : Fx) (r : List V → Hp → VK → Prop) (f : List D → Option D) : Prop := ∀ {env : De} {σ : L2.St} {L : List Addr} {H : Hp} {vs : List V} {ds : List D} {z : D}, Abs F env σ L H → BwA F L H vs ds → f ds = some z →
  ∀ Q : VK, (∀ v H', KeepW F.W H H' → F.W.ok H' → Dd F.K (F.N L) F.W H' v z → Q v H') → r vs H Q
def CaN (F : Fx) (r : List V → Hp → VK → Prop) (f : List D → Option D) : Prop := ∀ {env : De} {σ : L2.St} {L : List Addr} {H : Hp} {vs : List V} {ds : List D} {z : D}, Abs F env σ L H → BwA F L H vs ds → f ds = some z →
  ∀ Q : VK, (∀ a H', KeepW F.W H H' → F.W.ok H' → H a = none → NewV F L H' a z → Q (.ref a) H') → r vs H Q
def dCa (f : List D → Option D) (ds : TDA) : TDE := fun env P => ds env fun xs => ob (f xs) P
theorem lca {r : List V → Hp → VK → Prop} {f : List D → Option D} (h : Ca F r f) : ∀ σ H Q, lC F (dCa f ds) σ H Q → tCB r (lAb F ds) σ H Q := fun σ H Q ⟨env, L, P, A, p, q⟩ =>
  ⟨env, L, _, A, p, fun xs vs H1 px k1 o1 d1 => by
    obtain ⟨z, e, pz⟩ := ob_elim px
    exact h (A.step k1 o1) d1 e Q fun v H2 k2 o2 d2 => q z v H2 pz (k1.trans k2) o2 d2⟩
theorem lcaN {r : List V → Hp → VK → Prop} {f : List D → Option D} (h : CaN F r f) : ∀ σ H Q, lN F (dCa f ds) σ H Q → tCB r (lAb F ds) σ H Q := fun σ H Q ⟨env, L, P, A, p, q⟩ =>
  ⟨env, L, _, A, p, fun xs vs H1 px k1 o1 d1 => by
    obtain ⟨z, e, pz⟩ := ob_elim px
    exact h (A.step k1 o1) d1 e Q fun v H2 k2 o2 n2 d2 => q z v H2 pz (k1.trans k2) o2 (free_of k1 o1 n2) d2⟩
theorem CallR.or {f : Value} {r r' : List V → Hp → VK → Prop} (h : CallR X f r) (h' : CallR X f r') : CallR X f (fun xs H Q => r xs H Q ∨ r' xs H Q) := fun pins s σ H xs us Q I rx q => by
  rcases q with q | q
  · exact h pins s σ H xs us Q I rx q
  · exact h' pins s σ H xs us Q I rx q
/-- len -/
def lenD : List D → Option D
  | [.lst xs] => some (.int xs.length)
  | [.tup xs] => some (.int xs.length)
  | [.ktp xs] => some (.int xs.length)
  | [.str z] => if z.length ≤ sizeLine then some (.int z.length) else none
  | [.dic kds] => some (.int kds.length)
  | _ => none
theorem call_lenR : CallR X (.builtin "len") (fun xs H Q => ∃ a kvs, xs = [V.ref a] ∧ Rd H a (.dK kvs) ∧ Q (.int kvs.length) H) := fun pins s σ H xs us Q I r h => by
  obtain ⟨a, kvs, rfl, ha, q⟩ := h
  obtain ⟨u, rfl, ru⟩ := vals1 r
  cases ru
  exact d_len I ha fun t s' I' => ⟨.int kvs.length, H, I', ⟨t, rfl⟩, q⟩
theorem len_ok : Ca F (fun xs H Q => (∃ x n, xs = [x] ∧ LenV F.K x H n ∧ Q (.int n) H) ∨ (∃ a kvs, xs = [V.ref a] ∧ Rd H a (.dK kvs) ∧ Q (.int kvs.length) H)) lenD := fun A b e Q q => by
  rename_i dl z
  match dl, b, e with
  | [.lst xs], .cons h .nil, e =>
    obtain ⟨a, vs, rfl, h1, h2⟩ := bw_lst h
    cases e
    exact .inl ⟨_, _, rfl, .inl ⟨vs, SqL.of h1, rfl⟩, by rw [h2.len]; exact q _ _ (.refl _ _) A.ok (.int _)⟩
  | [.tup xs], .cons h .nil, e =>
    obtain ⟨a, vs, rfl, h1, h2⟩ := bw_tup h
    cases e
    exact .inl ⟨_, _, rfl, .inr ⟨vs, SqT.of h1, rfl⟩, by rw [h2.len]; exact q _ _ (.refl _ _) A.ok (.int _)⟩
  | [.ktp xs], .cons h .nil, e =>
    obtain ⟨a, vs, rfl, h1, h2⟩ := bw_items h rfl
    cases e
    exact .inl ⟨_, vs.length, rfl, h1.imp (fun h => ⟨vs, h, rfl⟩) (fun h => ⟨vs, h, rfl⟩), by rw [h2.len]; exact q _ _ (.refl _ _) A.ok (.int _)⟩
  | [.str x], .cons h .nil, e =>
    have hx := bw_str h
    subst hx
    obtain ⟨hc, rfl⟩ := guard_elim e
    exact .inl ⟨_, _, rfl, ⟨hc, rfl⟩, q _ _ (.refl _ _) A.ok (.int _)⟩
  | [.dic kds], .cons h .nil, e =>
    obtain ⟨a, kvs, rfl, h1, h2, h3⟩ := bw_dic h
    cases e
    have : kvs.length = kds.length := by simpa using congrArg List.length h2
    exact .inr ⟨_, _, rfl, h1, by rw [this]; exact q _ _ (.refl _ _) A.ok (.int _)⟩
theorem lenR (hK : F.K = X.K) : CallR X (.builtin "len") (fun xs H Q => (∃ x n, xs = [x] ∧ LenV F.K x H n ∧ Q (.int n) H) ∨ (∃ a kvs, xs = [V.ref a] ∧ Rd H a (.dK kvs) ∧ Q (.int kvs.length) H)) := by
  rw [hK]
  exact CallR.or call_len call_lenR
variable {p : Pos}
theorem dd_len (hg : Gl X "len") (hm : X.mg "len" = none) (ha : PE X e (lB F d)) (he : starEach [e] X.env = (false, eval e X.env) :: starEach [] X.env := by rfl) (hpl : (backTo pos (starEach [] X.env)).any (·.1) = false := by rfl) (hK : F.K = X.K := by rfl) :
    PE X (.Call (.Name "len" p) [e] [] pos) (lC F (dCa lenD (aCons d aNil))) := PE.mono (pe_callB (lenR hK) hg hm (by decide +kernel) (db_cons ha db_nil he) (by decide) (by decide) he hpl) (lca len_ok)
/-- all, any, sum over lists of bools or ints -/
def blsD : List D → Option (List Bool)
  | [] => some []
  | .bl b :: ds => (blsD ds).map fun bs => b :: bs
  | _ => none
def intsD : List D → Option (List Int)
  | [] => some []
  | .int i :: ds => (intsD ds).map fun is => i :: is
  | _ => none
def strsD : List D → Option (List Str)
  | [] => some []
  | .str i :: ds => (strsD ds).map fun is => i :: is
  | _ => none
theorem bls_v {K : PySem.W.Frag} {N : Addr → Prop} {W : Wd} {H : Hp} : ∀ {vs : List V} {ds : List D} {bs : List Bool}, DdAll K N W H vs ds → blsD ds = some bs → vs = bs.map V.bl
  | _, _, _, .nil, e => by cases e; rfl
  | _, _, _, .cons (d := d) h a, e => by
    cases d <;> try cases e
    obtain ⟨bs, h1, rfl⟩ := Option.map_eq_some_iff.mp e
    rw [bls_v a h1, dd_blE h]
    rfl
theorem ints_v {K : PySem.W.Frag} {N : Addr → Prop} {W : Wd} {H : Hp} : ∀ {vs : List V} {ds : List D} {bs : List Int}, DdAll K N W H vs ds → intsD ds = some bs → vs = bs.map V.int
  | _, _, _, .nil, e => by cases e; rfl
  | _, _, _, .cons (d := d) h a, e => by
    cases d <;> try cases e
    obtain ⟨bs, h1, rfl⟩ := Option.map_eq_some_iff.mp e
    rw [ints_v a h1, dd_intE h]
    rfl
theorem strs_v {K : PySem.W.Frag} {N : Addr → Prop} {W : Wd} {H : Hp} : ∀ {vs : List V} {ds : List D} {bs : List Str}, DdAll K N W H vs ds → strsD ds = some bs → vs = bs.map V.str
  | _, _, _, .nil, e => by cases e; rfl
  | _, _, _, .cons (d := d) h a, e => by
    cases d <;> try cases e
    obtain ⟨bs, h1, rfl⟩ := Option.map_eq_some_iff.mp e
    rw [strs_v a h1, dd_strE h]
    rfl
theorem dd_strs {K : PySem.W.Frag} {N : Addr → Prop} {W : Wd} {H : Hp} : ∀ zs : List Str, DdAll K N W H (zs.map V.str) (zs.map D.str)
  | [] => .nil
  | z :: zs => .cons (.str z) (dd_strs zs)
theorem dd_ints {K : PySem.W.Frag} {N : Addr → Prop} {W : Wd} {H : Hp} : ∀ zs : List Int, DdAll K N W H (zs.map V.int) (zs.map D.int)
  | [] => .nil
  | z :: zs => .cons (.int z) (dd_ints zs)
theorem strsD_map : ∀ zs : List Str, strsD (zs.map D.str) = some zs
  | [] => rfl
  | z :: zs => by show (strsD (zs.map D.str)).map _ = _; rw [strsD_map zs]; rfl
theorem intsD_map : ∀ zs : List Int, intsD (zs.map D.int) = some zs
  | [] => rfl
  | z :: zs => by show (intsD (zs.map D.int)).map _ = _; rw [intsD_map zs]; rfl
theorem blsD_map : ∀ zs : List Bool, blsD (zs.map D.bl) = some zs
  | [] => rfl
  | z :: zs => by show (blsD (zs.map D.bl)).map _ = _; rw [blsD_map zs]; rfl
def allD : List D → Option D
  | [.lst ds] => (blsD ds).map fun bs => .bl (bs.all id)
  | _ => none
def anyD : List D → Option D
  | [.lst ds] => (blsD ds).map fun bs => .bl (bs.any id)
  | _ => none
def sumD : List D → Option D
  | [.lst ds] => (intsD ds).map fun bs => .int bs.sum
  | _ => none
theorem all_ok : Ca F (rAll F.K) allD := fun A b e Q q => by
  rename_i dl z
  match dl, b, e with
  | [.lst xs], .cons h .nil, e =>
    obtain ⟨a, vs, rfl, h1, h2⟩ := bw_lst h
    obtain ⟨bs, h3, rfl⟩ := Option.map_eq_some_iff.mp e
    exact ⟨a, bs, rfl, SqL.of (by rw [h1, bls_v h2 h3]), q _ _ (.refl _ _) A.ok (.bl _)⟩
theorem any_ok : Ca F (rAny F.K) anyD := fun A b e Q q => by
  rename_i dl z
  match dl, b, e with
  | [.lst xs], .cons h .nil, e =>
    obtain ⟨a, vs, rfl, h1, h2⟩ := bw_lst h
    obtain ⟨bs, h3, rfl⟩ := Option.map_eq_some_iff.mp e
    exact ⟨a, bs, rfl, SqL.of (by rw [h1, bls_v h2 h3]), q _ _ (.refl _ _) A.ok (.bl _)⟩
theorem sum_ok : Ca F (rSum F.K) sumD := fun A b e Q q => by
  rename_i dl z
  match dl, b, e with
  | [.lst xs], .cons h .nil, e =>
    obtain ⟨a, vs, rfl, h1, h2⟩ := bw_lst h
    obtain ⟨bs, h3, rfl⟩ := Option.map_eq_some_iff.mp e
    exact ⟨a, bs, rfl, SqL.of (by rw [h1, ints_v h2 h3]), q _ _ (.refl _ _) A.ok (.int _)⟩
theorem allR (hc : X.calm = true) (hK : F.K = X.K) : CallR X (.builtin "all") (rAll F.K) := by rw [hK]; exact cr_all hc
theorem anyR (hc : X.calm = true) (hK : F.K = X.K) : CallR X (.builtin "any") (rAny F.K) := by rw [hK]; exact cr_any hc
theorem sumR (hc : X.calm = true) (hK : F.K = X.K) : CallR X (.builtin "sum") (rSum F.K) := by rw [hK]; exact cr_sum hc
theorem dd_all (hg : Gl X "all") (hm : X.mg "all" = none) (ha : PE X e (lB F d)) (hc : X.calm = true := by rfl) (he : starEach [e] X.env = (false, eval e X.env) :: starEach [] X.env := by rfl) (hpl : (backTo pos (starEach [] X.env)).any (·.1) = false := by rfl) (hK : F.K = X.K := by rfl) :
    PE X (.Call (.Name "all" p) [e] [] pos) (lC F (dCa allD (aCons d aNil))) := PE.mono (pe_callB (allR hc hK) hg hm (by decide +kernel) (db_cons ha db_nil he) (by decide) (by decide) he hpl) (lca all_ok)
theorem dd_any (hg : Gl X "any") (hm : X.mg "any" = none) (ha : PE X e (lB F d)) (hc : X.calm = true := by rfl) (he : starEach [e] X.env = (false, eval e X.env) :: starEach [] X.env := by rfl) (hpl : (backTo pos (starEach [] X.env)).any (·.1) = false := by rfl) (hK : F.K = X.K := by rfl) :
    PE X (.Call (.Name "any" p) [e] [] pos) (lC F (dCa anyD (aCons d aNil))) := PE.mono (pe_callB (anyR hc hK) hg hm (by decide +kernel) (db_cons ha db_nil he) (by decide) (by decide) he hpl) (lca any_ok)
theorem dd_sum (hg : Gl X "sum") (hm : X.mg "sum" = none) (ha : PE X e (lB F d)) (hc : X.calm = true := by rfl) (he : starEach [e] X.env = (false, eval e X.env) :: starEach [] X.env := by rfl) (hpl : (backTo pos (starEach [] X.env)).any (·.1) = false := by rfl) (hK : F.K = X.K := by rfl) :
    PE X (.Call (.Name "sum" p) [e] [] pos) (lC F (dCa sumD (aCons d aNil))) := PE.mono (pe_callB (sumR hc hK) hg hm (by decide +kernel) (db_cons ha db_nil he) (by decide) (by decide) he hpl) (lca sum_ok)
/-- max, min of two ints; abs -/
def max2D : List D → Option D
  | [.int i, .int j] => some (.int (if j > i then j else i))
  | _ => none
def min2D : List D → Option D
  | [.int i, .int j] => some (.int (if j < i then j else i))
  | _ => none
def absD : List D → Option D
  | [.int i] => some (.int (if i < 0 then -i else i))
  | _ => none
theorem max2_ok : Ca F (fun xs H Q => ∃ i j, xs = [.int i, .int j] ∧ Q (.int (if j > i then j else i)) H) max2D := fun A b e Q q => by
  rename_i dl z
  match dl, b, e with
  | [.int i, .int j], .cons h (.cons h' .nil), e =>
    cases e
    rw [bw_int h, bw_int h']
    exact ⟨i, j, rfl, q _ _ (.refl _ _) A.ok (.int _)⟩
theorem min2_ok : Ca F (fun xs H Q => ∃ i j, xs = [.int i, .int j] ∧ Q (.int (if j < i then j else i)) H) min2D := fun A b e Q q => by
  rename_i dl z
  match dl, b, e with
  | [.int i, .int j], .cons h (.cons h' .nil), e =>
    cases e
    rw [bw_int h, bw_int h']
    exact ⟨i, j, rfl, q _ _ (.refl _ _) A.ok (.int _)⟩
theorem abs_ok : Ca F (fun xs H Q => ∃ i, xs = [.int i] ∧ Q (.int (if i < 0 then -i else i)) H) absD := fun A b e Q q => by
  rename_i dl z
  match dl, b, e with
  | [.int i], .cons h .nil, e =>
    cases e
    rw [bw_int h]
    exact ⟨i, rfl, q _ _ (.refl _ _) A.ok (.int _)⟩
theorem dd_max2 (hg : Gl X "max") (hm : X.mg "max" = none) (ha : PE X a (lB F da)) (hb : PE X b (lB F db)) (hc : X.calm = true := by rfl) (he : starEach [a, b] X.env = (false, eval a X.env) :: starEach [b] X.env := by rfl) (he2 : starEach [b] X.env = (false, eval b X.env) :: starEach [] X.env := by rfl) (hpl : (backTo pos (starEach [b] X.env)).any (·.1) = false := by rfl) :
    PE X (.Call (.Name "max" p) [a, b] [] pos) (lC F (dCa max2D (aCons da (aCons db aNil)))) := PE.mono (pe_callB (call_max2 hc) hg hm (by decide +kernel) (db_cons ha (db_cons hb db_nil he2) he) (by decide) (by decide) he hpl) (lca max2_ok)
theorem dd_min2 (hg : Gl X "min") (hm : X.mg "min" = none) (ha : PE X a (lB F da)) (hb : PE X b (lB F db)) (hc : X.calm = true := by rfl) (he : starEach [a, b] X.env = (false, eval a X.env) :: starEach [b] X.env := by rfl) (he2 : starEach [b] X.env = (false, eval b X.env) :: starEach [] X.env := by rfl) (hpl : (backTo pos (starEach [b] X.env)).any (·.1) = false := by rfl) :
    PE X (.Call (.Name "min" p) [a, b] [] pos) (lC F (dCa min2D (aCons da (aCons db aNil)))) := PE.mono (pe_callB (call_min2 hc) hg hm (by decide +kernel) (db_cons ha (db_cons hb db_nil he2) he) (by decide) (by decide) he hpl) (lca min2_ok)
theorem dd_abs (hg : Gl X "abs") (hm : X.mg "abs" = none) (ha : PE X e (lB F d)) (he : starEach [e] X.env = (false, eval e X.env) :: starEach [] X.env := by rfl) (hpl : (backTo pos (starEach [] X.env)).any (·.1) = false := by rfl) :
    PE X (.Call (.Name "abs" p) [e] [] pos) (lC F (dCa absD (aCons d aNil))) := PE.mono (pe_callB call_abs hg hm (by decide +kernel) (db_cons ha db_nil he) (by decide) (by decide) he hpl) (lca abs_ok)
/-- int(x) of a bool or an int -/
def intD : List D → Option D
  | [.int i] => some (.int i)
  | [.bl b] => some (.int (if b then 1 else 0))
  | _ => none
theorem int_ok : Ca F (fun xs H Q => (∃ i, xs = [.int i] ∧ Q (.int i) H) ∨ ∃ k, xs = [.bl k] ∧ Q (.int (if k then 1 else 0)) H) intD := fun A b e Q q => by
  rename_i dl z
  match dl, b, e with
  | [.int i], .cons h .nil, e =>
    cases e
    rw [bw_int h]
    exact .inl ⟨i, rfl, q _ _ (.refl _ _) A.ok (.int _)⟩
  | [.bl i], .cons h .nil, e =>
    cases e
    rw [bw_bl h]
    exact .inr ⟨i, rfl, q _ _ (.refl _ _) A.ok (.int _)⟩
theorem dd_toint (hg : Gl X "int") (hm : X.mg "int" = none) (ha : PE X e (lB F d)) (he : starEach [e] X.env = (false, eval e X.env) :: starEach [] X.env := by rfl) (hpl : (backTo pos (starEach [] X.env)).any (·.1) = false := by rfl) :
    PE X (.Call (.Name "int" p) [e] [] pos) (lC F (dCa intD (aCons d aNil))) := PE.mono (pe_callTy call_int1 hg hm (by decide +kernel) (db_cons ha db_nil he) (by decide) (by decide) he hpl) (lca int_ok)
/-- list(x), tuple(x) -/
def keyV : Key → D
  | .inl i => .int i
  | .inr x => .str x
theorem dd_key {K : PySem.W.Frag} {N : Addr → Prop} {W : Wd} {H : Hp} : ∀ k : Key, Dd K N W H (kV k) (keyV k)
  | .inl i => .int i
  | .inr x => .str x
theorem dd_keys {K : PySem.W.Frag} {N : Addr → Prop} {W : Wd} {H : Hp} : ∀ {kvs : List (Key × V)} {kds : List (Key × D)}, kvs.map (·.1) = kds.map (·.1) → DdAll K N W H (kvs.map fun kv => kV kv.1) (kds.map fun kd => keyV kd.1)
  | [], [], _ => .nil
  | [], _ :: _, e => by cases e
  | _ :: _, [], e => by cases e
  | (k1, v) :: kvs, (k2, d) :: kds, e => by
    have e1 : k1 = k2 := (List.cons.inj e).1
    subst e1
    exact .cons (dd_key k1) (dd_keys (List.cons.inj e).2)
def listD : List D → Option D
  | [.lst xs] => some (.lst xs)
  | [.tup xs] => some (.lst xs)
  | [.ktp xs] => some (.lst xs)
  | [.dic kds] => some (.lst (kds.map fun kd => keyV kd.1))
  | _ => none
theorem list_okN : CaN F (fun xs H Q => (∃ p ys, xs = [.ref p] ∧ (SqL F.K H p ys ∨ SqT F.K H p ys) ∧ ∀ l, H l = none → Q (.ref l) (upd H l (.lst ys))) ∨ (∃ (a : Addr) (kvs : List (Key × V)), xs = [.ref a] ∧ Rd H a (.dK kvs) ∧ ∀ p, H p = none → Q (.ref p) (upd H p (.lst (kvs.map fun kv => kV kv.1))))) listD := fun A b e Q q => by
  rename_i dl z
  match dl, b, e with
  | [.lst xs], .cons h .nil, e =>
    obtain ⟨a, vs, rfl, h1, h2⟩ := bw_lst h
    cases e
    exact .inl ⟨_, _, rfl, .inl (SqL.of h1), fun t ht => q _ _ (.new ht) (ok_new A.ok ht) ht (new_lstN A ht h2)⟩
  | [.tup xs], .cons h .nil, e =>
    obtain ⟨a, vs, rfl, h1, h2⟩ := bw_tup h
    cases e
    exact .inl ⟨_, _, rfl, .inr (SqT.of h1), fun t ht => q _ _ (.new ht) (ok_new A.ok ht) ht (new_lstN A ht h2)⟩
  | [.ktp xs], .cons h .nil, e =>
    obtain ⟨a, vs, rfl, h1, h2⟩ := bw_items h rfl
    cases e
    exact .inl ⟨_, vs, rfl, h1, fun t ht => q _ _ (.new ht) (ok_new A.ok ht) ht (new_lstN A ht h2)⟩
  | [.dic kds], .cons h .nil, e =>
    obtain ⟨a, kvs, rfl, h1, h2, h3⟩ := bw_dic h
    cases e
    exact .inr ⟨_, _, rfl, h1, fun t ht => q _ _ (.new ht) (ok_new A.ok ht) ht (new_lstN A ht (dd_keys h2))⟩
theorem listR (hc : X.calm = true) (hK : F.K = X.K) : CallR X (.type "list") (fun xs H Q => (∃ p ys, xs = [.ref p] ∧ (SqL F.K H p ys ∨ SqT F.K H p ys) ∧ ∀ l, H l = none → Q (.ref l) (upd H l (.lst ys))) ∨ (∃ (a : Addr) (kvs : List (Key × V)), xs = [.ref a] ∧ Rd H a (.dK kvs) ∧ ∀ p, H p = none → Q (.ref p) (upd H p (.lst (kvs.map fun kv => kV kv.1))))) := by
  rw [hK]
  exact CallR.or call_list_of (call_listD hc)
theorem dn_list (hg : Gl X "list") (hm : X.mg "list" = none) (ha : PE X e (lB F d)) (hc : X.calm = true := by rfl) (he : starEach [e] X.env = (false, eval e X.env) :: starEach [] X.env := by rfl) (hpl : (backTo pos (starEach [] X.env)).any (·.1) = false := by rfl) (hK : F.K = X.K := by rfl) :
    PE X (.Call (.Name "list" p) [e] [] pos) (lN F (dCa listD (aCons d aNil))) := PE.mono (pe_callTy (listR hc hK) hg hm (by decide +kernel) (db_cons ha db_nil he) (by decide) (by decide) he hpl) (lcaN list_okN)
/-- tuple(x) of a list; of a tuple it is the tuple itself -/
def tupleD : List D → Option D
  | [.lst xs] => some (.tup xs)
  | _ => none
theorem tuple_okN : CaN F (fun xs H Q => ∃ p ys, xs = [.ref p] ∧ ((SqL F.K H p ys ∧ ∀ l, H l = none → Q (.ref l) (upd H l (.tup ys))) ∨ (SqT F.K H p ys ∧ Q (.ref p) H))) tupleD := fun A b e Q q => by
  rename_i dl z
  match dl, b, e with
  | [.lst xs], .cons h .nil, e =>
    obtain ⟨a, vs, rfl, h1, h2⟩ := bw_lst h
    cases e
    exact ⟨_, _, rfl, .inl ⟨SqL.of h1, fun t ht => q _ _ (.new ht) (ok_new A.ok ht) ht (new_tupN A ht h2)⟩⟩
theorem tupleR (hK : F.K = X.K) : CallR X (.type "tuple") (fun xs H Q => ∃ p ys, xs = [.ref p] ∧ ((SqL F.K H p ys ∧ ∀ l, H l = none → Q (.ref l) (upd H l (.tup ys))) ∨ (SqT F.K H p ys ∧ Q (.ref p) H))) := by
  rw [hK]
  exact call_tuple_of
theorem dn_tuple (hg : Gl X "tuple") (hm : X.mg "tuple" = none) (ha : PE X e (lB F d)) (he : starEach [e] X.env = (false, eval e X.env) :: starEach [] X.env := by rfl) (hpl : (backTo pos (starEach [] X.env)).any (·.1) = false := by rfl) (hK : F.K = X.K := by rfl) :
    PE X (.Call (.Name "tuple" p) [e] [] pos) (lN F (dCa tupleD (aCons d aNil))) := PE.mono (pe_callTy (tupleR hK) hg hm (by decide +kernel) (db_cons ha db_nil he) (by decide) (by decide) he hpl) (lcaN tuple_okN)
end
end DL

namespace DL
open PySem PySem.Spec PyProof.Rows L2 RK
/-! ### isinstance -/
def tyD : D → Option String
  | .non => some "NoneType" | .bl _ => some "bool" | .int _ => some "int" | .str _ => some "str" | .lst _ => some "list" | .tup _ => some "tuple" | .ktp _ => some "tuple" | .dic _ => some "dict" | _ => none
def isD (T : String) (x : D) : Option Bool := (tyD x).bind fun t => kitB t T
def isAnyD (x : D) : List String → Option Bool
  | [] => some false
  | T :: Ts => (isD T x).bind fun b => if b = true then some true else isAnyD x Ts
section
variable {X : Cx} {F : Fx} {e a b c : Expr} {es : List Expr} {d da db dc : TDE} {ds : TDA} {pos p : Pos}
theorem ty_bw {L : List Addr} {H : Hp} {v : V} {x : D} {t : String} (h : Bw F L H v x) (e : tyD x = some t) : TyX F.K H v (.type t) := by
  cases x with
  | non => rw [bw_non h]; cases e; exact .base .non
  | bl _ => rw [bw_bl h]; cases e; exact .base (.bl _)
  | int _ => rw [bw_int h]; cases e; exact .base (.int _)
  | str _ => rw [bw_str h]; cases e; exact .base (.str _)
  | lst _ => obtain ⟨a, vs, rfl, h1, _⟩ := bw_lst h; cases e; exact .base (.lst h1)
  | tup _ => obtain ⟨a, vs, rfl, h1, _⟩ := bw_tup h; cases e; exact .base (.tup h1)
  | ktp _ =>
    cases e
    rcases h with h | ⟨e, h1, h2, h3⟩
    · cases h with | ktp h1 h2 h3 h4 h5 h6 => exact .kTuple h1 h2
    · cases e <;> cases h3
  | dic _ =>
    obtain ⟨a, vs, rfl, h1, _⟩ := bw_dic h
    cases e
    rcases h1 with h1 | ⟨o, h1⟩
    · exact .base (.dK h1)
    · exact .fDict h1
  | _ => cases e
def dIs (T : String) (d : TDE) : TDE := fun env P => d env fun x => ob (isD T x) fun b => P (.bl b)
def dIsA (Ts : List String) (d : TDE) : TDE := fun env P => d env fun x => ob (isAnyD x Ts) fun b => P (.bl b)
theorem isiR (hK : F.K = X.K) : CallR X (.builtin "isinstance") (rIsi F.K) := by rw [hK]; exact call_isi
theorem isiTR (hK : F.K = X.K) : CallR X (.builtin "isinstance") (rIsiT F.K) := by rw [hK]; exact call_isiT
theorem dd_isi {T : String} (hg : Gl X "isinstance") (hm : X.mg "isinstance" = none) (ha : PE X a (lB F d)) (hb : PE X b (tC (.ty T))) (he : starEach [a, b] X.env = (false, eval a X.env) :: starEach [b] X.env := by rfl) (he2 : starEach [b] X.env = (false, eval b X.env) :: starEach [] X.env := by rfl) (hpl : (backTo pos (starEach [b] X.env)).any (·.1) = false := by rfl) (hK : F.K = X.K := by rfl) :
    PE X (.Call (.Name "isinstance" p) [a, b] [] pos) (lC F (dIs T d)) := PE.mono (pe_callB (isiR hK) hg hm (by decide +kernel) (pa_cons ha (pa_cons hb pa_nil he2) he) (by decide) (by decide) he hpl) fun σ H Q ⟨env, L, P, A, pp, q⟩ =>
  ⟨env, L, _, A, pp, fun x v H1 px k1 o1 b1 => by
    obtain ⟨z, e, pz⟩ := ob_elim px
    obtain ⟨t, h1, h2⟩ := Option.bind_eq_some_iff.mp e
    exact ⟨v, .ty T, _, _, z, rfl, .ty T, ty_bw b1 h1, kit_ty h2, q _ _ H1 pz k1 o1 (.bl _)⟩⟩
theorem isAny_kit {K : PySem.W.Frag} {x : D} {t : String} (ht : tyD x = some t) : ∀ {Ts : List String} {z : Bool}, isAnyD x Ts = some z → PySem.W.kitAny K (.type t) (Ts.map Value.type) = some z
  | [], z, e => by cases e; exact kitAny_nil
  | T :: Ts, z, e => by
    obtain ⟨b, h1, h2⟩ := Option.bind_eq_some_iff.mp e
    obtain ⟨t', h3, h4⟩ := Option.bind_eq_some_iff.mp h1
    rw [ht] at h3
    cases h3
    cases b with
    | true => cases h2; exact kitAny_cons (kit_ty h4) (fun e => by cases e) (fun _ => rfl)
    | false =>
      rw [if_neg Bool.false_ne_true] at h2
      exact kitAny_cons (kit_ty h4) (fun _ => isAny_kit ht h2) (fun e => by cases e)
/-- the second argument a tuple of classes that is displayed -/
theorem dd_isiT {T1 T2 : String} {b1 b2 : Expr} {tp : Pos} {x1} (hg : Gl X "isinstance") (hm : X.mg "isinstance" = none) (ha : PE X a (lB F d)) (h1 : PE X b1 (tC (.ty T1))) (h2 : PE X b2 (tC (.ty T2)))
    (s1 : starEach [b1, b2] X.env = (false, eval b1 X.env) :: starEach [b2] X.env := by rfl) (s2 : starEach [b2] X.env = (false, eval b2 X.env) :: starEach [] X.env := by rfl)
    (he : starEach [a, .Tuple [b1, b2] x1 tp] X.env = (false, eval a X.env) :: starEach [.Tuple [b1, b2] x1 tp] X.env := by rfl) (he2 : starEach [.Tuple [b1, b2] x1 tp] X.env = (false, eval (.Tuple [b1, b2] x1 tp) X.env) :: starEach [] X.env := by rfl)
    (hpl : (backTo pos (starEach [.Tuple [b1, b2] x1 tp] X.env)).any (·.1) = false := by rfl) (hK : F.K = X.K := by rfl) :
    PE X (.Call (.Name "isinstance" p) [a, .Tuple [b1, b2] x1 tp] [] pos) (lC F (dIsA [T1, T2] d)) := PE.mono (pe_callB (isiTR hK) hg hm (by decide +kernel) (pa_cons ha (pa_cons (pe_tup (pa_cons h1 (pa_cons h2 pa_nil s2) s1)) pa_nil he2) he) (by decide) (by decide) he hpl) fun σ H Q ⟨env, L, P, A, pp, q⟩ =>
  ⟨env, L, _, A, pp, fun x v H1 px k1 o1 bb => ⟨(by show 2 ≤ sizeLine; decide), fun t ht => by
    obtain ⟨z, e, pz⟩ := ob_elim px
    have A1 := A.step k1 o1
    have b2 : Bw F L (upd H1 t (.tup [.ty T1, .ty T2])) v x := bb.step A1 (.new ht)
    obtain ⟨tt, htt⟩ : ∃ tt, tyD x = some tt := by
      cases hx : tyD x with
      | some tt => exact ⟨tt, rfl⟩
      | none =>
        unfold isAnyD isD at e
        rw [hx] at e
        cases e
    exact ⟨v, t, _, _, _, z, rfl, upd_same, .cons (.ty T1) (.cons (.ty T2) .nil), ty_bw b2 htt, isAny_kit htt e, q _ _ _ pz (k1.trans (.new ht)) (ok_new o1 ht) (.bl _)⟩⟩⟩
/-! ### sorted(..) of texts, of ints, of a dict with text keys -/
/-- ys is xs in ascending order -/
def SortS (xs ys : List Str) : Prop := ys.Perm xs ∧ sortedS ys = true
def SortI (xs ys : List Int) : Prop := ys.Perm xs ∧ ys.Pairwise (· ≤ ·)
def txtKeys : List (Key × D) → Option (List Str)
  | [] => some []
  | (.inr x, _) :: r => (txtKeys r).map fun xs => x :: xs
  | _ => none
theorem txtKeys_v : ∀ {kds : List (Key × D)} {xs : List Str}, txtKeys kds = some xs → kds.map (·.1) = xs.map Sum.inr
  | [], _, e => by cases e; rfl
  | (.inr x, d) :: r, _, e => by
    obtain ⟨ys, h1, rfl⟩ := Option.map_eq_some_iff.mp e
    simp [txtKeys_v h1]
  | (.inl x, d) :: r, _, e => by cases e
def dSort (d : TDE) : TDE := fun env P => d env fun x => match x with
  | .lst xs => (∃ zs, strsD xs = some zs ∧ zs.length < 64 ∧ ∀ ys, SortS zs ys → P (.lst (ys.map D.str))) ∨ (∃ zs, intsD xs = some zs ∧ zs.length < 64 ∧ ∀ ys, SortI zs ys → P (.lst (ys.map D.int)))
  | .dic kds => ∃ zs, txtKeys kds = some zs ∧ zs.length < 64 ∧ ∀ ys, SortS zs ys → P (.lst (ys.map D.str))
  | _ => False
theorem sortR (hc : X.calm = true) (hK : F.K = X.K) : CallR X (.builtin "sorted") (fun vs H Q => rSortedS F.K vs H Q ∨ (rSorted F.K vs H Q ∨ (∃ (a : Addr) (kvs : List (Key × V)) (ks : List Str), vs = [.ref a] ∧ Rd H a (.dK kvs) ∧ kvs.map (·.1) = ks.map Sum.inr ∧ ks.length < 64 ∧
    ∀ ys p, ys.Perm ks → sortedS ys = true → H p = none → Q (.ref p) (upd H p (.lst (ys.map V.str)))))) := by
  rw [hK]
  exact CallR.or cr_sortedS (CallR.or cr_sorted (call_sortedD hc))
theorem dn_sort (hg : Gl X "sorted") (hm : X.mg "sorted" = none) (ha : PE X e (lB F d)) (hc : X.calm = true := by rfl) (he : starEach [e] X.env = (false, eval e X.env) :: starEach [] X.env := by rfl) (hpl : (backTo pos (starEach [] X.env)).any (·.1) = false := by rfl) (hK : F.K = X.K := by rfl) :
    PE X (.Call (.Name "sorted" p) [e] [] pos) (lN F (dSort d)) := PE.mono (pe_callB (sortR hc hK) hg hm (by decide +kernel) (pa_cons ha pa_nil he) (by decide) (by decide) he hpl) fun σ H Q ⟨env, L, P, A, pp, q⟩ =>
  ⟨env, L, _, A, pp, fun x v H1 px k1 o1 b1 => by
    have A1 := A.step k1 o1
    cases x with
    | lst xs =>
      obtain ⟨a, vs, rfl, h1, h2⟩ := bw_lst b1
      rcases px with ⟨zs, hz, h64, px⟩ | ⟨zs, hz, h64, px⟩
      · exact .inl ⟨a, zs, rfl, SqL.of (by rw [h1, strs_v h2 hz]), h64, fun ys t py so ht => q _ _ _ (px ys ⟨py, so⟩) (k1.trans (.new ht)) (ok_new o1 ht) (free_of k1 o1 ht) (new_lstN A1 ht (dd_strs ys))⟩
      · exact .inr (.inl ⟨a, zs, rfl, SqL.of (by rw [h1, ints_v h2 hz]), h64, fun ys t py so ht => q _ _ _ (px ys ⟨py, so⟩) (k1.trans (.new ht)) (ok_new o1 ht) (free_of k1 o1 ht) (new_lstN A1 ht (dd_ints ys))⟩)
    | dic kds =>
      obtain ⟨a, kvs, rfl, h1, h2, h3⟩ := bw_dic b1
      obtain ⟨zs, hz, h64, px⟩ := px
      exact .inr (.inr ⟨a, kvs, zs, rfl, h1, by rw [h2]; exact txtKeys_v hz, h64, fun ys t py so ht => q _ _ _ (px ys ⟨py, so⟩) (k1.trans (.new ht)) (ok_new o1 ht) (free_of k1 o1 ht) (new_lstN A1 ht (dd_strs ys))⟩)
    | _ => exact px.elim⟩
/-! ### xs.index(x), flat items -/
def indexOf (xs : List D) (y : D) : Option Nat := xs.findIdx? fun z => eqF z y
def dIndex (dx dy : TDE) : TDE := fun env P => dx env fun x => match x with
  | .lst xs => dy env fun y => xs.all D.leaf = true ∧ y.leaf = true ∧ ob (indexOf xs y) fun j => P (.int (j : Nat))
  | _ => False
theorem index_v {K : PySem.W.Frag} {N : Addr → Prop} {W : Wd} {H : Hp} {v : V} {y : D} (h : Dd K N W H v y) (l : y.leaf = true) {vs : List V} {xs : List D} (a : DdAll K N W H vs xs) (al : xs.all D.leaf = true) {j : Nat} (e : indexOf xs y = some j) :
    ∃ z, vs[j]? = some z ∧ eqV z v = true ∧ ∀ (m : Nat) (z' : V), m < j → vs[m]? = some z' → eqV z' v = false := by
  unfold indexOf at e
  obtain ⟨hj, h1, h2⟩ := List.findIdx?_eq_some_iff_getElem.mp e
  have lf : ∀ x ∈ xs, x.leaf = true := fun x hx => List.all_eq_true.mp al x hx
  obtain ⟨z, hz, dz⟩ := a.get (List.getElem?_eq_getElem hj)
  refine ⟨z, hz, by rw [leaf_eq dz (lf _ (List.getElem_mem hj)) h l]; exact h1, fun m z' hm hz' => ?_⟩
  obtain ⟨d', hd', dd'⟩ := a.getV hz'
  have hm' : m < xs.length := by omega
  have e' : xs[m] = d' := by
    rw [List.getElem?_eq_getElem hm'] at hd'
    exact Option.some.inj hd'
  rw [leaf_eq dd' (e' ▸ lf _ (List.getElem_mem hm')) h l, ← e']
  have := h2 m hm
  simpa using this
theorem indexR (hK : F.K = X.K) : MtR X "list.index" (rIndex F.K) := by rw [hK]; exact mt_index
theorem dd_index {apos cpos : Pos} {o : Expr} (ho : PE X o (lB F da)) (he : PE X e (lB F db)) (hbase : attributeBase o "index" X.env (eval o X.env) = eval o X.env := by rfl)
    (hfew : ((backTo cpos (starEach [e] X.env)).all (fun x => !x.1) && (backToKw cpos (keywordEach [] X.env)).all (fun x => x.1.isSome) && decide (([e] : List Expr).length + ([] : List Keyword).length + (if ([] : List Keyword).isEmpty then 0 else 1) < 30)) = true := by rfl)
    (hline : (apos.endLine == cpos.line) = true := by rfl) (hs : starEach [e] X.env = (false, eval e X.env) :: starEach [] X.env := by rfl) (hplain : (backTo cpos (starEach [] X.env)).any (·.1) = false := by rfl) (hK : F.K = X.K := by rfl) :
    PE X (.Call (.Attribute o "index" apos) [e] [] cpos) (lC F (dIndex da db)) := PE.mono (pe_bm PySem.F.plainAttrs_list PySem.F.slot_list_index PySem.F.type_list_index (indexR hK) ho (pa_cons he pa_nil hs) hbase hfew hline hs hplain) fun σ H Q ⟨env, L, P, A, pp, q⟩ =>
  ⟨env, L, _, A, pp, fun x v H1 px k1 o1 b1 => by
    cases x with
    | lst xs =>
      obtain ⟨a, vs, rfl, h1, h2⟩ := bw_lst b1
      refine ⟨.inl ⟨rfl, vs, SqL.of h1⟩, env, L, _, A.step k1 o1, px, fun y u H2 py k2 o2 b2 => ?_⟩
      obtain ⟨l1, l2, py⟩ := py
      obtain ⟨j, ej, pj⟩ := ob_elim py
      obtain ⟨a2, vs2, e2, h3, h4⟩ := bw_lst (b1.step (A.step k1 o1) k2)
      cases e2
      have dy := bw_leaf b2 l2
      obtain ⟨z, g1, g2, g3⟩ := index_v dy l2 h4 l1 ej
      exact ⟨a, vs2, u, j, z, rfl, rfl, SqL.of h3, leaf_flat dy l2, (all_leaf dy l2 h4 l1).1, g1, g2, g3, q _ _ H2 pj (k1.trans k2) o2 (.int _)⟩
    | _ => exact px.elim⟩
end
end DL

namespace DL
open PySem PySem.Spec PyProof.Rows L2 RK
/-! ### promises of defs, by data -/
abbrev DSp := List D → (D → Prop) → Prop
def lSp (K : PySem.W.Frag) (fr : Bool) (sp : DSp) : Sp := fun vs H Q _ => ∃ (W : Wd) (N0 : Addr → Prop) (ds : List D) (P : D → Prop), (∀ a, N0 a → ∃ o, H a = some o) ∧ (∀ a, W.own a → N0 a) ∧ W.ok H ∧ DdAll K N0 W H vs ds ∧ sp ds P ∧
  ∀ x v H', P x → KeepW W H H' → W.ok H' → Dd K N0 W H' v x → (fr = true → ∃ a, v = .ref a ∧ H a = none ∧ NewV ⟨K, W, N0, H, true⟩ [] H' a x) → Q v H'
section
variable {X : Cx} {F : Fx} {e a b c : Expr} {es : List Expr} {d da db dc : TDE} {ds dk : TDA} {pos p : Pos}
def dCall (sp : DSp) (ds : TDA) : TDE := fun env P => ds env fun xs => sp xs P
theorem lcall {fr : Bool} {sp : DSp} {E : XK} {K : PySem.W.Frag} (hK : F.K = K) : ∀ σ H Q, lC F (dCall sp ds) σ H Q → tCall (lSp K fr sp) [] E (lA F ds) σ H Q := fun σ H Q ⟨env, L, P, A, pp, q⟩ => by
  subst hK
  exact ⟨env, L, _, A, pp, fun xs vs H1 px k1 o1 d1 => ⟨F.W, F.N L, xs, P, fun a h => (A.step k1 o1).alN h, fun a h => .inl (A.wn a h), o1, by rw [List.append_nil]; exact d1, px, fun x v H2 p2 k2 o2 d2 _ => q x v H2 p2 (k1.trans k2) o2 d2⟩⟩
theorem new_of {K : PySem.W.Frag} {W : Wd} {N0 : Addr → Prop} {H H' : Hp} {fr : Bool} {L : List Addr} {a : Addr} {x : D} {F : Fx} (e1 : F.K = K) (e2 : F.W = W) (e3 : F.N L = N0) (h : NewV ⟨K, W, N0, H, true⟩ [] H' a x) : NewV F L H' a x := by
  subst e1 e2
  have key : ∀ {vs : List V} {ds : List D}, DdAll F.K (Fx.N ⟨F.K, F.W, N0, H, true⟩ [a]) F.W H' vs ds → DdAll F.K (F.N (a :: L)) F.W H' vs ds := fun h => h.keep (fun _ _ _ z => z) fun y hy => by
    rcases hy with hy | hy
    · left
      show N0 y
      rw [← e3]
      exact .inl hy
    · rcases List.mem_cons.mp hy with hy | hy
      · exact .inr (by rw [hy]; exact List.mem_cons_self)
      · left
        show N0 y
        rw [← e3]
        exact .inr hy
  cases x with
  | lst ds => obtain ⟨vs, h1, h2⟩ := h; exact ⟨vs, h1, key h2⟩
  | tup ds => obtain ⟨vs, h1, h2⟩ := h; exact ⟨vs, h1, key h2⟩
  | dic ds => obtain ⟨vs, h1, h3, h2⟩ := h; exact ⟨vs, h1, h3, key h2⟩
  | dct ds => obtain ⟨vs, h1, h3, h2⟩ := h; exact ⟨vs, h1, h3, key h2⟩
  | _ => exact h
theorem lcallN {sp : DSp} {E : XK} {K : PySem.W.Frag} (hK : F.K = K) : ∀ σ H Q, lN F (dCall sp ds) σ H Q → tCall (lSp K true sp) [] E (lA F ds) σ H Q := fun σ H Q ⟨env, L, P, A, pp, q⟩ => by
  subst hK
  refine ⟨env, L, _, A, pp, fun xs vs H1 px k1 o1 d1 => ⟨F.W, F.N L, xs, P, fun a h => (A.step k1 o1).alN h, fun a h => .inl (A.wn a h), o1, by rw [List.append_nil]; exact d1, px, fun x v H2 p2 k2 o2 d2 nn => ?_⟩⟩
  obtain ⟨a, rfl, h1, h2⟩ := nn rfl
  exact q x a H2 p2 (k1.trans k2) o2 (free_of k1 o1 h1) (new_of (fr := true) rfl rfl rfl h2)
variable {CX : CXT} {k : Nat} {f : Addr} {fd : FuncData} {ps ks : List Str} {sp : DSp} {E : XK} {x : Str} {fr : Bool} {K : PySem.W.Frag}
theorem dd_call (G : FnOk X.prog X.w X.K X.mg X.base CX k f fd ps (lSp K fr sp)) (hr : Room k X.A) (hg : Gl X x) (hm : X.mg x = some (.ref f)) (hk : PySem.W.keepIn X.K (.ref f) = true) (hb : Binds X.K fd ps []) (hx : Passes CX X E) (ha : PA X (e :: es) (lA F ds)) (hK : F.K = K := by rfl)
    (he : starEach (e :: es) X.env = (false, eval e X.env) :: starEach es X.env := by rfl) (hpl : (backTo pos (starEach es X.env)).any (·.1) = false := by rfl) (hdb : (x == ("__debug__" : Str)) = false := by decide) :
    PE X (.Call (.Name x p) (e :: es) [] pos) (lC F (dCall sp ds)) := PE.mono (pe_call G hr hg hm hk hb .nil hx ha hdb he hpl) (lcall hK)
theorem dn_call (G : FnOk X.prog X.w X.K X.mg X.base CX k f fd ps (lSp K true sp)) (hr : Room k X.A) (hg : Gl X x) (hm : X.mg x = some (.ref f)) (hk : PySem.W.keepIn X.K (.ref f) = true) (hb : Binds X.K fd ps []) (hx : Passes CX X E) (ha : PA X (e :: es) (lA F ds)) (hK : F.K = K := by rfl)
    (he : starEach (e :: es) X.env = (false, eval e X.env) :: starEach es X.env := by rfl) (hpl : (backTo pos (starEach es X.env)).any (·.1) = false := by rfl) (hdb : (x == ("__debug__" : Str)) = false := by decide) :
    PE X (.Call (.Name x p) (e :: es) [] pos) (lN F (dCall sp ds)) := PE.mono (pe_call G hr hg hm hk hb .nil hx ha hdb he hpl) (lcallN hK)
theorem dd_callK {g : List Value → List Value → List Value} {gV : List V → List V → List V} {gD : List D → List D → List D} {kws : List Keyword} (G : FnOk X.prog X.w X.K X.mg X.base CX k f fd ps (lSp K fr sp)) (hr : Room k X.A) (hg : Gl X x) (hm : X.mg x = some (.ref f)) (hk : PySem.W.keepIn X.K (.ref f) = true) (hb : KBinds X.K fd ps ks g gV) (hx : Passes CX X E) (hkw : PK X kws (lA F dk))
    (hD : ∀ {K : PySem.W.Frag} {N : Addr → Prop} {W : Wd} {H : Hp} {zs : List V} {es : List D}, DdAll K N W H zs es → DdAll K N W H (gV [] zs) (gD [] es)) (hK : F.K = K := by rfl)
    (hall : (backToKw pos (keywordEach kws X.env)).all (·.1.isSome) = true := by rfl) (hks : (backToKw pos (keywordEach kws X.env)).filterMap (·.1) = ks := by rfl) (hdb : (x == ("__debug__" : Str)) = false := by decide)
    (hpl : ((backTo pos (starEach [] X.env)).any (·.1) || (backToKw pos (keywordEach kws X.env)).any (·.1.isNone)) = false := by rfl) :
    PE X (.Call (.Name x p) [] kws pos) (lC F (fun env P => dk env fun xs => sp (gD [] xs) P)) := PE.mono (pe_callK0 G hr hg hm hk hb hx hkw hall hks hdb hpl) fun σ H Q ⟨env, L, P, A, pp, q⟩ => by
  subst hK
  exact ⟨env, L, _, A, pp, fun xs vs H1 px k1 o1 d1 => ⟨F.W, F.N L, gD [] xs, P, fun a h => (A.step k1 o1).alN h, fun a h => .inl (A.wn a h), o1, hD d1, px, fun x v H2 p2 k2 o2 d2 _ => q x v H2 p2 (k1.trans k2) o2 d2⟩⟩
end
/-! ### statements -/
structure DEnds where
  nx : De → Prop
  rt : D → Prop
  bk : De → Prop := fun _ => False
  ct : De → Prop := fun _ => False
abbrev TDS := DEnds → De → Prop
def Pres (F : Fx) (L : List Addr) (H : Hp) (L' : List Addr) (H' : Hp) : Prop := ∀ a o, ¬ F.N L a → H a = some o → ¬ F.N L' a ∧ H' a = some o
theorem Pres.refl (F : Fx) (L : List Addr) (H : Hp) : Pres F L H L H := fun _ _ n h => ⟨n, h⟩
theorem Pres.trans {F : Fx} {L L1 L2 : List Addr} {H H1 H2 : Hp} (a : Pres F L H L1 H1) (b : Pres F L1 H1 L2 H2) : Pres F L H L2 H2 := fun x o n h => b x o (a x o n h).1 (a x o n h).2
theorem KeepW.pres {F : Fx} {env : De} {σ : L2.St} {L : List Addr} {H H' : Hp} (A : Abs F env σ L H) (k : KeepW F.W H H') : Pres F L H L H' := fun x o n h => ⟨n, k x o (nw_of A n) h⟩
structure RetOk (F : Fx) (H' : Hp) (v : V) (x : D) : Prop where
  kp : KeepW F.W F.H0 H'
  ok : F.W.ok H'
  dd : Dd F.K F.N0 F.W H' v x
  nw : F.fr = true → ∃ a, v = .ref a ∧ F.H0 a = none ∧ NewV F [] H' a x
def lS (F : Fx) (d : TDS) : TS := fun E σ H => ∃ env L P, Abs F env σ L H ∧ d P env ∧ (∀ env' σ' L' H', P.nx env' → Abs F env' σ' L' H' → Pres F L H L' H' → E.nx σ' H') ∧ (∀ x v H', P.rt x → RetOk F H' v x → E.rt v H') ∧
  (∀ env' σ' L' H', P.bk env' → Abs F env' σ' L' H' → Pres F L H L' H' → E.bk σ' H') ∧ (∀ env' σ' L' H', P.ct env' → Abs F env' σ' L' H' → Pres F L H L' H' → E.ct σ' H')
section
variable {X : Cx} {F : Fx} {e a b c : Expr} {es : List Expr} {d da db dc : TDE} {ds : TDA} {pos p : Pos} {st : Stmt} {rest sa sb : List Stmt} {s1 s2 : TDS} {tA : TDT}
def sNil : TDS := fun P env => P.nx env
def sSeq (s1 s2 : TDS) : TDS := fun P env => s1 { P with nx := s2 P } env
theorem ss_nil : PSs X [] (lS F sNil) := PSs.mono pss_nil fun E σ H ⟨env, L, P, A, pp, hn, _⟩ => hn env σ L H pp A (.refl _ _ _)
theorem ss_cons (h1 : PS X st (lS F s1)) (h2 : PSs X rest (lS F s2)) : PSs X (st :: rest) (lS F (sSeq s1 s2)) := PSs.mono (pss_cons h1 h2) fun E σ H ⟨env, L, P, A, pp, hn, hr, hb, hc⟩ =>
  ⟨env, L, _, A, pp, fun env' σ' L' H' pn A' pr => ⟨env', L', P, A', pn, fun env2 σ2 L2 H2 p2 A2 pr2 => hn env2 σ2 L2 H2 p2 A2 (pr.trans pr2), hr, fun env2 σ2 L2 H2 p2 A2 pr2 => hb env2 σ2 L2 H2 p2 A2 (pr.trans pr2), fun env2 σ2 L2 H2 p2 A2 pr2 => hc env2 σ2 L2 H2 p2 A2 (pr.trans pr2)⟩, hr, hb, hc⟩
theorem ss_one (h1 : PS X st (lS F s1)) : PSs X [st] (lS F s1) := pss_one h1
def sNever : TDS := fun _ _ => False
theorem ds_never : PS X st (lS F sNever) := PS.mono ps_never fun E σ H ⟨env, L, P, A, pp, _⟩ => pp
theorem ds_pass : PS X (.Pass pos) (lS F sNil) := PS.mono ps_pass fun E σ H ⟨env, L, P, A, pp, hn, _⟩ => hn env σ L H pp A (.refl _ _ _)
def sBrk : TDS := fun P env => P.bk env
def sCont : TDS := fun P env => P.ct env
theorem ds_break : PS X (.Break pos) (lS F sBrk) := PS.mono ps_break fun E σ H ⟨env, L, P, A, pp, _, _, hb, _⟩ => hb env σ L H pp A (.refl _ _ _)
theorem ds_cont : PS X (.Continue pos) (lS F sCont) := PS.mono ps_continue fun E σ H ⟨env, L, P, A, pp, _, _, _, hc⟩ => hc env σ L H pp A (.refl _ _ _)
def sIf (t : TDT) (s1 s2 : TDS) : TDS := fun P env => t env fun x => if x = true then s1 P env else s2 P env
theorem ds_if (hc : PT X c (lT F tA)) (ha : PSs X sa (lS F s1)) (hb : PSs X sb (lS F s2)) : PS X (.If c sa sb pos) (lS F (sIf tA s1 s2)) := PS.mono (ps_if hc ha hb) fun E σ H ⟨env, L, P, A, pp, hn, hr, hb, hc⟩ =>
  ⟨env, L, _, A, pp, fun x H1 px k1 o1 => by
    have pr : Pres F L H L H1 := k1.pres A
    cases x with
    | true => exact iteT ⟨env, L, P, A.step k1 o1, px, fun env2 σ2 L2 H2 p2 A2 pr2 => hn env2 σ2 L2 H2 p2 A2 (pr.trans pr2), hr, fun env2 σ2 L2 H2 p2 A2 pr2 => hb env2 σ2 L2 H2 p2 A2 (pr.trans pr2), fun env2 σ2 L2 H2 p2 A2 pr2 => hc env2 σ2 L2 H2 p2 A2 (pr.trans pr2)⟩
    | false => exact iteF ⟨env, L, P, A.step k1 o1, px, fun env2 σ2 L2 H2 p2 A2 pr2 => hn env2 σ2 L2 H2 p2 A2 (pr.trans pr2), hr, fun env2 σ2 L2 H2 p2 A2 pr2 => hb env2 σ2 L2 H2 p2 A2 (pr.trans pr2), fun env2 σ2 L2 H2 p2 A2 pr2 => hc env2 σ2 L2 H2 p2 A2 (pr.trans pr2)⟩⟩
/-! return -/
theorem n0_sub {L : List Addr} : ∀ x, F.N0 x → F.N L x := fun x h => .inl h
theorem ret_of {env : De} {σ : L2.St} {L : List Addr} {H H' : Hp} {v : V} {x : D} (A : Abs F env σ L H) (k : KeepW F.W H H') (o : F.W.ok H') (h : Dd F.K (F.N L) F.W H' v x) (nf : F.fr = false) : RetOk F H' v x :=
  ⟨A.kp.trans k, o, h.keep (fun _ _ _ z => z) n0_sub, fun z => by rw [nf] at z; cases z⟩
def sRet (d : TDE) : TDS := fun P env => d env P.rt
theorem ds_ret (nf : F.fr = false) (he : PE X e (lC F d)) : PS X (.Return (some e) pos) (lS F (sRet d)) := PS.mono (ps_ret he) fun E σ H ⟨env, L, P, A, pp, hn, hr, _⟩ =>
  ⟨env, L, _, A, pp, fun x v H' px k o dd => hr x v H' px (ret_of A k o dd nf)⟩
theorem n0_new {L : List Addr} {a : Addr} : ∀ x, F.N [a] x → F.N (a :: L) x := fun x h => by
  rcases h with h | h
  · exact .inl h
  · rcases List.mem_cons.mp h with h | h
    · exact .inr (by rw [h]; exact List.mem_cons_self)
    · cases h
theorem NewV.small {L : List Addr} {H : Hp} {a : Addr} : ∀ {x : D}, NewV F L H a x → NewV F [] H a x
  | .lst ds, ⟨vs, h, g⟩ => ⟨vs, h, g.keep (fun _ _ _ z => z) n0_new⟩
  | .tup ds, ⟨vs, h, g⟩ => ⟨vs, h, g.keep (fun _ _ _ z => z) n0_new⟩
  | .dic ds, ⟨vs, h, e, g⟩ => ⟨vs, h, e, g.keep (fun _ _ _ z => z) n0_new⟩
  | .dct ds, ⟨vs, h, e, g⟩ => ⟨vs, h, e, g.keep (fun _ _ _ z => z) n0_new⟩
theorem ds_retN (he : PE X e (lN F d)) : PS X (.Return (some e) pos) (lS F (sRet d)) := PS.mono (ps_ret he) fun E σ H ⟨env, L, P, A, pp, hn, hr, _⟩ =>
  ⟨env, L, _, A, pp, fun x a H' px k o n nv => hr x _ H' px ⟨A.kp.trans k, o, (nv.dd (A.new n)).keep (fun _ _ _ z => z) n0_sub, fun _ => ⟨a, rfl, free_of A.kp A.ok n, nv.small⟩⟩⟩
/-- return x, x owned -/
def owD : En → Option D
  | .ow ds => some (.lst ds)
  | .od ds => some (.dic ds)
  | .ot ds => some (.dct ds)
  | _ => none
def sRetO (i : Nat) : TDS := fun P env => ob (env[i]?.bind owD) P.rt
/-- an owned thing is new against all but itself -/
theorem ow_new {env : De} {σ : L2.St} {L : List Addr} {H : Hp} (A : Abs F env σ L H) {a : Addr} {e : En} {x : D} (h : EnOk F L H e (some (.ref a))) (hx : owD e = some x) : a ∈ L ∧ NewV F [] H a x := by
  have sub : ∀ y, F.N [a] y → a ∈ L → F.N L y := fun y hy ha => by
    rcases hy with hy | hy
    · exact .inl hy
    · rcases List.mem_cons.mp hy with hy | hy
      · rw [hy]; exact .inr ha
      · cases hy
  cases e with
  | ow ds =>
    cases hx
    obtain ⟨h1, vs, h2, h3⟩ := h
    exact ⟨h1, vs, h2, h3.keep (fun _ _ _ z => z) fun y hy => sub y hy h1⟩
  | od ds =>
    cases hx
    obtain ⟨h1, vs, h2, h4, h3⟩ := h
    exact ⟨h1, vs, h2, h4, h3.keep (fun _ _ _ z => z) fun y hy => sub y hy h1⟩
  | ot ds =>
    cases hx
    obtain ⟨h1, vs, h2, h4, h3⟩ := h
    exact ⟨h1, vs, h2, h4, h3.keep (fun _ _ _ z => z) fun y hy => sub y hy h1⟩
  | _ => cases hx
theorem owD_ref {L : List Addr} {H : Hp} {e : En} {v : V} {x : D} (h : EnOk F L H e (some v)) (hx : owD e = some x) : ∃ a, v = .ref a := by
  cases e <;> try cases hx
  all_goals (cases v <;> first | exact h.elim | exact ⟨_, rfl⟩)
theorem ds_retO {i : Nat} (he : PE X e (tVar i)) : PS X (.Return (some e) pos) (lS F (sRetO i)) := PS.mono (ps_ret he) fun E σ H ⟨env, L, P, A, pp, hn, hr, _⟩ => by
  obtain ⟨x, hx, px⟩ := ob_elim pp
  obtain ⟨en, h1, h2⟩ := Option.bind_eq_some_iff.mp hx
  obtain ⟨v, h3, h4⟩ := abs_at A h1 (by rintro rfl; cases h2)
  obtain ⟨a, rfl⟩ := owD_ref h4 h2
  obtain ⟨h5, h6⟩ := ow_new A h4 h2
  have nw : ¬ F.N [] a := fun z => by
    rcases z with z | z
    · exact A.out h5 z
    · cases z
  exact ⟨_, h3, hr x _ H px ⟨A.kp, A.ok, (h6.dd nw).keep (fun _ _ _ z => z) n0_sub, fun _ => ⟨a, rfl, (A.fr a h5).1, h6⟩⟩⟩
def sRetE : TDS := fun P _ => P.rt .non
theorem ds_retE (nf : F.fr = false) : PS X (.Return none pos) (lS F sRetE) := PS.mono ps_retN fun E σ H ⟨env, L, P, A, pp, hn, hr, _⟩ => hr _ _ H pp ⟨A.kp, A.ok, .non, fun z => by rw [nf] at z; cases z⟩
end
end DL

namespace DL
open PySem PySem.Spec PyProof.Rows L2 RK
section
variable {F : Fx} {env : De} {σ : L2.St} {L : List Addr} {H H' : Hp}
theorem isOw_fz {d : D} : (En.fz d).isOw = false := rfl
/-- a slot takes clean data -/
theorem Abs.setF (A : Abs F env σ L H) {v : V} {x : D} (h : Dd F.K (F.N L) F.W H v x) (i : Nat) : Abs F (env.set i (.fz x)) (σ.set i (some v)) L H := by
  refine ⟨A.ok, A.al, A.wn, A.kp, A.fr, by rw [List.length_set, List.length_set, A.ls], fun j l a ej el h1 h2 o1 o2 s1 s2 => ?_, fun j e y h1 h2 => ?_⟩
  · by_cases hj : i = j
    · subst hj
      by_cases hi : i < env.length
      · rw [List.getElem?_set_self hi] at h1
        cases h1
        cases o1
      · rw [List.getElem?_eq_none (by rw [List.length_set]; omega)] at h1
        cases h1
    · by_cases hl : i = l
      · subst hl
        by_cases hi : i < env.length
        · rw [List.getElem?_set_self hi] at h2
          cases h2
          cases o2
        · rw [List.getElem?_eq_none (by rw [List.length_set]; omega)] at h2
          cases h2
      · rw [List.getElem?_set_ne hj] at h1 s1
        rw [List.getElem?_set_ne hl] at h2 s2
        exact A.sep j l a ej el h1 h2 o1 o2 s1 s2
  · by_cases hj : i = j
    · subst hj
      by_cases hi : i < env.length
      · rw [List.getElem?_set_self hi] at h1
        rw [List.getElem?_set_self (by rw [← A.ls]; exact hi)] at h2
        cases h1
        cases h2
        exact h
      · rw [List.getElem?_eq_none (by rw [List.length_set]; omega)] at h1
        cases h1
    · rw [List.getElem?_set_ne hj] at h1 h2
      exact A.en j e y h1 h2
/-- the state over a larger set of owned things and a later heap -/
theorem Abs.grow (A : Abs F env σ L H) {L' : List Addr} (k : KeepW F.W H H') (o : F.W.ok H') (pr : Pres F L H L' H') (sub : ∀ a ∈ L, a ∈ L') (new : ∀ a ∈ L', a ∈ L ∨ (H a = none ∧ ∃ o, H' a = some o ∧ Plo o)) : Abs F env σ L' H' := by
  have w : ∀ a ∈ L, ¬ F.W.own a := fun a h z => A.out h (A.wn a z)
  refine ⟨o, A.al, A.wn, A.kp.trans k, fun a h => ?_, A.ls, A.sep, fun i e x h1 h2 => ?_⟩
  · rcases new a h with h | ⟨h1, h2⟩
    · obtain ⟨h1, u, h2, pl⟩ := A.fr a h
      exact ⟨h1, u, k a u (w a h) h2, pl⟩
    · exact ⟨free_of A.kp A.ok h1, h2⟩
  · have q := A.en i e x h1 h2
    cases e with
    | no => exact trivial
    | fz d => cases x with
      | none => exact q.elim
      | some v => exact Dd.pres pr q
    | ow ds => cases x with
      | none => exact q.elim
      | some v => cases v with
        | ref a =>
          obtain ⟨q1, vs, q2, q3⟩ := q
          exact ⟨sub a q1, vs, k a _ (w a q1) q2, q3.pres pr⟩
        | _ => exact q.elim
    | od ds => cases x with
      | none => exact q.elim
      | some v => cases v with
        | ref a =>
          obtain ⟨q1, vs, q2, q4, q3⟩ := q
          exact ⟨sub a q1, vs, k a _ (w a q1) q2, q4, q3.pres pr⟩
        | _ => exact q.elim
    | ot ds => cases x with
      | none => exact q.elim
      | some v => cases v with
        | ref a =>
          obtain ⟨q1, vs, q2, q4, q3⟩ := q
          exact ⟨sub a q1, vs, k a _ (w a q1) q2, q4, q3.pres pr⟩
        | _ => exact q.elim
theorem pres_cons (A : Abs F env σ L H) (k : KeepW F.W H H') {a : Addr} (n : H a = none) : Pres F L H (a :: L) H' := fun x o q h => ⟨fun z => by
  rcases z with z | z
  · exact q (.inl z)
  · rcases List.mem_cons.mp z with z | z
    · rw [z, n] at h
      cases h
    · exact q (.inr z), k x o (nw_of A q) h⟩
theorem new_there {F : Fx} {L : List Addr} {H : Hp} {a : Addr} : ∀ {x : D}, NewV F L H a x → ∃ o, H a = some o ∧ Plo o
  | .lst ds, ⟨vs, h, _⟩ => ⟨_, h, True.intro⟩
  | .tup ds, ⟨vs, h, _⟩ => ⟨_, h, True.intro⟩
  | .dic ds, ⟨vs, h, _⟩ => ⟨_, h, True.intro⟩
  | .dct ds, ⟨vs, h, _⟩ => ⟨_, h, True.intro⟩
def enOf : D → Option En
  | .lst xs => some (.ow xs)
  | .dic xs => some (.od xs)
  | .dct xs => some (.ot xs)
  | _ => none
theorem en_new {a : Addr} : ∀ {x : D} {e : En}, NewV F L H a x → enOf x = some e → EnOk F (a :: L) H e (some (.ref a)) ∧ e.isOw = true
  | .lst xs, _, ⟨vs, h, g⟩, q => by cases q; exact ⟨⟨List.mem_cons_self, vs, h, g⟩, rfl⟩
  | .dic xs, _, ⟨vs, h, e, g⟩, q => by cases q; exact ⟨⟨List.mem_cons_self, vs, h, e, g⟩, rfl⟩
  | .dct xs, _, ⟨vs, h, e, g⟩, q => by cases q; exact ⟨⟨List.mem_cons_self, vs, h, e, g⟩, rfl⟩
/-- an owned thing's address is that of one slot alone: a new one has none yet -/
theorem Abs.setO (A : Abs F env σ L H) (k : KeepW F.W H H') (o : F.W.ok H') {a : Addr} {x : D} {e : En} (n : H a = none) (h : NewV F L H' a x) (he : enOf x = some e) (i : Nat) : Abs F (env.set i e) (σ.set i (some (.ref a))) (a :: L) H' := by
  have pr := pres_cons A k n
  have B : Abs F env σ (a :: L) H' := A.grow k o pr (fun b hb => List.mem_cons_of_mem _ hb) fun b hb => by
    rcases List.mem_cons.mp hb with hb | hb
    · exact .inr ⟨hb ▸ n, hb ▸ new_there h⟩
    · exact .inl hb
  obtain ⟨en, ow⟩ := en_new h he
  have no : ∀ (j : Nat) (ej : En), env[j]? = some ej → ej.isOw = true → σ[j]? = some (some (.ref a)) → False := fun j ej h1 h2 h3 => by
    have q := A.en j ej _ h1 h3
    have al : a ∈ L := by
      cases ej with
      | ow _ => exact q.1
      | od _ => exact q.1
      | ot _ => exact q.1
      | no => cases h2
      | fz _ => cases h2
    obtain ⟨_, u, hu, _⟩ := A.fr a al
    rw [n] at hu
    cases hu
  refine ⟨B.ok, B.al, B.wn, B.kp, B.fr, by rw [List.length_set, List.length_set, A.ls], fun j l b ej el h1 h2 o1 o2 s1 s2 => ?_, fun j e' y h1 h2 => ?_⟩
  · by_cases hi : i < env.length
    · have hi2 : i < σ.length := by rw [← A.ls]; exact hi
      by_cases hj : i = j
      · by_cases hl : i = l
        · omega
        · subst hj
          rw [List.getElem?_set_self hi2] at s1
          cases s1
          rw [List.getElem?_set_ne hl] at h2 s2
          exact (no l el h2 o2 s2).elim
      · rw [List.getElem?_set_ne hj] at h1 s1
        by_cases hl : i = l
        · subst hl
          rw [List.getElem?_set_self hi2] at s2
          cases s2
          exact (no j ej h1 o1 s1).elim
        · rw [List.getElem?_set_ne hl] at h2 s2
          exact A.sep j l b ej el h1 h2 o1 o2 s1 s2
    · have e1 : env.set i e = env := List.set_eq_of_length_le (by omega)
      have e2 : σ.set i (some (V.ref a)) = σ := List.set_eq_of_length_le (by rw [← A.ls]; omega)
      rw [e1] at h1 h2
      rw [e2] at s1 s2
      exact A.sep j l b ej el h1 h2 o1 o2 s1 s2
  · by_cases hj : i = j
    · subst hj
      by_cases hi : i < env.length
      · rw [List.getElem?_set_self hi] at h1
        rw [List.getElem?_set_self (by rw [← A.ls]; exact hi)] at h2
        cases h1
        cases h2
        exact en
      · rw [List.getElem?_eq_none (by rw [List.length_set]; omega)] at h1
        cases h1
    · rw [List.getElem?_set_ne hj] at h1 h2
      exact B.en j e' y h1 h2
/-- an owned thing is changed -/
theorem Abs.write (A : Abs F env σ L H) {i : Nat} {a : Addr} {e e' : En} {o' : HO} (hi : env[i]? = some e) (ow : e.isOw = true) (hs : σ[i]? = some (some (.ref a))) (ha : a ∈ L) (ow' : e'.isOw = true)
    (new : EnOk F L (upd H a o') e' (some (.ref a))) (po : Plo o' := by exact True.intro) : Abs F (env.set i e') σ L (upd H a o') ∧ Pres F L H L (upd H a o') := by
  have na : ¬ F.N0 a := A.out ha
  have nw : ¬ F.W.own a := fun z => na (A.wn a z)
  have pr : Pres F L H L (upd H a o') := fun x u q h => ⟨q, by
    have ne : x ≠ a := fun z => q (.inr (by rw [z]; exact ha))
    rw [upd_ne ne]
    exact h⟩
  have hil : i < env.length := (List.getElem?_eq_some_iff.mp hi).1
  refine ⟨⟨?_, A.al, A.wn, fun x u q h => ?_, fun b hb => ?_, by rw [List.length_set, A.ls], fun j l b ej el h1 h2 o1 o2 s1 s2 => ?_, fun j e2 y h1 h2 => ?_⟩, pr⟩
  · exact Wd.st A.ok (n := noT_upd po.ntb) fun b u h q => by
      have ne : b ≠ a := fun z => by
        rcases q with q | q
        · exact nw (by rw [← z]; exact q)
        · obtain ⟨_, o, e, pl⟩ := A.fr a ha
          rw [z, e] at h
          exact q (Option.some.inj h ▸ pl)
      rw [upd_ne ne]
      exact h
  · have hx := A.kp x u q h
    have ne : x ≠ a := fun z => by
      rw [z, (A.fr a ha).1] at h
      cases h
    rw [upd_ne ne]
    exact hx
  · refine ⟨(A.fr b hb).1, ?_⟩
    by_cases e : b = a
    · subst e
      exact ⟨_, upd_same, po⟩
    · rw [upd_ne e]
      exact (A.fr b hb).2
  · have f1 : ∀ (j : Nat) (ej : En), (env.set i e')[j]? = some ej → ej.isOw = true → ∃ e0 : En, env[j]? = some e0 ∧ e0.isOw = true := fun j ej h o => by
      by_cases hj : i = j
      · subst hj
        exact ⟨e, hi, ow⟩
      · rw [List.getElem?_set_ne hj] at h
        exact ⟨ej, h, o⟩
    obtain ⟨e1, g1, g2⟩ := f1 j ej h1 o1
    obtain ⟨e3, g3, g4⟩ := f1 l el h2 o2
    exact A.sep j l b e1 e3 g1 g3 g2 g4 s1 s2
  · by_cases hj : i = j
    · subst hj
      rw [List.getElem?_set_self hil] at h1
      cases h1
      rw [hs] at h2
      cases h2
      exact new
    · rw [List.getElem?_set_ne hj] at h1
      refine EnOk.keep A (fun x u q h => (pr x u q h).2) (fun _ z => z) (fun b hb ob hbL => ⟨hbL, fun u hu => ?_⟩) (A.en j e2 y h1 h2)
      have : b ≠ a := fun z => hj (A.sep i j a e e2 hi h1 ow ob hs (by rw [h2, hb, z]))
      rw [upd_ne this]
      exact hu
end
end DL

namespace DL
open PySem PySem.Spec PyProof.Rows L2 RK
section
variable {F : Fx} {env : De} {σ : L2.St} {L : List Addr} {H H' : Hp}
/-- no slot owns what is at a -/
def Lone (env : De) (σ : L2.St) (a : Addr) : Prop := ∀ (j : Nat) (ej : En), env[j]? = some ej → ej.isOw = true → σ[j]? = some (some (.ref a)) → False
theorem Abs.lone (A : Abs F env σ L H) {a : Addr} (n : H a = none) : Lone env σ a := fun j ej h1 h2 h3 => by
  have q := A.en j ej _ h1 h3
  have al : a ∈ L := by
    cases ej with
    | ow _ => exact q.1
    | od _ => exact q.1
    | ot _ => exact q.1
    | no => cases h2
    | fz _ => cases h2
  obtain ⟨_, u, hu, _⟩ := A.fr a al
  rw [n] at hu
  cases hu
theorem Abs.setW (A : Abs F env σ L H) {a : Addr} {e : En} (no : Lone env σ a) (en : EnOk F L H e (some (.ref a))) (i : Nat) : Abs F (env.set i e) (σ.set i (some (.ref a))) L H := by
  refine ⟨A.ok, A.al, A.wn, A.kp, A.fr, by rw [List.length_set, List.length_set, A.ls], fun j l b ej el h1 h2 o1 o2 s1 s2 => ?_, fun j e' y h1 h2 => ?_⟩
  · by_cases hi : i < env.length
    · have hi2 : i < σ.length := by rw [← A.ls]; exact hi
      by_cases hj : i = j
      · by_cases hl : i = l
        · omega
        · subst hj
          rw [List.getElem?_set_self hi2] at s1
          cases s1
          rw [List.getElem?_set_ne hl] at h2 s2
          exact (no l el h2 o2 s2).elim
      · rw [List.getElem?_set_ne hj] at h1 s1
        by_cases hl : i = l
        · subst hl
          rw [List.getElem?_set_self hi2] at s2
          cases s2
          exact (no j ej h1 o1 s1).elim
        · rw [List.getElem?_set_ne hl] at h2 s2
          exact A.sep j l b ej el h1 h2 o1 o2 s1 s2
    · have e1 : env.set i e = env := List.set_eq_of_length_le (by omega)
      have e2 : σ.set i (some (V.ref a)) = σ := List.set_eq_of_length_le (by rw [← A.ls]; omega)
      rw [e1] at h1 h2
      rw [e2] at s1 s2
      exact A.sep j l b ej el h1 h2 o1 o2 s1 s2
  · by_cases hj : i = j
    · subst hj
      by_cases hi : i < env.length
      · rw [List.getElem?_set_self hi] at h1
        rw [List.getElem?_set_self (by rw [← A.ls]; exact hi)] at h2
        cases h1
        cases h2
        exact en
      · rw [List.getElem?_eq_none (by rw [List.length_set]; omega)] at h1
        cases h1
    · rw [List.getElem?_set_ne hj] at h1 h2
      exact A.en j e' y h1 h2
theorem Lone.setF {a : Addr} (h : Lone env σ a) (i : Nat) (x : D) (v : V) (l : env.length = σ.length) : Lone (env.set i (.fz x)) (σ.set i (some v)) a := fun j ej h1 h2 h3 => by
  by_cases hj : i = j
  · subst hj
    by_cases hi : i < env.length
    · rw [List.getElem?_set_self hi] at h1
      cases h1
      cases h2
    · rw [List.getElem?_eq_none (by rw [List.length_set]; omega)] at h1
      cases h1
  · rw [List.getElem?_set_ne hj] at h1 h3
    exact h j ej h1 h2 h3
theorem Lone.setW {a b : Addr} (h : Lone env σ a) (i : Nat) (e : En) (n : b ≠ a) (l : env.length = σ.length) : Lone (env.set i e) (σ.set i (some (.ref b))) a := fun j ej h1 h2 h3 => by
  by_cases hj : i = j
  · subst hj
    by_cases hi : i < env.length
    · rw [List.getElem?_set_self (by rw [← l]; exact hi)] at h3
      cases h3
      exact n rfl
    · rw [List.getElem?_eq_none (by rw [List.length_set]; omega)] at h1
      cases h1
  · rw [List.getElem?_set_ne hj] at h1 h3
    exact h j ej h1 h2 h3
/-- behind a new thing that is to be owned, not yet in a slot -/
theorem Abs.hold (A : Abs F env σ L H) (k : KeepW F.W H H') (o : F.W.ok H') {a : Addr} {x : D} (n : H a = none) (h : NewV F L H' a x) : Abs F env σ (a :: L) H' :=
  A.grow k o (pres_cons A k n) (fun b hb => List.mem_cons_of_mem _ hb) fun b hb => by
    rcases List.mem_cons.mp hb with hb | hb
    · exact .inr ⟨hb ▸ n, hb ▸ new_there h⟩
    · exact .inl hb
theorem NewV.step {a : Addr} (A : Abs F env σ (a :: L) H) (k : KeepW F.W H H') : ∀ {x : D}, NewV F L H a x → NewV F L H' a x := fun {x} h => by
  have w : ¬ F.W.own a := fun z => A.out List.mem_cons_self (A.wn a z)
  cases x with
  | lst ds => obtain ⟨vs, h1, h2⟩ := h; exact ⟨vs, k a _ w h1, A.kda k h2⟩
  | tup ds => obtain ⟨vs, h1, h2⟩ := h; exact ⟨vs, k a _ w h1, A.kda k h2⟩
  | dic ds => obtain ⟨vs, h1, h3, h2⟩ := h; exact ⟨vs, k a _ w h1, h3, A.kda k h2⟩
  | dct ds => obtain ⟨vs, h1, h3, h2⟩ := h; exact ⟨vs, k a _ w h1, h3, A.kda k h2⟩
  | _ => exact h
end
/-! ### assignments -/
def sSet (i : Nat) (d : TDE) : TDS := fun P env => d env fun x => P.nx (env.set i (.fz x))
def sSetO (i : Nat) (d : TDE) : TDS := fun P env => d env fun x => ob (enOf x) fun e => P.nx (env.set i e)
def sDrop (d : TDE) : TDS := fun P env => d env fun _ => P.nx env
section
variable {X : Cx} {F : Fx} {e a b c : Expr} {es : List Expr} {d da db dc : TDE} {ds : TDA} {pos p : Pos} {i j l : Nat}
theorem l_setF {t : TE} (h : ∀ σ H Q, lC F d σ H Q → t σ H Q) : ∀ E σ H, lS F (sSet i d) E σ H → tAsg t (gName i) E σ H := fun E σ H ⟨env, L, P, A, pp, hn, _⟩ =>
  h σ H _ ⟨env, L, _, A, pp, fun x v H1 px k o dd => hn _ _ L H1 px ((A.step k o).setF dd i) (k.pres A)⟩
theorem l_setO {t : TE} (h : ∀ σ H Q, lN F d σ H Q → t σ H Q) : ∀ E σ H, lS F (sSetO i d) E σ H → tAsg t (gName i) E σ H := fun E σ H ⟨env, L, P, A, pp, hn, _⟩ =>
  h σ H _ ⟨env, L, _, A, pp, fun x v H1 px k o n dd => by
    obtain ⟨en, he, pn⟩ := ob_elim px
    exact hn _ _ _ H1 pn (A.setO k o n dd he i) (pres_cons A k n)⟩
theorem ds_set {x : Str} {pos' : Pos} (hN : X.N.Nodup) (hi : X.N[i]? = some x) (hx : Loc X.env.scope x) (he : PE X e (lC F d)) (hs : swapsWith e (some (.Name x pos')) pos.line X.env = pure false := by rfl) (hf : X.fn x = true ∨ X.env.scope.names.lookup x = some .local := by first | exact .inl rfl | exact .inr rfl | assumption) :
    PS X (.Assign [.Name x pos'] e pos) (lS F (sSet i d)) := PS.mono (ps_set hN hi hx he hs hf) (l_setF fun _ _ _ h => h)
theorem ds_setO {x : Str} {pos' : Pos} (hN : X.N.Nodup) (hi : X.N[i]? = some x) (hx : Loc X.env.scope x) (he : PE X e (lN F d)) (hs : swapsWith e (some (.Name x pos')) pos.line X.env = pure false := by rfl) (hf : X.fn x = true ∨ X.env.scope.names.lookup x = some .local := by first | exact .inl rfl | exact .inr rfl | assumption) :
    PS X (.Assign [.Name x pos'] e pos) (lS F (sSetO i d)) := PS.mono (ps_set hN hi hx he hs hf) (l_setO fun _ _ _ h => h)
theorem ds_expr (he : PE X e (lC F d)) (hs : swapsWith e none pos.line X.env = pure false := by rfl) : PS X (.Expr e pos) (lS F (sDrop d)) := PS.mono (ps_expr he hs) fun E σ H ⟨env, L, P, A, pp, hn, _⟩ =>
  ⟨env, L, _, A, pp, fun x v H1 px k o dd => hn env σ L H1 px (A.step k o) (k.pres A)⟩
/-! targets -/
abbrev TDG := D → De → (De → Prop) → Prop
abbrev TDGs := List D → De → (De → Prop) → Prop
def lG (F : Fx) (S : List Nat) (g : TDG) : TG := fun v σ H Q => ∃ env L x P, Abs F env σ L H ∧ Dd F.K (F.N L) F.W H v x ∧ g x env P ∧ ∀ env' σ', P env' → Abs F env' σ' L H → (∀ vs : List Nat, (∀ i ∈ S, i ∈ vs) → wipe σ' vs = wipe σ vs) → (∀ a, Lone env σ a → Lone env' σ' a) → Q σ' H
def lGs (F : Fx) (S : List Nat) (g : TDGs) : TGs := fun vs σ H Q => ∃ env L xs P, Abs F env σ L H ∧ DdAll F.K (F.N L) F.W H vs xs ∧ g xs env P ∧ ∀ env' σ', P env' → Abs F env' σ' L H → (∀ us : List Nat, (∀ i ∈ S, i ∈ us) → wipe σ' us = wipe σ us) → (∀ a, Lone env σ a → Lone env' σ' a) → Q σ' H
theorem wipe_set {σ : L2.St} {i : Nat} {v : Option V} : ∀ {vs : List Nat}, i ∈ vs → wipe (σ.set i v) vs = wipe σ vs
  | [], h => by cases h
  | w :: vs, h => by
    unfold wipe
    by_cases hw : i ∈ vs
    · rw [wipe_set hw]
    · have e : i = w := by
        rcases List.mem_cons.mp h with h | h
        · exact h
        · exact (hw h).elim
      subst e
      have comm : ∀ us : List Nat, i ∉ us → wipe (σ.set i v) us = (wipe σ us).set i v := by
        intro us
        induction us with
        | nil => intro _; rfl
        | cons u us ih =>
          intro hu
          unfold wipe
          rw [ih (fun z => hu (List.mem_cons_of_mem _ z)), List.set_comm]
          exact fun z => hu (by rw [z]; exact List.mem_cons_self)
      rw [comm vs hw, List.set_set]
theorem PG.mono {tg : Expr} {t t' : TG} (h : PG X tg t) (m : ∀ v σ H Q, t' v σ H Q → t v σ H Q) : PG X tg t' := ⟨fun pins s σ H v u Q I r q => h.run pins s σ H v u Q I r (m v σ H Q q)⟩
theorem PGs.mono {tg : List Expr} {t t' : TGs} (h : PGs X tg t) (m : ∀ v σ H Q, t' v σ H Q → t v σ H Q) : PGs X tg t' := ⟨fun pins s σ H v u Q I r q => h.run pins s σ H v u Q I r (m v σ H Q q)⟩
def gNm (i : Nat) : TDG := fun x env P => P (env.set i (.fz x))
theorem dg_name {x : Str} (hN : X.N.Nodup) (hi : X.N[i]? = some x) (hx : Loc X.env.scope x) (hf : X.fn x = true ∨ X.env.scope.names.lookup x = some .local := by first | exact .inl rfl | exact .inr rfl | assumption) : PG X (.Name x pos) (lG F [i] (gNm i)) :=
  PG.mono (pg_name hN hi hx hf) fun v σ H Q ⟨env, L, x, P, A, dd, g, q⟩ => q _ _ g (A.setF dd i) (fun vs h => wipe_set (h i List.mem_cons_self)) fun a h => h.setF i _ _ A.ls
def gsNil : TDGs := fun xs env P => xs = [] ∧ P env
def gsCons (g : TDG) (gs : TDGs) : TDGs := fun xs env P => match xs with | x :: r => g x env fun env' => gs r env' P | [] => False
theorem dgs_nil : PGs X [] (lGs F [] gsNil) := PGs.mono pgs_nil fun vs σ H Q ⟨env, L, xs, P, A, dd, g, q⟩ => by
  obtain ⟨rfl, g⟩ := g
  cases dd
  exact ⟨rfl, q env σ g A (fun _ _ => rfl) fun _ h => h⟩
theorem l_gcons {S S' : List Nat} {g : TDG} {gs : TDGs} : ∀ vs σ H Q, lGs F (S ++ S') (gsCons g gs) vs σ H Q → gCons (lG F S g) (lGs F S' gs) vs σ H Q := fun vs σ H Q ⟨env, L, xs, P, A, dd, gg, q⟩ => by
    cases dd with
    | nil => exact gg.elim
    | cons h t =>
      refine ⟨_, _, rfl, env, L, _, _, A, h, gg, fun env1 σ1 p1 A1 w1 n1 => ⟨env1, L, _, _, A1, t, p1, fun env2 σ2 p2 A2 w2 n2 => q env2 σ2 p2 A2 (fun us hu => ?_) fun a h => n2 a (n1 a h)⟩⟩
      rw [w2 us (fun i hi => hu i (List.mem_append_right _ hi)), w1 us (fun i hi => hu i (List.mem_append_left _ hi))]
def gTp (n : Nat) (gs : TDGs) : TDG := fun x env P => match x with | .tup xs => xs.length = n ∧ gs xs env P | _ => False
theorem l_gtup {S : List Nat} {n : Nat} {gs : TDGs} {K : PySem.W.Frag} (hK : F.K = K) : ∀ v σ H Q, lG F S (gTp n gs) v σ H Q → gTup K n (lGs F S gs) v σ H Q := fun v σ H Q ⟨env, L, x, P, A, dd, g, q⟩ => by
  cases x with
  | tup xs =>
    obtain ⟨a, vs, rfl, h1, _, h2⟩ := dd_tupE dd
    exact ⟨a, vs, rfl, SqT.of h1, h2.len.trans g.1, env, L, xs, P, A, h2, g.2, q⟩
  | _ => exact g.elim
def sAsg (d : TDE) (g : TDG) : TDS := fun P env => d env fun x => g x env P.nx
theorem l_asg {S : List Nat} {g : TDG} : ∀ E σ H, lS F (sAsg d g) E σ H → tAsg (lC F d) (lG F S g) E σ H := fun E σ H ⟨env, L, P, A, pp, hn, _⟩ =>
  ⟨env, L, _, A, pp, fun x v H1 px k o dd => ⟨env, L, x, _, A.step k o, dd, px, fun env' σ' p' A' _ _ => hn env' σ' L H1 p' A' (k.pres A)⟩⟩
/-! x, y = a, b -/
def kn : Bool → D → Option En
  | true, x => enOf x
  | false, x => some (.fz x)
def sPar (i j : Nat) (ki kj : Bool) (da db : TDE) : TDS := fun P env => da env fun x => db env fun y => ob (kn ki x) fun ex => ob (kn kj y) fun ey => P.nx ((env.set i ex).set j ey)
theorem l_par : ∀ E σ H, lS F (sPar i j false false da db) E σ H → tPar i j (tCons (lC F da) (tCons (lC F db) tNil)) E σ H := fun E σ H ⟨env, L, P, A, pp, hn, _⟩ =>
  ⟨env, L, _, A, pp, fun x v H1 px k1 o1 d1 => ⟨env, L, _, A.step k1 o1, px, fun y u H2 py k2 o2 d2 => ⟨v, u, rfl, hn _ _ L H2 py ((((A.step k1 o1).step k2 o2).setF ((A.step k1 o1).kd k2 d1) i).setF d2 j) ((k1.trans k2).pres A)⟩⟩⟩
theorem l_parR : ∀ E σ H, lS F (sPar i j false true da db) E σ H → tPar i j (tCons (lC F da) (tCons (lN F db) tNil)) E σ H := fun E σ H ⟨env, L, P, A, pp, hn, _⟩ =>
  ⟨env, L, _, A, pp, fun x v H1 px k1 o1 d1 => ⟨env, L, _, A.step k1 o1, px, fun y a H2 py k2 o2 n2 d2 => by
    obtain ⟨ex, he0, pn⟩ := ob_elim py
    cases he0
    obtain ⟨ey, he, pn⟩ := ob_elim pn
    have A1 := A.step k1 o1
    have B := A1.hold k2 o2 n2 d2
    have pr := pres_cons A1 k2 n2
    exact ⟨v, _, rfl, hn _ _ _ H2 pn ((B.setF (d1.pres pr) i).setW ((A1.lone n2).setF i x v A.ls) (en_new d2 he).1 j) ((k1.pres A).trans pr)⟩⟩⟩
theorem l_parL : ∀ E σ H, lS F (sPar i j true false da db) E σ H → tPar i j (tCons (lN F da) (tCons (lC F db) tNil)) E σ H := fun E σ H ⟨env, L, P, A, pp, hn, _⟩ =>
  ⟨env, L, _, A, pp, fun x a H1 px k1 o1 n1 d1 => by
    have B := A.hold k1 o1 n1 d1
    have pr := pres_cons A k1 n1
    exact ⟨env, a :: L, _, B, px, fun y u H2 py k2 o2 d2 => by
      obtain ⟨ex, he, pn⟩ := ob_elim py
      obtain ⟨ey, he0, pn⟩ := ob_elim pn
      cases he0
      have B2 := B.step k2 o2
      have nv := d1.step B k2
      refine ⟨_, u, rfl, hn _ _ _ H2 pn ((B2.setW (A.lone n1) (en_new nv he).1 i).setF d2 j) (pr.trans (k2.pres B))⟩⟩⟩
theorem l_parLR : ∀ E σ H, lS F (sPar i j true true da db) E σ H → tPar i j (tCons (lN F da) (tCons (lN F db) tNil)) E σ H := fun E σ H ⟨env, L, P, A, pp, hn, _⟩ =>
  ⟨env, L, _, A, pp, fun x a H1 px k1 o1 n1 d1 => by
    have B := A.hold k1 o1 n1 d1
    have pr := pres_cons A k1 n1
    exact ⟨env, a :: L, _, B, px, fun y u H2 py k2 o2 n2 d2 => by
      obtain ⟨ex, he, pn⟩ := ob_elim py
      obtain ⟨ey, he2, pn⟩ := ob_elim pn
      have B2 := B.hold k2 o2 n2 d2
      have pr2 := pres_cons B k2 n2
      have ne : a ≠ u := fun z => by
        obtain ⟨o, ho, _⟩ := new_there d1
        rw [z, n2] at ho
        cases ho
      have nv := d1.step B k2
      have ea := (en_new nv he).1
      have ea2 : EnOk F (u :: a :: L) H2 ex (some (.ref a)) := by
        cases ex with
        | no => trivial
        | fz d => cases x <;> cases he
        | ow xs => obtain ⟨q1, vs, q2, q3⟩ := (en_new d1 he).1; exact ⟨List.mem_cons_of_mem _ q1, vs, k2 a _ (fun z => B.out List.mem_cons_self (B.wn a z)) q2, q3.pres pr2⟩
        | od xs => obtain ⟨q1, vs, q2, q4, q3⟩ := (en_new d1 he).1; exact ⟨List.mem_cons_of_mem _ q1, vs, k2 a _ (fun z => B.out List.mem_cons_self (B.wn a z)) q2, q4, q3.pres pr2⟩
        | ot xs => obtain ⟨q1, vs, q2, q4, q3⟩ := (en_new d1 he).1; exact ⟨List.mem_cons_of_mem _ q1, vs, k2 a _ (fun z => B.out List.mem_cons_self (B.wn a z)) q2, q4, q3.pres pr2⟩
      exact ⟨_, _, rfl, hn _ _ _ H2 pn ((B2.setW (A.lone n1) ea2 i).setW ((B.lone n2).setW i ex ne A.ls) (en_new d2 he2).1 j) (pr.trans pr2)⟩⟩⟩
end
end DL

namespace DL
open PySem PySem.Spec PyProof.Rows L2 RK
/-! ### methods that change an owned list -/
section
variable {X : Cx} {F : Fx} {e a b c o : Expr} {es : List Expr} {d da db dc : TDE} {ds : TDA} {pos p apos cpos : Pos} {i j l : Nat}
/-- the owned list in slot i -/
def owAt (env : De) (i : Nat) : Option (List D) := env[i]?.bind fun e => match e with | .ow xs => some xs | _ => none
theorem owAt_en {env : De} {i : Nat} {xs : List D} (h : owAt env i = some xs) : env[i]? = some (.ow xs) := by
  obtain ⟨e, h1, h2⟩ := Option.bind_eq_some_iff.mp h
  cases e <;> cases h2
  exact h1
theorem ow_get {env : De} {σ : L2.St} {L : List Addr} {H : Hp} (A : Abs F env σ L H) {xs : List D} (h : owAt env i = some xs) : ∃ a vs, σ[i]? = some (some (.ref a)) ∧ a ∈ L ∧ H a = some (.lst vs) ∧ DdAll F.K (F.N L) F.W H vs xs := by
  obtain ⟨v, h1, h2⟩ := abs_at A (owAt_en h) (by intro z; cases z)
  cases v with
  | ref a => obtain ⟨q1, vs, q2, q3⟩ := h2; exact ⟨a, vs, h1, q1, q2, q3⟩
  | _ => exact h2.elim
theorem ow_put {env : De} {σ : L2.St} {L : List Addr} {H : Hp} (A : Abs F env σ L H) {xs ys : List D} (h : owAt env i = some xs) {a : Addr} (hs : σ[i]? = some (some (.ref a))) (ha : a ∈ L) {us : List V} (hu : DdAll F.K (F.N L) F.W H us ys) :
    Abs F (env.set i (.ow ys)) σ L (upd H a (.lst us)) ∧ Pres F L H L (upd H a (.lst us)) := by
  refine A.write (owAt_en h) rfl hs ha rfl ⟨ha, us, upd_same, hu.keep (fun x u q h => ?_) fun _ z => z⟩
  have ne : x ≠ a := fun z => q (.inr (by rw [z]; exact ha))
  rw [upd_ne ne]
  exact h
def sApp (i : Nat) (d : TDE) : TDS := fun P env => ob (owAt env i) fun xs => d env fun x => xs.length < sizeLine ∧ P.nx (env.set i (.ow (xs ++ [x])))
theorem l_app {K : PySem.W.Frag} : ∀ E σ H, lS F (sApp i d) E σ H → tDrop (tBM K "list" rAppend (tVar i) (tCons (lC F d) tNil)) E σ H := fun E σ H ⟨env, L, P, A, pp, hn, _⟩ => by
  obtain ⟨xs, h, pp⟩ := ob_elim pp
  obtain ⟨a, vs, hs, ha, hv, hd⟩ := ow_get A h
  refine ⟨_, hs, .inl ⟨rfl, vs, SqL.of hv⟩, env, L, _, A, pp, fun x v H1 px k1 o1 d1 => ?_⟩
  have A1 := A.step k1 o1
  obtain ⟨a2, vs2, hs2, ha2, hv2, hd2⟩ := ow_get A1 h
  rw [hs] at hs2
  cases hs2
  obtain ⟨B, pr⟩ := ow_put A1 h hs ha2 (hd2.app (.cons d1 .nil))
  exact ⟨a, vs2, v, rfl, rfl, hv2, by rw [hd2.len]; exact px.1, hn _ _ _ _ px.2 B ((k1.pres A).trans pr)⟩
theorem ds_app (ho : PE X o (tVar i)) (he : PE X e (lC F d)) (hbase : attributeBase o "append" X.env (eval o X.env) = eval o X.env := by rfl)
    (hfew : ((backTo cpos (starEach [e] X.env)).all (fun x => !x.1) && (backToKw cpos (keywordEach [] X.env)).all (fun x => x.1.isSome) && decide (([e] : List Expr).length + ([] : List Keyword).length + (if ([] : List Keyword).isEmpty then 0 else 1) < 30)) = true := by rfl)
    (hline : (apos.endLine == cpos.line) = true := by rfl) (hs : starEach [e] X.env = (false, eval e X.env) :: starEach [] X.env := by rfl) (hplain : (backTo cpos (starEach [] X.env)).any (·.1) = false := by rfl)
    (hsw : swapsWith (.Call (.Attribute o "append" apos) [e] [] cpos) none pos.line X.env = pure false := by rfl) :
    PS X (.Expr (.Call (.Attribute o "append" apos) [e] [] cpos) pos) (lS F (sApp i d)) := PS.mono (ps_expr (pe_bm PySem.F.plainAttrs_list PySem.F.slot_list_append PySem.F.type_list_append mt_append ho (pa_cons he pa_nil hs) hbase hfew hline hs hplain) hsw) l_app
def sIns (i : Nat) (da db : TDE) : TDS := fun P env => ob (owAt env i) fun xs => da env fun y => db env fun x => match y with
  | .int n => xs.length < sizeLine ∧ 0 ≤ n ∧ n < 2 ^ 63 ∧ P.nx (env.set i (.ow (xs.take n.toNat ++ [x] ++ xs.drop n.toNat)))
  | _ => False
theorem ds_ins (ho : PE X o (tVar i)) (ha : PE X a (lC F da)) (hb : PE X b (lC F db)) (hbase : attributeBase o "insert" X.env (eval o X.env) = eval o X.env := by rfl)
    (hfew : ((backTo cpos (starEach [a, b] X.env)).all (fun x => !x.1) && (backToKw cpos (keywordEach [] X.env)).all (fun x => x.1.isSome) && decide (([a, b] : List Expr).length + ([] : List Keyword).length + (if ([] : List Keyword).isEmpty then 0 else 1) < 30)) = true := by rfl)
    (hline : (apos.endLine == cpos.line) = true := by rfl) (hs : starEach [a, b] X.env = (false, eval a X.env) :: starEach [b] X.env := by rfl) (hs2 : starEach [b] X.env = (false, eval b X.env) :: starEach [] X.env := by rfl) (hplain : (backTo cpos (starEach [b] X.env)).any (·.1) = false := by rfl)
    (hsw : swapsWith (.Call (.Attribute o "insert" apos) [a, b] [] cpos) none pos.line X.env = pure false := by rfl) :
    PS X (.Expr (.Call (.Attribute o "insert" apos) [a, b] [] cpos) pos) (lS F (sIns i da db)) := PS.mono (ps_expr (pe_bm PySem.F.plainAttrs_list PySem.F.slot_list_insert PySem.F.type_list_insert mt_insert ho (pa_cons ha (pa_cons hb pa_nil hs2) hs) hbase hfew hline hs hplain) hsw) fun E σ H ⟨env, L, P, A, pp, hn, _⟩ => by
  obtain ⟨xs, h, pp⟩ := ob_elim pp
  obtain ⟨t, vs, hs, ha, hv, hd⟩ := ow_get A h
  refine ⟨_, hs, .inl ⟨rfl, vs, SqL.of hv⟩, env, L, _, A, pp, fun y w H1 px k1 o1 d1 => ⟨env, L, _, A.step k1 o1, px, fun x v H2 px k2 o2 d2 => ?_⟩⟩
  cases y with
  | int n =>
    cases d1
    have A2 := (A.step k1 o1).step k2 o2
    obtain ⟨a2, vs2, hs2, ha2, hv2, hd2⟩ := ow_get A2 h
    rw [hs] at hs2
    cases hs2
    obtain ⟨B, pr⟩ := ow_put A2 h hs ha2 (((hd2.take n.toNat).app (.cons d2 .nil)).app (hd2.drop n.toNat))
    exact ⟨t, vs2, n, v, rfl, rfl, hv2, by rw [hd2.len]; exact px.1, px.2.1, px.2.2.1, hn _ _ _ _ px.2.2.2 B (((k1.trans k2).pres A).trans pr)⟩
  | _ => exact px.elim
def sExt (i : Nat) (d : TDE) : TDS := fun P env => ob (owAt env i) fun xs => d env fun x => match x with | .lst ys => xs.length + ys.length ≤ sizeLine ∧ P.nx (env.set i (.ow (xs ++ ys))) | _ => False
theorem ds_ext (ho : PE X o (tVar i)) (he : PE X e (lB F d)) (hbase : attributeBase o "extend" X.env (eval o X.env) = eval o X.env := by rfl)
    (hfew : ((backTo cpos (starEach [e] X.env)).all (fun x => !x.1) && (backToKw cpos (keywordEach [] X.env)).all (fun x => x.1.isSome) && decide (([e] : List Expr).length + ([] : List Keyword).length + (if ([] : List Keyword).isEmpty then 0 else 1) < 30)) = true := by rfl)
    (hline : (apos.endLine == cpos.line) = true := by rfl) (hs : starEach [e] X.env = (false, eval e X.env) :: starEach [] X.env := by rfl) (hplain : (backTo cpos (starEach [] X.env)).any (·.1) = false := by rfl)
    (hsw : swapsWith (.Call (.Attribute o "extend" apos) [e] [] cpos) none pos.line X.env = pure false := by rfl) :
    PS X (.Expr (.Call (.Attribute o "extend" apos) [e] [] cpos) pos) (lS F (sExt i d)) := PS.mono (ps_expr (pe_bm PySem.F.plainAttrs_list PySem.F.slot_list_extend PySem.F.type_list_extend mt_extend ho (pa_cons he pa_nil hs) hbase hfew hline hs hplain) hsw) fun E σ H ⟨env, L, P, A, pp, hn, _⟩ => by
  obtain ⟨xs, h, pp⟩ := ob_elim pp
  obtain ⟨t, vs, hs, ha, hv, hd⟩ := ow_get A h
  refine ⟨_, hs, .inl ⟨rfl, vs, SqL.of hv⟩, env, L, _, A, pp, fun x v H1 px k1 o1 b1 => ?_⟩
  cases x with
  | lst ys =>
    have A1 := A.step k1 o1
    obtain ⟨a2, vs2, hs2, ha2, hv2, hd2⟩ := ow_get A1 h
    rw [hs] at hs2
    cases hs2
    obtain ⟨q, us, rfl, g1, g2⟩ := bw_lst b1
    obtain ⟨B, pr⟩ := ow_put A1 h hs ha2 (hd2.app g2)
    exact ⟨t, q, vs2, us, rfl, rfl, hv2, g1, by rw [hd2.len, g2.len]; exact px.1, hn _ _ _ _ px.2 B ((k1.pres A).trans pr)⟩
  | _ => exact px.elim
def sClr (i : Nat) : TDS := fun P env => ob (owAt env i) fun _ => P.nx (env.set i (.ow []))
theorem ds_clr (ho : PE X o (tVar i)) (hbase : attributeBase o "clear" X.env (eval o X.env) = eval o X.env := by rfl) (hline : (apos.endLine == cpos.line) = true := by rfl)
    (hsw : swapsWith (.Call (.Attribute o "clear" apos) [] [] cpos) none pos.line X.env = pure false := by rfl) :
    PS X (.Expr (.Call (.Attribute o "clear" apos) [] [] cpos) pos) (lS F (sClr i)) := PS.mono (ps_expr (pe_bm0 PySem.F.plainAttrs_list PySem.F.slot_list_clear PySem.F.type_list_clear mt_clear ho hbase hline) hsw) fun E σ H ⟨env, L, P, A, pp, hn, _⟩ => by
  obtain ⟨xs, h, pp⟩ := ob_elim pp
  obtain ⟨t, vs, hs, ha, hv, hd⟩ := ow_get A h
  obtain ⟨B, pr⟩ := ow_put A h hs ha DdAll.nil
  exact ⟨_, hs, .inl ⟨rfl, vs, SqL.of hv⟩, t, vs, rfl, rfl, hv, hn _ _ _ _ pp B pr⟩
def sRev (i : Nat) : TDS := fun P env => ob (owAt env i) fun xs => P.nx (env.set i (.ow xs.reverse))
theorem ds_rev (ho : PE X o (tVar i)) (hbase : attributeBase o "reverse" X.env (eval o X.env) = eval o X.env := by rfl) (hline : (apos.endLine == cpos.line) = true := by rfl)
    (hsw : swapsWith (.Call (.Attribute o "reverse" apos) [] [] cpos) none pos.line X.env = pure false := by rfl) :
    PS X (.Expr (.Call (.Attribute o "reverse" apos) [] [] cpos) pos) (lS F (sRev i)) := PS.mono (ps_expr (pe_bm0 PySem.F.plainAttrs_list PySem.F.slot_list_reverse PySem.F.type_list_reverse mt_reverse ho hbase hline) hsw) fun E σ H ⟨env, L, P, A, pp, hn, _⟩ => by
  obtain ⟨xs, h, pp⟩ := ob_elim pp
  obtain ⟨t, vs, hs, ha, hv, hd⟩ := ow_get A h
  obtain ⟨B, pr⟩ := ow_put A h hs ha hd.rev
  exact ⟨_, hs, .inl ⟨rfl, vs, SqL.of hv⟩, t, vs, rfl, rfl, hv, hn _ _ _ _ pp B pr⟩
/-- xs[k] = e, xs owned -/
def sPut (i : Nat) (de dk : TDE) : TDS := fun P env => de env fun x => ob (owAt env i) fun xs => dk env fun k => match k with | .int n => ob (ixN xs.length n) fun m => P.nx (env.set i (.ow (xs.set m x))) | _ => False
theorem l_put : ∀ E σ H, lS F (sPut i da db) E σ H → tAsg (lC F da) (gSub (tVar i) (lC F db) rSetL) E σ H := fun E σ H ⟨env, L, P, A, pp, hn, _⟩ =>
  ⟨env, L, _, A, pp, fun x v H1 px k1 o1 d1 => by
    obtain ⟨xs, h, pp⟩ := ob_elim px
    have A1 := A.step k1 o1
    obtain ⟨t, vs, hs, ha, hv, hd⟩ := ow_get A1 h
    refine ⟨_, hs, env, L, _, A1, pp, fun y w H2 py k2 o2 d2 => ?_⟩
    cases y with
    | int n =>
      cases d2
      obtain ⟨m, hm, pn⟩ := ob_elim py
      have A2 := A1.step k2 o2
      obtain ⟨a2, vs2, hs2, ha2, hv2, hd2⟩ := ow_get A2 h
      rw [hs] at hs2
      cases hs2
      obtain ⟨B, pr⟩ := ow_put A2 h hs ha2 (hd2.set m (A1.kd k2 d1))
      exact ⟨t, vs2, n, m, rfl, rfl, hv2, by rw [hd2.len]; exact hm, hn _ _ _ _ pn B (((k1.trans k2).pres A).trans pr)⟩
    | _ => exact py.elim⟩
/-! d[k] = v, d an owned dict -/
def odAt (env : De) (i : Nat) : Option En := env[i]?.bind fun e => match e with | .od k => some (.od k) | .ot k => some (.ot k) | _ => none
def odPut (e : En) (k v : D) : Option En := match e with
  | .od kds => (keyD k).bind fun k => if kds.length < sizeLine then some (.od (putD kds k v)) else none
  | .ot kds => match k with | .tup ks => (keysD ks).bind fun k => if kds.length < sizeLine then some (.ot (putD kds k v)) else none | _ => none
  | _ => none
def sDput (i : Nat) (dv dk : TDE) : TDS := fun P env => dv env fun v => ob (odAt env i) fun e0 => dk env fun k => ob (odPut e0 k v) fun e => P.nx (env.set i e)
theorem odAt_en {env : De} {i : Nat} {e : En} (h : odAt env i = some e) : env[i]? = some e ∧ e.isOw = true := by
  obtain ⟨e', h1, h2⟩ := Option.bind_eq_some_iff.mp h
  cases e' <;> cases h2
  · exact ⟨h1, rfl⟩
  · exact ⟨h1, rfl⟩
theorem kd_len {κ : Type} {kvs : List (κ × V)} {kds : List (κ × D)} (h : kvs.map (·.1) = kds.map (·.1)) : kvs.length = kds.length := by simpa using congrArg List.length h
theorem l_dput : ∀ E σ H, lS F (sDput i da db) E σ H → sDPut (tVar i) (lC F db) (lC F da) E σ H := fun E σ H ⟨env, L, P, A, pp, hn, _⟩ =>
  ⟨env, L, _, A, pp, fun x v H1 px k1 o1 d1 => by
    have A1 := A.step k1 o1
    obtain ⟨e0, h0, pp⟩ := ob_elim px
    obtain ⟨g1, g2⟩ := odAt_en h0
    obtain ⟨w, hs, en⟩ := abs_at A1 g1 (by rintro rfl; cases g2)
    refine ⟨w, hs, env, L, _, A1, pp, fun y u H2 py k2 o2 d2 => ?_⟩
    obtain ⟨e1, h1, pn⟩ := ob_elim py
    have A2 := A1.step k2 o2
    have en2 := A2.en i e0 _ g1 hs
    cases e0 with
    | od kds =>
      cases w with
      | ref t =>
        obtain ⟨ha, kvs, h2, h3, h4⟩ := en2
        obtain ⟨k, h5, h6⟩ := Option.bind_eq_some_iff.mp h1
        obtain ⟨hl, rfl⟩ := guard_elim h6
        have hu := keyD_v (F := F) (L := L) (.inl d2) h5
        obtain ⟨r1, r2⟩ := put_rel (k := k) h3 h4 (A1.kd k2 d1)
        obtain ⟨B, pr⟩ := A2.write (o' := .dK (putK kvs k v)) (e' := .od (putD kds k x)) g1 g2 hs ha rfl ⟨ha, _, upd_same, r1, r2.keep (fun z u q h => by
          have ne : z ≠ t := fun zz => q (.inr (by rw [zz]; exact ha))
          rw [upd_ne ne]
          exact h) fun _ z => z⟩
        exact ⟨t, _, rfl, .inl ⟨kvs, k, h2, hu, by rw [kd_len h3]; exact hl, rfl⟩, hn _ _ _ _ pn B (((k1.trans k2).pres A).trans pr)⟩
      | _ => exact en2.elim
    | ot kds =>
      cases w with
      | ref t =>
        obtain ⟨ha, kvs, h2, h3, h4⟩ := en2
        cases y with
        | tup ks =>
          obtain ⟨k, h5, h6⟩ := Option.bind_eq_some_iff.mp h1
          obtain ⟨hl, rfl⟩ := guard_elim h6
          obtain ⟨q, vs, rfl, g3, _, g4⟩ := dd_tupE d2
          have hu := keysD_v g4 h5
          subst hu
          obtain ⟨r1, r2⟩ := put_rel (k := k) h3 h4 (A1.kd k2 d1)
          obtain ⟨B, pr⟩ := A2.write (o' := .dT (putK kvs k v)) (e' := .ot (putD kds k x)) g1 g2 hs ha rfl ⟨ha, _, upd_same, r1, r2.keep (fun z u q h => by
            have ne : z ≠ t := fun zz => q (.inr (by rw [zz]; exact ha))
            rw [upd_ne ne]
            exact h) fun _ z => z⟩
          exact ⟨t, _, rfl, .inr ⟨kvs, k, q, h2, rfl, g3, by rw [kd_len h3]; exact hl, rfl⟩, hn _ _ _ _ pn B (((k1.trans k2).pres A).trans pr)⟩
        | _ => cases h1
      | _ => exact en2.elim
    | ow _ => cases h1
    | no => cases g2
    | fz _ => cases g2⟩
/-! an owned thing is no longer owned -/
def frz (e : En) : Option En := (owD e).map En.fz
def sFrz (i : Nat) (s : TDS) : TDS := fun P env => ob (env[i]?.bind frz) fun e => s P (env.set i e)
theorem ss_frz {sts : List Stmt} {s : TDS} (h : PSs X sts (lS F s)) : PSs X sts (lS F (sFrz i s)) := PSs.mono h fun E σ H ⟨env, L, P, A, pp, hn, hr, hb, hc⟩ => by
  obtain ⟨e, h1, pp⟩ := ob_elim pp
  obtain ⟨e0, h2, h3⟩ := Option.bind_eq_some_iff.mp h1
  obtain ⟨x, h4, rfl⟩ := Option.map_eq_some_iff.mp h3
  obtain ⟨v, hs, en⟩ := abs_at A h2 (by rintro rfl; cases h4)
  obtain ⟨t, rfl⟩ := owD_ref en h4
  have ow : e0.isOw = true := by cases e0 <;> first | rfl | cases h4
  obtain ⟨ht, nv⟩ := ow_new A en h4
  have sub : ∀ y, F.N (L.filter fun z => decide (z ≠ t)) y → F.N L y := fun y hy => hy.imp id fun z => (List.mem_filter.mp z).1
  have pr : Pres F L H (L.filter fun z => decide (z ≠ t)) H := fun y o q h => ⟨fun z => q (sub y z), h⟩
  have nt : ¬ F.N (L.filter fun z => decide (z ≠ t)) t := fun z => by
    rcases z with z | z
    · exact A.out ht z
    · have := (List.mem_filter.mp z).2
      simp at this
  have dd : Dd F.K (F.N (L.filter fun z => decide (z ≠ t))) F.W H (.ref t) x := by
    have key : ∀ {vs : List V} {ds : List D}, DdAll F.K (F.N L) F.W H vs ds → DdAll F.K (F.N (L.filter fun z => decide (z ≠ t))) F.W H vs ds := fun h => h.keep (fun _ _ _ z => z) sub
    cases e0 with
    | ow ds => cases h4; obtain ⟨_, vs, q1, q2⟩ := en; exact .lst q1 nt (key q2)
    | od ds => cases h4; obtain ⟨_, vs, q1, q3, q2⟩ := en; exact .dic (.inl q1) nt q3 (key q2)
    | ot ds => cases h4; obtain ⟨_, vs, q1, q3, q2⟩ := en; exact .dct (.inl q1) nt q3 (key q2)
    | _ => cases h4
  have hil : i < env.length := (List.getElem?_eq_some_iff.mp h2).1
  have B : Abs F (env.set i (.fz x)) σ (L.filter fun z => decide (z ≠ t)) H := by
    refine ⟨A.ok, A.al, A.wn, A.kp, fun y hy => A.fr y (List.mem_filter.mp hy).1, by rw [List.length_set, A.ls], fun j l b ej el g1 g2 o1 o2 s1 s2 => ?_, fun j e' y g1 g2 => ?_⟩
    · by_cases hj : i = j
      · subst hj
        rw [List.getElem?_set_self hil] at g1
        cases g1
        cases o1
      · by_cases hl : i = l
        · subst hl
          rw [List.getElem?_set_self hil] at g2
          cases g2
          cases o2
        · rw [List.getElem?_set_ne hj] at g1
          rw [List.getElem?_set_ne hl] at g2
          exact A.sep j l b ej el g1 g2 o1 o2 s1 s2
    · by_cases hj : i = j
      · subst hj
        rw [List.getElem?_set_self hil] at g1
        cases g1
        rw [hs] at g2
        cases g2
        exact dd
      · rw [List.getElem?_set_ne hj] at g1
        refine EnOk.keep A (fun x u q h => h) sub (fun b hb ob hbL => ⟨List.mem_filter.mpr ⟨hbL, decide_eq_true ?_⟩, fun u hu => hu⟩) (A.en j e' y g1 g2)
        exact fun z => hj (A.sep i j t e0 e' h2 g1 ow ob hs (by rw [g2, hb, z]))
  exact ⟨_, _, P, B, pp, fun env2 σ2 L2 H2 p2 A2 pr2 => hn env2 σ2 L2 H2 p2 A2 (pr.trans pr2), hr, fun env2 σ2 L2 H2 p2 A2 pr2 => hb env2 σ2 L2 H2 p2 A2 (pr.trans pr2), fun env2 σ2 L2 H2 p2 A2 pr2 => hc env2 σ2 L2 H2 p2 A2 (pr.trans pr2)⟩
end
end DL

namespace DL
open PySem PySem.Spec PyProof.Rows L2 RK
/-! ### what is walked -/
/-- all stands, and no table comes -/
structure Stn (H H' : Hp) : Prop where
  f : ∀ a o, H a = some o → H' a = some o
  n : NoT H H'
theorem Stn.refl (H : Hp) : Stn H H := ⟨fun _ _ z => z, fun _ _ z => ⟨_, z⟩⟩
theorem Stn.new {H : Hp} {p : Addr} {o : HO} (h : H p = none) (n : Ntb o) : Stn H (upd H p o) := ⟨fun a u q => by rw [upd_ne (ne_of_none q h)]; exact q, noT_upd n⟩
instance {H H' : Hp} : CoeFun (Stn H H') fun _ => ∀ a o, H a = some o → H' a = some o := ⟨Stn.f⟩
def ItOk (F : Fx) (Rel : (Addr → Prop) → Hp → Prop) (J : It) (xs : List D) : Prop := ∀ N' H', Rel N' H' → (∀ a, N' a → ∃ o, H' a = some o) → ∀ i : Nat, (xs.length = i → J.stop i H') ∧
  ∀ x, xs[i]? = some x → J.go i H' ∧ ∀ v H2, J.yld i H' v H2 → Stn H' H2 ∧ Dd F.K N' F.W H2 v x
def relP (F : Fx) (L : List Addr) (H : Hp) : (Addr → Prop) → Hp → Prop := fun N' H' => ∀ a o, ¬ F.N L a → H a = some o → ¬ N' a ∧ H' a = some o
def relK (F : Fx) (L : List Addr) (H : Hp) : (Addr → Prop) → Hp → Prop := fun N' H' => ∀ a o, ¬ F.W.own a → H a = some o → (¬ F.N L a → ¬ N' a) ∧ H' a = some o
abbrev TDI := De → (List D → Prop) → Prop
def lI (F : Fx) (d : TDI) : TI := fun σ H R => ∃ env L P, Abs F env σ L H ∧ d env P ∧ ∀ xs J H', P xs → KeepW F.W H H' → F.W.ok H' → ItOk F (relP F L H') J xs → R J H'
def lIb (F : Fx) (d : TDI) : TI := fun σ H R => ∃ env L P, Abs F env σ L H ∧ d env P ∧ ∀ xs J H', P xs → KeepW F.W H H' → F.W.ok H' → ItOk F (relK F L H') J xs → R J H'
section
variable {X : Cx} {F : Fx} {e a b c tg iter : Expr} {es : List Expr} {d da db dc : TDE} {ds : TDA} {pos p : Pos} {i j l : Nat}
theorem it_list {Rel : (Addr → Prop) → Hp → Prop} {t : Addr} {vs : List V} {xs : List D} (h : ∀ N' H', Rel N' H' → H' t = some (.lst vs) ∧ DdAll F.K N' F.W H' vs xs) : ItOk F Rel (Itl F.K t) xs := fun N' H' r _ i => by
  obtain ⟨h1, h2⟩ := h N' H' r
  refine ⟨fun hi => ⟨vs, SqL.of h1, by rw [h2.len]; exact Nat.le_of_eq hi⟩, fun x hx => ?_⟩
  obtain ⟨v, hv, dv⟩ := h2.get hx
  refine ⟨⟨vs, v, SqL.of h1, hv⟩, fun w H2 hy => ?_⟩
  obtain ⟨rfl, hy⟩ := hy
  have := hy vs (SqL.of h1)
  rw [hv] at this
  cases this
  exact ⟨.refl _, dv⟩
theorem it_tup {Rel : (Addr → Prop) → Hp → Prop} {t : Addr} {vs : List V} {xs : List D} (h : ∀ N' H', Rel N' H' → SqT F.K H' t vs ∧ DdAll F.K N' F.W H' vs xs) : ItOk F Rel (Itt F.K t) xs := fun N' H' r _ i => by
  obtain ⟨h1, h2⟩ := h N' H' r
  refine ⟨fun hi => ⟨vs, h1, by rw [h2.len]; exact Nat.le_of_eq hi⟩, fun x hx => ?_⟩
  obtain ⟨v, hv, dv⟩ := h2.get hx
  refine ⟨⟨vs, v, h1, hv⟩, fun w H2 hy => ?_⟩
  obtain ⟨rfl, hy⟩ := hy
  have := hy vs h1
  rw [hv] at this
  cases this
  exact ⟨.refl _, dv⟩
def rngD (lo : Int) (n : Nat) : List D := (List.range n).map fun k => .int (lo + (k : Nat))
theorem it_rng {Rel : (Addr → Prop) → Hp → Prop} {lo : Int} {n : Nat} : ItOk F Rel (Itr lo n) (rngD lo n) := fun N' H' r _ i => by
  refine ⟨fun hi => (show n ≤ i by have := Nat.le_of_eq hi; simpa [rngD] using this), fun x hx => ?_⟩
  have hi : i < n := by
    have := (List.getElem?_eq_some_iff.mp hx).1
    simpa [rngD] using this
  have e : x = .int (lo + (i : Nat)) := by
    unfold rngD at hx
    rw [List.getElem?_map, List.getElem?_range hi] at hx
    exact (Option.some.inj hx).symm
  subst e
  refine ⟨hi, fun w H2 hy => ?_⟩
  obtain ⟨rfl, rfl⟩ := hy
  exact ⟨.refl _, .int _⟩
theorem PI.mono {w w' : TI} (h : PI X tg iter w) (m : ∀ σ H R, w' σ H R → w σ H R) : PI X tg iter w' := ⟨fun pins s σ H R I q => h.run pins s σ H R I (m σ H R q)⟩
theorem PI.or {w w' : TI} (h : PI X tg iter w) (h' : PI X tg iter w') : PI X tg iter (fun σ H R => w σ H R ∨ w' σ H R) := ⟨fun pins s σ H R I q => by
  rcases q with q | q
  · exact h.run pins s σ H R I q
  · exact h'.run pins s σ H R I q⟩
def lstD : D → Option (List D)
  | .lst xs => some xs
  | _ => none
def tupD : D → Option (List D)
  | .tup xs => some xs
  | .ktp xs => some xs
  | _ => none
def sgnD : D → Option (List D)
  | .str z => some (z.cps.toList.map fun c => .str ⟨#[c]⟩)
  | _ => none
def iSeq (d : TDE) : TDI := fun env P => (d env fun x => ob (lstD x) P) ∨ ((d env fun x => ob (tupD x) P) ∨ (d env fun x => ob (sgnD x) P))
theorem it_str {Rel : (Addr → Prop) → Hp → Prop} {z : Str} : ItOk F Rel (Its z) (z.cps.toList.map fun c => .str ⟨#[c]⟩) := fun N' H' r _ i => by
  refine ⟨fun hi => (show z.cps.size ≤ i by have := Nat.le_of_eq hi; simpa using this), fun x hx => ?_⟩
  rw [List.getElem?_map] at hx
  obtain ⟨c, hc, rfl⟩ := Option.map_eq_some_iff.mp hx
  have hi : i < z.cps.size := by simpa using (List.getElem?_eq_some_iff.mp hc).1
  have hc2 : z.cps[i]? = some c := by rw [← Array.getElem?_toList]; exact hc
  refine ⟨hi, fun w H2 hy => ?_⟩
  obtain ⟨rfl, c', h1, rfl⟩ := hy
  rw [hc2] at h1
  cases h1
  exact ⟨.refl _, .str _⟩
theorem lstD_e {x : D} {xs : List D} (h : lstD x = some xs) : x = .lst xs := by cases x <;> cases h; rfl
theorem seqT_keep {N N' : Addr → Prop} {H H' : Hp} {v : V} {x : D} {xs : List D} (e : tupD x = some xs) (h : Dd F.K N F.W H v x) : ∃ t vs, v = .ref t ∧ SqT F.K H t vs ∧ ∀ N' H', (∀ a o, ¬ N a → H a = some o → ¬ N' a ∧ H' a = some o) → SqT F.K H' t vs ∧ DdAll F.K N' F.W H' vs xs := by
  cases x <;> cases e
  · obtain ⟨t, vs, rfl, h1, h2, h3⟩ := dd_tupE h
    exact ⟨t, vs, rfl, SqT.of h1, fun N' H' r => ⟨SqT.of (r t _ h2 h1).2, h3.pres r⟩⟩
  · cases h with | ktp h1 h2 h3 h4 h5 h6 => exact ⟨_, _, rfl, .inr ⟨_, _, _, h1, h2, h3, h4, h5⟩, fun N' H' r => ⟨.inr ⟨_, _, _, h1, h2, h3, h4, h5⟩, h6.pres r⟩⟩
theorem di_seq (he : PE X e (lC F d)) (hK : F.K = X.K := by rfl) : PI X tg e (lI F (iSeq d)) := PI.mono (PI.or (pi_list he) (PI.or (pi_tup he) (pi_str he))) fun σ H R ⟨env, L, P, A, pp, q⟩ => by
  rw [← hK]
  rcases pp with pp | pp | pp
  · refine .inl ⟨env, L, _, A, pp, fun x v H1 px k1 o1 d1 => ?_⟩
    obtain ⟨xs, e, px⟩ := ob_elim px
    have := lstD_e e
    subst this
    obtain ⟨t, vs, rfl, h1, h2, h3⟩ := dd_lstE d1
    exact ⟨t, rfl, ⟨vs, SqL.of h1⟩, q xs _ H1 px k1 o1 (it_list fun N' H' r => ⟨(r t _ h2 h1).2, h3.pres r⟩)⟩
  · refine .inr (.inl ⟨env, L, _, A, pp, fun x v H1 px k1 o1 d1 => ?_⟩)
    obtain ⟨xs, e, px⟩ := ob_elim px
    obtain ⟨t, vs, rfl, h1, h2⟩ := seqT_keep (N' := fun _ => False) (H' := H1) e d1
    exact ⟨t, rfl, ⟨vs, h1⟩, q xs _ H1 px k1 o1 (it_tup fun N' H' r => h2 N' H' r)⟩
  · refine .inr (.inr ⟨env, L, _, A, pp, fun x v H1 px k1 o1 d1 => ?_⟩)
    obtain ⟨xs, e, px⟩ := ob_elim px
    cases x <;> cases e
    have := dd_strE d1
    subst this
    exact ⟨_, rfl, q _ _ H1 px k1 o1 it_str⟩
theorem relK_p {L : List Addr} {H : Hp} {N' : Addr → Prop} {H' : Hp} {env : De} {σ : L2.St} (A : Abs F env σ L H) (r : relK F L H N' H') : ∀ a o, ¬ F.N L a → H a = some o → ¬ N' a ∧ H' a = some o := fun a o n h => ⟨(r a o (nw_of A n) h).1 n, (r a o (nw_of A n) h).2⟩
theorem bw_lstO {env : De} {σ : L2.St} {L : List Addr} {H : Hp} (A : Abs F env σ L H) {v : V} {xs : List D} (h : Bw F L H v (.lst xs)) : ∃ t vs, v = .ref t ∧ H t = some (.lst vs) ∧ ¬ F.W.own t ∧ DdAll F.K (F.N L) F.W H vs xs := by
  rcases h with h | ⟨e, h1, h2, h3⟩
  · obtain ⟨t, vs, rfl, h1, h2, h3⟩ := dd_lstE h
    exact ⟨t, vs, rfl, h1, nw_of A h2, h3⟩
  · cases e with
    | ow es =>
      cases h3
      cases v with
      | ref a =>
        obtain ⟨g1, vs, g2, g3⟩ := h2
        exact ⟨a, vs, rfl, g2, fun z => A.out g1 (A.wn a z), g3⟩
      | _ => exact h2.elim
    | no => cases h1
    | fz _ => cases h1
    | od _ => cases h3
    | ot _ => cases h3
theorem bw_tupC {L : List Addr} {H : Hp} {v : V} {x : D} {xs : List D} (e : tupD x = some xs) (h : Bw F L H v x) : Dd F.K (F.N L) F.W H v x := by
  rcases h with h | ⟨en, h1, h2, h3⟩
  · exact h
  · cases en with
    | no => cases h1
    | fz _ => cases h1
    | ow _ => subst h3; cases e
    | od _ => subst h3; cases e
    | ot _ => subst h3; cases e
theorem db_seq (he : PE X e (lB F d)) (hK : F.K = X.K := by rfl) : PI X tg e (lIb F (iSeq d)) := PI.mono (PI.or (pi_list he) (PI.or (pi_tup he) (pi_str he))) fun σ H R ⟨env, L, P, A, pp, q⟩ => by
  rw [← hK]
  rcases pp with pp | pp | pp
  · refine .inl ⟨env, L, _, A, pp, fun x v H1 px k1 o1 d1 => ?_⟩
    obtain ⟨xs, e, px⟩ := ob_elim px
    have := lstD_e e
    subst this
    obtain ⟨t, vs, rfl, h1, h2, h3⟩ := bw_lstO (A.step k1 o1) d1
    exact ⟨t, rfl, ⟨vs, SqL.of h1⟩, q xs _ H1 px k1 o1 (it_list fun N' H' r => ⟨(r t _ h2 h1).2, h3.pres (relK_p (A.step k1 o1) r)⟩)⟩
  · refine .inr (.inl ⟨env, L, _, A, pp, fun x v H1 px k1 o1 d1 => ?_⟩)
    obtain ⟨xs, e, px⟩ := ob_elim px
    obtain ⟨t, vs, rfl, h1, h2⟩ := seqT_keep (N' := fun _ => False) (H' := H1) e (bw_tupC e d1)
    exact ⟨t, rfl, ⟨vs, h1⟩, q xs _ H1 px k1 o1 (it_tup fun N' H' r => h2 N' H' (relK_p (A.step k1 o1) r))⟩
  · refine .inr (.inr ⟨env, L, _, A, pp, fun x v H1 px k1 o1 d1 => ?_⟩)
    obtain ⟨xs, e, px⟩ := ob_elim px
    cases x <;> cases e
    have := bw_str d1
    subst this
    exact ⟨_, rfl, q _ _ H1 px k1 o1 it_str⟩
/-! range -/
def iRng (ds : TDA) : TDI := fun env P => ds env fun xs => match xs with
  | [.int n] => -(2 ^ 62) ≤ n ∧ n < 2 ^ 62 ∧ P (rngD 0 n.toNat)
  | _ => False
def iRngB (ds : TDA) : TDI := fun env P => ds env fun xs => match xs with
  | [.int m, .int n] => (-(2 ^ 62) ≤ m ∧ m < 2 ^ 62 ∧ -(2 ^ 62) ≤ n ∧ n < 2 ^ 62) ∧ P (rngD m (n - m).toNat)
  | _ => False
theorem ints1 {K : PySem.W.Frag} {N : Addr → Prop} {W : Wd} {H : Hp} {vs : List V} {n : Int} (h : DdAll K N W H vs [.int n]) : vs = [.int n] := by
  cases h with | cons h t => cases t; rw [dd_intE h]
theorem ints2 {K : PySem.W.Frag} {N : Addr → Prop} {W : Wd} {H : Hp} {vs : List V} {m n : Int} (h : DdAll K N W H vs [.int m, .int n]) : vs = [.int m, .int n] := by
  cases h with | cons h t => cases t with | cons h2 t => cases t; rw [dd_intE h, dd_intE h2]
theorem l_rng {q : TI → Prop} : ∀ σ H R, (lI F (iRng ds) σ H R ∨ lIb F (iRng ds) σ H R) → iRng1 (lA F ds) σ H R := fun σ H R h => by
  have key : ∀ (Rel : List Addr → Hp → (Addr → Prop) → Hp → Prop), (∃ env L P, Abs F env σ L H ∧ iRng ds env P ∧ ∀ xs J H', P xs → KeepW F.W H H' → F.W.ok H' → ItOk F (Rel L H') J xs → R J H') → iRng1 (lA F ds) σ H R := fun Rel ⟨env, L, P, A, pp, q⟩ =>
    ⟨env, L, _, A, pp, fun xs vs H1 px k1 o1 d1 => by
      match xs, px, d1 with
      | [.int n], px, d1 => exact ⟨n, ints1 d1, px.1, px.2.1, q _ _ H1 px.2.2 k1 o1 it_rng⟩⟩
  rcases h with h | h
  · exact key (relP F) h
  · exact key (relK F) h
theorem l_rngB : ∀ σ H R, (lI F (iRngB ds) σ H R ∨ lIb F (iRngB ds) σ H R) → iRng2 (lA F ds) σ H R := fun σ H R h => by
  have key : ∀ (Rel : List Addr → Hp → (Addr → Prop) → Hp → Prop), (∃ env L P, Abs F env σ L H ∧ iRngB ds env P ∧ ∀ xs J H', P xs → KeepW F.W H H' → F.W.ok H' → ItOk F (Rel L H') J xs → R J H') → iRng2 (lA F ds) σ H R := fun Rel ⟨env, L, P, A, pp, q⟩ =>
    ⟨env, L, _, A, pp, fun xs vs H1 px k1 o1 d1 => by
      match xs, px, d1 with
      | [.int m, .int n], px, d1 => exact ⟨m, n, ints2 d1, px.1, q _ _ H1 px.2 k1 o1 it_rng⟩⟩
  rcases h with h | h
  · exact key (relP F) h
  · exact key (relK F) h
theorem di_rng (hg : Gl X "range") (hm : X.mg "range" = none) (ha : PA X [a] (lA F ds)) (hs : starEach [a] X.env = [(false, eval a X.env)] := by rfl) : PI X tg (.Call (.Name "range" p) [a] [] pos) (lI F (iRng ds)) := PI.mono (pi_range1 hg hm ha hs) fun σ H R h => l_rng (q := fun _ => True) σ H R (.inl h)
theorem db_rng (hg : Gl X "range") (hm : X.mg "range" = none) (ha : PA X [a] (lA F ds)) (hs : starEach [a] X.env = [(false, eval a X.env)] := by rfl) : PI X tg (.Call (.Name "range" p) [a] [] pos) (lIb F (iRng ds)) := PI.mono (pi_range1 hg hm ha hs) fun σ H R h => l_rng (q := fun _ => True) σ H R (.inr h)
theorem di_rngB (hg : Gl X "range") (hm : X.mg "range" = none) (ha : PA X [a, b] (lA F ds)) (hs : starEach [a, b] X.env = [(false, eval a X.env), (false, eval b X.env)] := by rfl) (hs2 : starEach [b] X.env = [(false, eval b X.env)] := by rfl) : PI X tg (.Call (.Name "range" p) [a, b] [] pos) (lI F (iRngB ds)) := PI.mono (pi_range2 hg hm ha hs hs2) fun σ H R h => l_rngB σ H R (.inl h)
theorem db_rngB (hg : Gl X "range") (hm : X.mg "range" = none) (ha : PA X [a, b] (lA F ds)) (hs : starEach [a, b] X.env = [(false, eval a X.env), (false, eval b X.env)] := by rfl) (hs2 : starEach [b] X.env = [(false, eval b X.env)] := by rfl) : PI X tg (.Call (.Name "range" p) [a, b] [] pos) (lIb F (iRngB ds)) := PI.mono (pi_range2 hg hm ha hs hs2) fun σ H R h => l_rngB σ H R (.inr h)
/-! ### for -/
def sLoop (g : TDG) (body : TDS) (P : DEnds) : List D → De → Prop
  | [], env => P.nx env
  | x :: xs, env => g x env fun env' => body { nx := sLoop g body P xs, rt := P.rt, bk := P.nx, ct := sLoop g body P xs } env'
def sFor (it : TDI) (g : TDG) (body : TDS) : TDS := fun P env => it env fun xs => sLoop g body P xs env
theorem same_keep {W : Wd} {H H' : Hp} (h : Stn H H') : KeepW W H H' := fun a o _ q => h a o q
theorem same_ok {W : Wd} {H H' : Hp} (k : W.ok H) (h : Stn H H') : W.ok H' := Wd.st k (fun a o q _ => h a o q) h.n
theorem l_for {S : List Nat} {it : TDI} {g : TDG} {body : TDS} : ∀ E σ H, lS F (sFor it g body) E σ H → tFor (lI F it) (lG F S g) (lS F body) E σ H := fun E σ H ⟨env, L, P, A, pp, hn, hr, hb, hc⟩ =>
  ⟨env, L, _, A, pp, fun xs J H1 px k1 o1 ok => by
    have pr0 : Pres F L H L H1 := k1.pres A
    refine ⟨fun i m σ' H' => ∃ env' L', Abs F env' σ' L' H' ∧ Pres F L H1 L' H' ∧ sLoop g body P (xs.drop i) env' ∧ i ≤ xs.length ∧ m = xs.length - i, ⟨_, env, L, A.step k1 o1, .refl _ _ _, px, Nat.zero_le _, rfl⟩, ?_⟩
    rintro i m σ' H' ⟨env', L', A', pr, lp, hi, rfl⟩
    obtain ⟨st, go⟩ := ok (F.N L') H' (fun a o n h => pr a o n h) (fun a h => A'.alN h) i
    by_cases hlt : i < xs.length
    · obtain ⟨g1, g2⟩ := go xs[i] (List.getElem?_eq_getElem hlt)
      refine .inr ⟨g1, fun σ2 H2 => ∃ env2 L2, Abs F env2 σ2 L2 H2 ∧ Pres F L H1 L2 H2 ∧ sLoop g body P (xs.drop (i + 1)) env2, fun σ2 H2 ⟨env2, L2, a1, a2, a3⟩ => ⟨xs.length - (i + 1), by omega, env2, L2, a1, a2, a3, hlt, rfl⟩, fun v H2 hy => ?_⟩
      obtain ⟨sm, dd⟩ := g2 v H2 hy
      rw [List.drop_eq_getElem_cons hlt] at lp
      have A2 := A'.step (same_keep sm) (same_ok A'.ok sm)
      have pr2 : Pres F L H1 L' H2 := pr.trans fun a o n h => ⟨n, sm a o h⟩
      exact ⟨env', L', _, _, A2, dd, lp, fun env3 σ3 p3 A3 _ _ => ⟨env3, L', _, A3, p3, fun env4 σ4 L4 H4 p4 A4 pr4 => ⟨env4, L4, A4, pr2.trans pr4, p4⟩, hr, fun env4 σ4 L4 H4 p4 A4 pr4 => hn env4 σ4 L4 H4 p4 A4 ((pr0.trans pr2).trans pr4), fun env4 σ4 L4 H4 p4 A4 pr4 => ⟨env4, L4, A4, pr2.trans pr4, p4⟩⟩⟩
    · have e : xs.drop i = [] := List.drop_eq_nil_of_le (by omega)
      rw [e] at lp
      exact .inl ⟨st (by omega), hn env' σ' L' H' lp A' (pr0.trans pr)⟩⟩
theorem ds_for {S : List Nat} {it : TDI} {g : TDG} {sts : List Stmt} {body : TDS} (hp : PassesOwn (model X.prog X.w) X.A X.env X.xe) (hc : X.calm = true) (hi : PI X tg iter (lI F it)) (hg : PG X tg (lG F S g)) (hb : PSs X sts (lS F body)) (hs : ∀ x, foldedSetIterable iter X.env x = pure x := by intro _; rfl) :
    PS X (.For tg iter sts [] pos) (lS F (sFor it g body)) := PS.mono (ps_for hp hc hi hg hb hs) l_for
/-! ### while -/
def sWhile (c : TDT) (body : TDS) : TDS := fun P env => ∃ I : Nat → De → Prop, (∃ m, I m env) ∧ ∀ m env, I m env → c env fun b => if b = true then body { nx := fun e => ∃ m', m' < m ∧ I m' e, rt := P.rt, bk := P.nx, ct := fun e => ∃ m', m' < m ∧ I m' e } env else P.nx env
theorem l_while {tc : TDT} {body : TDS} : ∀ E σ H, lS F (sWhile tc body) E σ H → tWhile (lT F tc) (lS F body) E σ H := fun E σ H ⟨env, L, P, A, ⟨I, ⟨m0, i0⟩, st⟩, hn, hr, hb, hc⟩ => by
  refine ⟨fun m σ' H' => ∃ env' L', Abs F env' σ' L' H' ∧ Pres F L H L' H' ∧ I m env', ⟨m0, env, L, A, .refl _ _ _, i0⟩, ?_⟩
  rintro m σ' H' ⟨env', L', A', pr, im⟩
  refine ⟨env', L', _, A', st m env' im, fun x H1 px k1 o1 => ?_⟩
  have pr1 : Pres F L H L' H1 := pr.trans (k1.pres A')
  cases x with
  | true => exact iteT ⟨fun σ2 H2 => ∃ env2 L2, Abs F env2 σ2 L2 H2 ∧ Pres F L H L2 H2 ∧ ∃ m', m' < m ∧ I m' env2, fun σ2 H2 ⟨env2, L2, a1, a2, m', a3, a4⟩ => ⟨m', a3, env2, L2, a1, a2, a4⟩, env', L', _, A'.step k1 o1, px, fun env2 σ2 L2 H2 p2 A2 pr2 => ⟨env2, L2, A2, pr1.trans pr2, p2⟩, hr, fun env2 σ2 L2 H2 p2 A2 pr2 => hn env2 σ2 L2 H2 p2 A2 (pr1.trans pr2), fun env2 σ2 L2 H2 p2 A2 pr2 => ⟨env2, L2, A2, pr1.trans pr2, p2⟩⟩
  | false => exact iteF (hn env' σ' L' H1 px (A'.step k1 o1) pr1)
theorem ds_while {tc : TDT} {sts : List Stmt} {body : TDS} (hp : PassesOwn (model X.prog X.w) X.A X.env X.xe) (hc : PT X c (lT F tc)) (hb : PSs X sts (lS F body)) : PS X (.While c sts [] pos) (lS F (sWhile tc body)) := PS.mono (ps_while hp hc hb) l_while
end
end DL

namespace DL
open PySem PySem.Spec PyProof.Rows L2 RK
/-! ### comprehensions -/
def wipeE (env : De) : List Nat → De
  | [] => env
  | v :: vs => (wipeE env vs).set v .no
section
variable {F : Fx} {env : De} {σ : L2.St} {L : List Addr} {H H' : Hp}
theorem Abs.setN (A : Abs F env σ L H) (i : Nat) : Abs F (env.set i .no) (σ.set i none) L H := by
  refine ⟨A.ok, A.al, A.wn, A.kp, A.fr, by rw [List.length_set, List.length_set, A.ls], fun j l a ej el h1 h2 o1 o2 s1 s2 => ?_, fun j e y h1 h2 => ?_⟩
  · by_cases hj : i = j
    · subst hj
      by_cases hi : i < env.length
      · rw [List.getElem?_set_self hi] at h1
        cases h1
        cases o1
      · rw [List.getElem?_eq_none (by rw [List.length_set]; omega)] at h1
        cases h1
    · by_cases hl : i = l
      · subst hl
        by_cases hi : i < env.length
        · rw [List.getElem?_set_self hi] at h2
          cases h2
          cases o2
        · rw [List.getElem?_eq_none (by rw [List.length_set]; omega)] at h2
          cases h2
      · rw [List.getElem?_set_ne hj] at h1 s1
        rw [List.getElem?_set_ne hl] at h2 s2
        exact A.sep j l a ej el h1 h2 o1 o2 s1 s2
  · by_cases hj : i = j
    · subst hj
      by_cases hi : i < env.length
      · rw [List.getElem?_set_self hi] at h1
        cases h1
        trivial
      · rw [List.getElem?_eq_none (by rw [List.length_set]; omega)] at h1
        cases h1
    · rw [List.getElem?_set_ne hj] at h1 h2
      exact A.en j e y h1 h2
theorem Abs.wipe (A : Abs F env σ L H) : ∀ vs : List Nat, Abs F (wipeE env vs) (L2.wipe σ vs) L H
  | [] => A
  | v :: vs => (A.wipe vs).setN v
/-- a thing that is reserved and in no slot is changed -/
theorem Abs.poke (A : Abs F env σ L H) {a : Addr} {o' : HO} (ha : a ∈ L) (lo : Lone env σ a) (po : Plo o' := by exact True.intro) : Abs F env σ L (upd H a o') := by
  have na : ¬ F.N0 a := A.out ha
  have nw : ¬ F.W.own a := fun z => na (A.wn a z)
  refine ⟨?_, A.al, A.wn, fun x u q h => ?_, fun b hb => ?_, A.ls, A.sep, fun j e2 y h1 h2 => ?_⟩
  · exact Wd.st A.ok (n := noT_upd po.ntb) fun b u h q => by
      have ne : b ≠ a := fun z => by
        rcases q with q | q
        · exact nw (by rw [← z]; exact q)
        · obtain ⟨_, o, e, pl⟩ := A.fr a ha
          rw [z, e] at h
          exact q (Option.some.inj h ▸ pl)
      rw [upd_ne ne]
      exact h
  · have hx := A.kp x u q h
    have ne : x ≠ a := fun z => by
      rw [z, (A.fr a ha).1] at h
      cases h
    rw [upd_ne ne]
    exact hx
  · refine ⟨(A.fr b hb).1, ?_⟩
    by_cases e : b = a
    · subst e
      exact ⟨_, upd_same, po⟩
    · rw [upd_ne e]
      exact (A.fr b hb).2
  · refine EnOk.keep A (fun x u q h => ?_) (fun _ z => z) (fun b hb ob hbL => ⟨hbL, fun u hu => ?_⟩) (A.en j e2 y h1 h2)
    · have ne : x ≠ a := fun z => q (.inr (by rw [z]; exact ha))
      rw [upd_ne ne]
      exact h
    · have ne : b ≠ a := fun z => lo j e2 h1 ob (by rw [h2, hb, z])
      rw [upd_ne ne]
      exact hu
end
def dComp (g : TDG) (tt : TDT) (te : TDE) (P : D → Prop) (env : De) : List D → List D → Prop
  | [], acc => P (.lst acc)
  | x :: xs, acc => g x env fun env' => tt env' fun b => if b = true then te env' fun y => acc.length < sizeLine ∧ dComp g tt te P env xs (acc ++ [y]) else dComp g tt te P env xs acc
def dLc (it : TDI) (g : TDG) (tt : TDT) (te : TDE) (vs : List Nat) : TDE := fun env P => it env fun xs => dComp g tt te P (wipeE env vs) xs []
def tYesD : TDT := fun _ P => P true
section
variable {X : Cx} {F : Fx} {e a b c tg iter : Expr} {es : List Expr} {d da db dc : TDE} {ds : TDA} {pos p : Pos} {i j l : Nat}
theorem ts_nil : PTs X [] (lT F tYesD) := ⟨fun pins s σ H Q I h => pts_nil.run pins s σ H Q I (let ⟨_, _, _, A, pp, q⟩ := h; q true H pp (.refl _ _) A.ok)⟩
theorem ts_one {t : TDT} (h : PT X c (lT F t)) : PTs X [c] (lT F t) := pts_one h
theorem l_lc {S vs : List Nat} {it : TDI} {g : TDG} {tt : TDT} {te : TDE} (hS : ∀ i ∈ S, i ∈ vs) : ∀ σ H Q, lN F (dLc it g tt te vs) σ H Q → tLc (lIb F it) (lG F S g) (lT F tt) (lC F te) vs σ H Q := fun σ H Q ⟨env, L, P, A, pp, q⟩ =>
  ⟨env, L, _, A, pp, fun xs J H1 px k1 o1 ok D nD => by
    have A1 := A.step k1 o1
    have lo : Lone (wipeE env vs) (wipe σ vs) D := (A1.wipe vs).lone nD
    have B0 : Abs F (wipeE env vs) (wipe σ vs) (D :: L) (upd H1 D (.lst [])) := (A1.wipe vs).hold (x := .lst []) (.new nD) (ok_new o1 nD) nD ⟨[], upd_same, .nil⟩
    refine ⟨fun i m H' => ∃ acc us, Abs F (wipeE env vs) (wipe σ vs) (D :: L) H' ∧ (∀ a o, ¬ F.W.own a → H1 a = some o → H' a = some o) ∧ H' D = some (.lst us) ∧ DdAll F.K (F.N (D :: L)) F.W H' us acc ∧ dComp g tt te P (wipeE env vs) (xs.drop i) acc ∧ i ≤ xs.length ∧ m = xs.length - i,
      ⟨_, [], [], B0, fun a o _ h => by rw [upd_ne (ne_of_none h nD)]; exact h, upd_same, .nil, px, Nat.zero_le _, rfl⟩, ?_⟩
    rintro i m H' ⟨acc, us, B, kk, hD, hu, lp, hi, rfl⟩
    obtain ⟨st, go⟩ := ok (F.N (D :: L)) H' (fun a o n h => ⟨fun nn z => by
      rcases z with z | z
      · exact nn (.inl z)
      · rcases List.mem_cons.mp z with z | z
        · rw [z, nD] at h
          cases h
        · exact nn (.inr z), kk a o n h⟩) (fun a h => B.alN h) i
    by_cases hlt : i < xs.length
    · obtain ⟨g1, g2⟩ := go xs[i] (List.getElem?_eq_getElem hlt)
      rw [List.drop_eq_getElem_cons hlt] at lp
      refine .inr ⟨g1, fun H2 => ∃ acc us, Abs F (wipeE env vs) (wipe σ vs) (D :: L) H2 ∧ (∀ a o, ¬ F.W.own a → H1 a = some o → H2 a = some o) ∧ H2 D = some (.lst us) ∧ DdAll F.K (F.N (D :: L)) F.W H2 us acc ∧ dComp g tt te P (wipeE env vs) (xs.drop (i + 1)) acc,
        fun H2 ⟨acc, us, a1, a2, a3, a4, a5⟩ => ⟨xs.length - (i + 1), by omega, acc, us, a1, a2, a3, a4, a5, hlt, rfl⟩, fun v H2 hy => ?_⟩
      obtain ⟨sm, dd⟩ := g2 v H2 hy
      have B2 := B.step (same_keep sm) (same_ok B.ok sm)
      refine ⟨_, _, _, _, B2, dd, lp, fun env3 σ3 p3 B3 w3 _ => ⟨?_, env3, _, _, B3, p3, fun bb H3 p4 k4 o4 => ?_⟩⟩
      · rw [w3 vs hS]
        have : ∀ ws : List Nat, wipe (wipe σ ws) ws = wipe σ ws := by
          intro ws
          apply List.ext_getElem?
          intro n
          by_cases hn : n < (wipe σ ws).length
          · cases hx : (wipe (wipe σ ws) ws)[n]? with
            | none =>
              rw [List.getElem?_eq_none_iff, wipe_length] at hx
              omega
            | some y =>
              cases hz : (wipe σ ws)[n]? with
              | none =>
                rw [List.getElem?_eq_none_iff] at hz
                omega
              | some z =>
                cases y with
                | some y =>
                  rw [(wipe_some hx).1] at hz
                  rw [Option.some.inj hz]
                | none =>
                  cases z with
                  | none => rfl
                  | some z =>
                    exfalso
                    have nm := (wipe_some hz).2
                    have keep : ∀ (τ : L2.St) (us : List Nat), n ∉ us → (wipe τ us)[n]? = τ[n]? := by
                      intro τ us
                      induction us with
                      | nil => intro _; rfl
                      | cons u us ih =>
                        intro hu
                        unfold wipe
                        rw [List.getElem?_set_ne (fun z => hu (by rw [z]; exact List.mem_cons_self)), ih (fun z => hu (List.mem_cons_of_mem _ z))]
                    rw [keep _ ws nm, hz] at hx
                    cases hx
          · rw [List.getElem?_eq_none (by rw [wipe_length]; omega), List.getElem?_eq_none (by omega)]
        exact this vs
      · have B4 := B3.step k4 o4
        have W4 : Abs F (wipeE env vs) (wipe σ vs) (D :: L) H3 := B2.step k4 o4
        have nD0 : ¬ F.W.own D := fun z => B.out List.mem_cons_self (B.wn D z)
        cases bb with
        | true =>
          refine iteT ⟨env3, _, _, B4, p4, fun y v' H5 p5 k5 o5 d5 => ?_⟩
          have hD5 : H5 D = some (.lst us) := k5 D _ nD0 (k4 D _ nD0 (sm D _ hD))
          have hu5 : DdAll F.K (F.N (D :: L)) F.W H5 us acc := W4.kda k5 (B2.kda k4 (B.kda (same_keep sm) hu))
          have W5 := W4.step k5 o5
          refine ⟨us, hD5, by rw [hu5.len]; exact p5.1, acc ++ [y], us ++ [v'], W5.poke List.mem_cons_self lo, fun a o n h => ?_, upd_same, (hu5.app (.cons d5 .nil)).keep (fun x u q h => ?_) (fun _ z => z), p5.2⟩
          · rw [upd_ne (ne_of_none h nD)]
            exact k5 a o n (k4 a o n (sm a o (kk a o n h)))
          · have ne : x ≠ D := fun z => q (.inr (by rw [z]; exact List.mem_cons_self))
            rw [upd_ne ne]
            exact h
        | false => exact iteF ⟨acc, us, W4, fun a o n h => k4 a o n (sm a o (kk a o n h)), k4 D _ nD0 (sm D _ hD), B2.kda k4 (B.kda (same_keep sm) hu), p4⟩
    · have e : xs.drop i = [] := List.drop_eq_nil_of_le (by omega)
      rw [e] at lp
      refine .inl ⟨st (by omega), q _ D H' lp (k1.trans fun a o n h => kk a o n h) B.ok (free_of k1 o1 nD) ⟨us, hD, hu⟩⟩⟩
/-! {k: v for ..} -/
def dDcomp (g : TDG) (tt : TDT) (tk tv : TDE) (P : D → Prop) (env : De) : List D → List (Key × D) → Prop
  | [], acc => P (.dic acc)
  | x :: xs, acc => g x env fun env' => tt env' fun b => if b = true then tk env' fun k => tv env' fun y => ob (keyD k) fun k => acc.length < sizeLine ∧ dDcomp g tt tk tv P env xs (putD acc k y) else dDcomp g tt tk tv P env xs acc
def dDc (it : TDI) (g : TDG) (tt : TDT) (tk tv : TDE) (vs : List Nat) : TDE := fun env P => it env fun xs => dDcomp g tt tk tv P (wipeE env vs) xs []
theorem wipe_wipe (σ : L2.St) (ws : List Nat) : wipe (wipe σ ws) ws = wipe σ ws := by
  apply List.ext_getElem?
  intro n
  have keep : ∀ (τ : L2.St) (us : List Nat), n ∉ us → (wipe τ us)[n]? = τ[n]? := by
    intro τ us
    induction us with
    | nil => intro _; rfl
    | cons u us ih =>
      intro hu
      unfold wipe
      rw [List.getElem?_set_ne (fun z => hu (by rw [z]; exact List.mem_cons_self)), ih (fun z => hu (List.mem_cons_of_mem _ z))]
  by_cases hm : n ∈ ws
  · have no : ∀ τ : L2.St, ∀ y, (wipe τ ws)[n]? ≠ some (some y) := fun τ y h => (wipe_some h).2 hm
    by_cases hn : n < σ.length
    · have f : ∀ τ : L2.St, n < τ.length → (wipe τ ws)[n]? = some none := fun τ h => by
        cases hx : (wipe τ ws)[n]? with
        | none => rw [List.getElem?_eq_none_iff, wipe_length] at hx; omega
        | some y => cases y with
          | none => rfl
          | some y => exact (no τ y hx).elim
      rw [f _ hn, f _ (by rw [wipe_length]; exact hn)]
    · rw [List.getElem?_eq_none (by rw [wipe_length, wipe_length]; omega), List.getElem?_eq_none (by rw [wipe_length]; omega)]
  · rw [keep _ ws hm]
theorem l_dc {S vs : List Nat} {it : TDI} {g : TDG} {tt : TDT} {tk tv : TDE} (hS : ∀ i ∈ S, i ∈ vs) : ∀ σ H Q, lN F (dDc it g tt tk tv vs) σ H Q → tDc (lIb F it) (lG F S g) (lT F tt) (lC F tk) (lC F tv) vs σ H Q := fun σ H Q ⟨env, L, P, A, pp, q⟩ =>
  ⟨env, L, _, A, pp, fun xs J H1 px k1 o1 ok D nD => by
    have A1 := A.step k1 o1
    have lo : Lone (wipeE env vs) (wipe σ vs) D := (A1.wipe vs).lone nD
    have B0 : Abs F (wipeE env vs) (wipe σ vs) (D :: L) (upd H1 D (.dK [])) := (A1.wipe vs).hold (x := .dic []) (.new nD) (ok_new o1 nD) nD ⟨[], upd_same, rfl, .nil⟩
    refine ⟨fun i m H' => ∃ acc us, Abs F (wipeE env vs) (wipe σ vs) (D :: L) H' ∧ (∀ a o, ¬ F.W.own a → H1 a = some o → H' a = some o) ∧ H' D = some (.dK us) ∧ us.map (·.1) = acc.map (·.1) ∧ DdAll F.K (F.N (D :: L)) F.W H' (us.map (·.2)) (acc.map (·.2)) ∧ dDcomp g tt tk tv P (wipeE env vs) (xs.drop i) acc ∧ i ≤ xs.length ∧ m = xs.length - i,
      ⟨_, [], [], B0, fun a o _ h => by rw [upd_ne (ne_of_none h nD)]; exact h, upd_same, rfl, .nil, px, Nat.zero_le _, rfl⟩, ?_⟩
    rintro i m H' ⟨acc, us, B, kk, hD, hk, hu, lp, hi, rfl⟩
    obtain ⟨st, go⟩ := ok (F.N (D :: L)) H' (fun a o n h => ⟨fun nn z => by
      rcases z with z | z
      · exact nn (.inl z)
      · rcases List.mem_cons.mp z with z | z
        · rw [z, nD] at h
          cases h
        · exact nn (.inr z), kk a o n h⟩) (fun a h => B.alN h) i
    by_cases hlt : i < xs.length
    · obtain ⟨g1, g2⟩ := go xs[i] (List.getElem?_eq_getElem hlt)
      rw [List.drop_eq_getElem_cons hlt] at lp
      refine .inr ⟨g1, fun H2 => ∃ acc us, Abs F (wipeE env vs) (wipe σ vs) (D :: L) H2 ∧ (∀ a o, ¬ F.W.own a → H1 a = some o → H2 a = some o) ∧ H2 D = some (.dK us) ∧ us.map (·.1) = acc.map (·.1) ∧ DdAll F.K (F.N (D :: L)) F.W H2 (us.map (·.2)) (acc.map (·.2)) ∧ dDcomp g tt tk tv P (wipeE env vs) (xs.drop (i + 1)) acc,
        fun H2 ⟨acc, us, a1, a2, a3, a6, a4, a5⟩ => ⟨xs.length - (i + 1), by omega, acc, us, a1, a2, a3, a6, a4, a5, hlt, rfl⟩, fun v H2 hy => ?_⟩
      obtain ⟨sm, dd⟩ := g2 v H2 hy
      have B2 := B.step (same_keep sm) (same_ok B.ok sm)
      refine ⟨_, _, _, _, B2, dd, lp, fun env3 σ3 p3 B3 w3 _ => ⟨?_, env3, _, _, B3, p3, fun bb H3 p4 k4 o4 => ?_⟩⟩
      · rw [w3 vs hS]
        exact wipe_wipe σ vs
      · have B4 := B3.step k4 o4
        have W4 : Abs F (wipeE env vs) (wipe σ vs) (D :: L) H3 := B2.step k4 o4
        have nD0 : ¬ F.W.own D := fun z => B.out List.mem_cons_self (B.wn D z)
        cases bb with
        | true =>
          refine iteT ⟨env3, _, _, B4, p4, fun kx vk H4 p5 k5 o5 d5 => ⟨env3, _, _, B4.step k5 o5, p5, fun y v' H6 p6 k6 o6 d6 => ?_⟩⟩
          obtain ⟨k, ek, p7⟩ := ob_elim p6
          have hv := keyD_v (F := F) (L := D :: L) (.inl d5) ek
          have kt := k5.trans k6
          have hD5 : H6 D = some (.dK us) := kt D _ nD0 (k4 D _ nD0 (sm D _ hD))
          have hu5 : DdAll F.K (F.N (D :: L)) F.W H6 (us.map (·.2)) (acc.map (·.2)) := W4.kda kt (B2.kda k4 (B.kda (same_keep sm) hu))
          have W5 := W4.step kt o6
          obtain ⟨r1, r2⟩ := put_rel (k := k) hk hu5 d6
          refine ⟨us, k, hv, hD5, by rw [kd_len hk]; exact p7.1, putD acc k y, putK us k v', W5.poke List.mem_cons_self lo, fun a o n h => ?_, upd_same, r1, r2.keep (fun x u q h => ?_) (fun _ z => z), p7.2⟩
          · rw [upd_ne (ne_of_none h nD)]
            exact kt a o n (k4 a o n (sm a o (kk a o n h)))
          · have ne : x ≠ D := fun z => q (.inr (by rw [z]; exact List.mem_cons_self))
            rw [upd_ne ne]
            exact h
        | false => exact iteF ⟨acc, us, W4, fun a o n h => k4 a o n (sm a o (kk a o n h)), k4 D _ nD0 (sm D _ hD), hk, B2.kda k4 (B.kda (same_keep sm) hu), p4⟩
    · have e : xs.drop i = [] := List.drop_eq_nil_of_le (by omega)
      rw [e] at lp
      refine .inl ⟨st (by omega), q _ D H' lp (k1.trans fun a o n h => kk a o n h) B.ok (free_of k1 o1 nD) ⟨us, hD, hk, hu⟩⟩⟩
end
/-! ### a def -/
def startE (N : List Str) (ds : List D) : De := ds.map En.fz ++ List.replicate (N.length - ds.length) En.no
theorem abs_start {K : PySem.W.Frag} {W : Wd} {N0 : Addr → Prop} {H : Hp} {fr : Bool} {N : List Str} {vs : List V} {ds : List D} (al : ∀ a, N0 a → ∃ o, H a = some o) (wn : ∀ a, W.own a → N0 a) (ok : W.ok H) (dd : DdAll K N0 W H vs ds) :
    Abs ⟨K, W, N0, H, fr⟩ (startE N ds) (start N vs) [] H := by
  have hl := dd.len
  have noOw : ∀ (i : Nat) (e : En), (startE N ds)[i]? = some e → e.isOw = true → False := fun i e h ow => by
    have := List.mem_of_getElem? h
    unfold startE at this
    rcases List.mem_append.mp this with h | h
    · obtain ⟨d, _, rfl⟩ := List.mem_map.mp h
      cases ow
    · rw [(List.mem_replicate.mp h).2] at ow
      cases ow
  refine ⟨ok, al, wn, .refl _ _, fun a h => (by cases h), ?_, fun i j a ei ej h1 h2 o1 o2 s1 s2 => (noOw i ei h1 o1).elim, fun i e x h1 h2 => ?_⟩
  · unfold startE L2.start
    rw [List.length_append, List.length_append, List.length_map, List.length_map, List.length_replicate, List.length_replicate, hl]
  · unfold startE at h1
    unfold L2.start at h2
    by_cases hi : i < ds.length
    · rw [List.getElem?_append_left (by rw [List.length_map]; exact hi), List.getElem?_map, List.getElem?_eq_getElem hi] at h1
      rw [List.getElem?_append_left (by rw [List.length_map]; omega), List.getElem?_map, List.getElem?_eq_getElem (by omega)] at h2
      have e1 : e = .fz ds[i] := (Option.some.inj h1).symm
      have e2 : x = some (vs[i]'(by omega)) := (Option.some.inj h2).symm
      subst e1 e2
      obtain ⟨v, g1, g2⟩ := dd.get (List.getElem?_eq_getElem hi)
      rw [List.getElem?_eq_getElem (by omega)] at g1
      have e3 := Option.some.inj g1
      rw [e3]
      exact g2.keep (fun _ _ _ z => z) fun y hy => by
        rcases hy with hy | hy
        · exact hy
        · cases hy
    · rw [List.getElem?_append_right (by rw [List.length_map]; omega)] at h1
      rw [(List.mem_replicate.mp (List.mem_of_getElem? h1)).2]
      trivial
/-- how a def's reading ends -/
def fin (fr : Bool) (P : D → Prop) : DEnds := { nx := fun _ => fr = false ∧ P .non, rt := P }
theorem fn_d {K : PySem.W.Frag} {W : Wd} {N0 : Addr → Prop} {H : Hp} {fr : Bool} {N : List Str} {vs : List V} {ds : List D} {P : D → Prop} {Q : VK} {d : TDS} (al : ∀ a, N0 a → ∃ o, H a = some o) (wn : ∀ a, W.own a → N0 a) (ok : W.ok H) (dd : DdAll K N0 W H vs ds)
    (q : ∀ x v H', P x → KeepW W H H' → W.ok H' → Dd K N0 W H' v x → (fr = true → ∃ a, v = .ref a ∧ H a = none ∧ NewV ⟨K, W, N0, H, true⟩ [] H' a x) → Q v H') (h : d (fin fr P) (startE N ds)) :
    lS ⟨K, W, N0, H, fr⟩ d { nx := fun _ H' => Q .non H', rt := Q } (start N vs) H := by
  have nv : ∀ {H' : Hp} {a : Addr} {x : D}, NewV ⟨K, W, N0, H, fr⟩ [] H' a x → NewV ⟨K, W, N0, H, true⟩ [] H' a x := fun {H' a x} h => by cases x <;> exact h
  refine ⟨_, [], _, abs_start al wn ok dd, h, fun env' σ' L' H' p A _ => ?_, fun x v H' p r => ?_, fun _ _ _ _ z => z.elim, fun _ _ _ _ z => z.elim⟩
  · exact q .non .non H' p.2 A.kp A.ok .non fun z => by rw [p.1] at z; cases z
  · exact q x v H' p r.kp r.ok r.dd fun z => let ⟨a, h1, h2, h3⟩ := r.nw z; ⟨a, h1, h2, nv h3⟩
end DL

namespace DL
open PySem PySem.Spec PyProof.Rows L2 RK
section
variable {X : Cx} {F : Fx} {e a b c o : Expr} {es : List Expr} {d da db dc : TDE} {ds : TDA} {pos p : Pos} {i j l : Nat}
theorem l_setF_n {t : TE} (h : ∀ σ H Q, lN F d σ H Q → t σ H Q) : ∀ E σ H, lS F (sSet i d) E σ H → tAsg t (gName i) E σ H := fun E σ H ⟨env, L, P, A, pp, hn, _⟩ =>
  h σ H _ ⟨env, L, _, A, pp, fun x v H1 px k o n nv => hn _ _ L H1 px ((A.step k o).setF (nv.dd (A.new n)) i) (k.pres A)⟩
def sPar3 (i j l : Nat) (da db dc : TDE) : TDS := fun P env => da env fun x => db env fun y => dc env fun z => P.nx (((env.set i (.fz x)).set j (.fz y)).set l (.fz z))
theorem l_par3 : ∀ E σ H, lS F (sPar3 i j l da db dc) E σ H → tPar3 i j l (tCons (lC F da) (tCons (lC F db) (tCons (lC F dc) tNil))) E σ H := fun E σ H ⟨env, L, P, A, pp, hn, _⟩ =>
  ⟨env, L, _, A, pp, fun x v H1 px k1 o1 d1 => ⟨env, L, _, A.step k1 o1, px, fun y u H2 py k2 o2 d2 => ⟨env, L, _, (A.step k1 o1).step k2 o2, py, fun z t H3 pz k3 o3 d3 => by
    have A1 := A.step k1 o1
    have A2 := A1.step k2 o2
    exact ⟨v, u, t, rfl, hn _ _ L H3 pz ((((A2.step k3 o3).setF (A2.kd k3 (A1.kd k2 d1)) i).setF (A2.kd k3 d2) j).setF d3 l) (((k1.trans k2).trans k3).pres A)⟩⟩⟩⟩
/-! ### fields, methods, new instances -/
theorem look_rel {K : PySem.W.Frag} {N : Addr → Prop} {W : Wd} {H : Hp} {f : Str} : ∀ {fs : List (Str × V)} {fds : List (Str × D)}, fs.map (·.1) = fds.map (·.1) → DdAll K N W H (fs.map (·.2)) (fds.map (·.2)) →
    (fs.lookup f = none ∧ fds.lookup f = none) ∨ ∃ v d, fs.lookup f = some v ∧ fds.lookup f = some d ∧ Dd K N W H v d
  | [], [], _, _ => .inl ⟨rfl, rfl⟩
  | [], _ :: _, e, _ => by cases e
  | _ :: _, [], e, _ => by cases e
  | (k1, v) :: fs, (k2, d) :: fds, e, .cons h a => by
    have e1 : k1 = k2 := (List.cons.inj e).1
    have e2 := (List.cons.inj e).2
    subst e1
    cases hk : f == k1 with
    | true => exact .inr ⟨v, d, by simp [List.lookup, hk], by simp [List.lookup, hk], h⟩
    | false =>
      rcases look_rel (f := f) e2 a with ⟨h1, h2⟩ | ⟨v', d', h1, h2, h3⟩
      · exact .inl ⟨by simpa [List.lookup, hk] using h1, by simpa [List.lookup, hk] using h2⟩
      · exact .inr ⟨v', d', by simpa [List.lookup, hk] using h1, by simpa [List.lookup, hk] using h2, h3⟩
theorem dd_objE {K : PySem.W.Frag} {N : Addr → Prop} {W : Wd} {H : Hp} {v : V} {C : Addr} {fds : List (Str × D)} (h : Dd K N W H v (.obj C fds)) : ∃ a dx fs, v = .ref a ∧ H a = some (.ins C dx fs) ∧ ¬ N a ∧ fs.map (·.1) = fds.map (·.1) ∧ DdAll K N W H (fs.map (·.2)) (fds.map (·.2)) := by
  cases h with | obj h1 h2 h3 h4 => exact ⟨_, _, _, rfl, h1, h2, h3, h4⟩
def dFld (C : Addr) (f : Str) (d : TDE) : TDE := fun env P => d env fun x => match x with | .obj C' fs => C' = C ∧ ob (fs.lookup f) P | _ => False
theorem l_fld {C : Addr} {f : Str} {K : PySem.W.Frag} (c : Cls K C) (n : NoAttr K C f) : ∀ σ H Q, lC F (dFld C f d) σ H Q → tFld K (lC F d) f σ H Q := fun σ H Q ⟨env, L, P, A, pp, q⟩ => ⟨env, L, _, A, pp, fun x v H1 px k1 o1 d1 => by
  cases x with
  | obj C' fs =>
    obtain ⟨rfl, px⟩ := px
    obtain ⟨y, hy, py⟩ := ob_elim px
    obtain ⟨t, dx, us, rfl, h1, _, h2, h3⟩ := dd_objE d1
    rcases look_rel (f := f) h2 h3 with ⟨_, h⟩ | ⟨w, y', g1, g2, g3⟩
    · rw [h] at hy
      cases hy
    · rw [g2] at hy
      cases hy
      exact ⟨t, _, dx, us, w, rfl, h1, c, n, g1, q _ _ H1 py k1 o1 g3⟩
  | _ => exact px.elim⟩
def dMeth (C : Addr) (m : Str) (sp : DSp) (d : TDE) (ds : TDA) : TDE := fun env P => d env fun x => match x with | .obj C' fs => C' = C ∧ fs.lookup m = none ∧ ds env fun xs => sp (.obj C' fs :: xs) P | _ => False
theorem l_meth {C : Addr} {m : Str} {fr : Bool} {sp : DSp} {E : XK} {K : PySem.W.Frag} (hK : F.K = K) : ∀ σ H Q, lC F (dMeth C m sp d ds) σ H Q → tMeth C m (lSp K fr sp) [] E (lC F d) (lA F ds) σ H Q := fun σ H Q ⟨env, L, P, A, pp, q⟩ => by
  subst hK
  exact ⟨env, L, _, A, pp, fun x v H1 px k1 o1 d1 => by
    cases x with
    | obj C' fs =>
      obtain ⟨rfl, hn, px⟩ := px
      obtain ⟨t, dx, us, rfl, h1, _, h2, h3⟩ := dd_objE d1
      have hm : us.lookup m = none := by
        rcases look_rel (f := m) h2 h3 with ⟨h, _⟩ | ⟨w, y', g1, g2, g3⟩
        · exact h
        · rw [hn] at g2
          cases g2
      exact ⟨t, dx, us, rfl, h1, hm, env, L, _, A.step k1 o1, px, fun xs vs H2 pxs k2 o2 d2 => ⟨F.W, F.N L, _, P, fun a h => ((A.step k1 o1).step k2 o2).alN h, fun a h => .inl (A.wn a h), o2, by rw [List.append_nil]; exact .cons ((A.step k1 o1).kd k2 d1) d2, pxs, fun x v H3 p3 k3 o3 d3 _ => q x v H3 p3 ((k1.trans k2).trans k3) o3 d3⟩⟩
    | _ => exact px.elim⟩
theorem l_methN {C : Addr} {m : Str} {sp : DSp} {E : XK} {K : PySem.W.Frag} (hK : F.K = K) : ∀ σ H Q, lN F (dMeth C m sp d ds) σ H Q → tMeth C m (lSp K true sp) [] E (lC F d) (lA F ds) σ H Q := fun σ H Q ⟨env, L, P, A, pp, q⟩ => by
  subst hK
  exact ⟨env, L, _, A, pp, fun x v H1 px k1 o1 d1 => by
    cases x with
    | obj C' fs =>
      obtain ⟨rfl, hn, px⟩ := px
      obtain ⟨t, dx, us, rfl, h1, _, h2, h3⟩ := dd_objE d1
      have hm : us.lookup m = none := by
        rcases look_rel (f := m) h2 h3 with ⟨h, _⟩ | ⟨w, y', g1, g2, g3⟩
        · exact h
        · rw [hn] at g2
          cases g2
      refine ⟨t, dx, us, rfl, h1, hm, env, L, _, A.step k1 o1, px, fun xs vs H2 pxs k2 o2 d2 => ⟨F.W, F.N L, _, P, fun a h => ((A.step k1 o1).step k2 o2).alN h, fun a h => .inl (A.wn a h), o2, by rw [List.append_nil]; exact .cons ((A.step k1 o1).kd k2 d1) d2, pxs, fun x v H3 p3 k3 o3 d3 nn => ?_⟩⟩
      obtain ⟨y, rfl, g1, g2⟩ := nn rfl
      exact q x y H3 p3 ((k1.trans k2).trans k3) o3 (free_of (k1.trans k2) o2 g1) (new_of (fr := true) rfl rfl rfl g2)
    | _ => exact px.elim⟩
theorem a_nil : ∀ σ H (Q : List V → Hp → Prop), lA F aNil σ H Q → tNil σ H Q := l_nil
theorem l_meth0 {C : Addr} {m : Str} {fr : Bool} {sp : DSp} {E : XK} {K : PySem.W.Frag} (hK : F.K = K) : ∀ σ H Q, lC F (dMeth C m sp d aNil) σ H Q → tMeth C m (lSp K fr sp) [] E (lC F d) tNil σ H Q := fun σ H Q h => by
  obtain ⟨env, L, P, A, pp, q⟩ := l_meth (fr := fr) (E := E) hK σ H Q h
  exact ⟨env, L, P, A, pp, fun x v H' px k o dd => let ⟨t, dx, fs, h1, h2, h3, h4⟩ := q x v H' px k o dd; ⟨t, dx, fs, h1, h2, h3, l_nil σ H' _ h4⟩⟩
theorem l_meth0N {C : Addr} {m : Str} {sp : DSp} {E : XK} {K : PySem.W.Frag} (hK : F.K = K) : ∀ σ H Q, lN F (dMeth C m sp d aNil) σ H Q → tMeth C m (lSp K true sp) [] E (lC F d) tNil σ H Q := fun σ H Q h => by
  obtain ⟨env, L, P, A, pp, q⟩ := l_methN (E := E) hK σ H Q h
  exact ⟨env, L, P, A, pp, fun x v H' px k o dd => let ⟨t, dx, fs, h1, h2, h3, h4⟩ := q x v H' px k o dd; ⟨t, dx, fs, h1, h2, h3, l_nil σ H' _ h4⟩⟩
/-- C(..), an __init__ that gives one field -/
def lInit (K : PySem.W.Frag) (C : Addr) (f : Str) (sp : DSp) : Sp := fun vs H Q _ => ∃ (W : Wd) (N0 : Addr → Prop) (x dx : Addr) (us : List V) (ds : List D) (P : D → Prop) (H1 : Hp), vs = .ref x :: us ∧ H1 x = none ∧ H1 dx = none ∧ dx ≠ x ∧ H = upd (upd H1 dx (.own x)) x (.ins C dx []) ∧
  (∀ a, N0 a → ∃ o, H1 a = some o) ∧ (∀ a, W.own a → N0 a) ∧ W.ok H1 ∧ DdAll K N0 W H1 us ds ∧ sp ds P ∧ ∀ y H', P y → KeepW W H1 H' → W.ok H' → Dd K N0 W H' (.ref x) (.obj C [(f, y)]) → Q .non H'
def dMk (C : Addr) (f : Str) (sp : DSp) (ds : TDA) : TDE := fun env P => ds env fun xs => sp xs fun y => P (.obj C [(f, y)])
theorem l_make {C : Addr} {f : Str} {sp : DSp} {E : XK} {K : PySem.W.Frag} (hK : F.K = K) : ∀ σ H Q, lC F (dMk C f sp ds) σ H Q → tMake C (lInit K C f sp) [] E (lA F ds) σ H Q := fun σ H Q ⟨env, L, P, A, pp, q⟩ => by
  subst hK
  exact ⟨env, L, _, A, pp, fun xs vs H1 px k1 o1 d1 x dx nx nd ne => ⟨F.W, F.N L, x, dx, vs, xs, _, H1, by rw [List.append_nil], nx, nd, ne, rfl, fun a h => (A.step k1 o1).alN h, fun a h => .inl (A.wn a h), o1, d1, px, fun y H' py k2 o2 d2 => ⟨rfl, q _ _ H' py (k1.trans k2) o2 d2⟩⟩⟩
end
/-! ### dict(zip(a, b)) -/
def mergeD (kds more : List (Key × D)) : List (Key × D) := more.foldl (fun acc kd => putD acc kd.1 kd.2) kds
theorem merge_rel {K : PySem.W.Frag} {N : Addr → Prop} {W : Wd} {H : Hp} : ∀ {more : List (Key × V)} {mored : List (Key × D)} {kvs : List (Key × V)} {kds : List (Key × D)}, more.map (·.1) = mored.map (·.1) → DdAll K N W H (more.map (·.2)) (mored.map (·.2)) → kvs.map (·.1) = kds.map (·.1) → DdAll K N W H (kvs.map (·.2)) (kds.map (·.2)) →
    (mergeK kvs more).map (·.1) = (mergeD kds mored).map (·.1) ∧ DdAll K N W H ((mergeK kvs more).map (·.2)) ((mergeD kds mored).map (·.2))
  | [], [], _, _, _, _, h1, h2 => ⟨h1, h2⟩
  | [], _ :: _, _, _, e, _, _, _ => by cases e
  | _ :: _, [], _, _, e, _, _, _ => by cases e
  | (k1, v) :: more, (k2, d) :: mored, kvs, kds, e, .cons h a, h1, h2 => by
    have e1 : k1 = k2 := (List.cons.inj e).1
    subst e1
    obtain ⟨r1, r2⟩ := put_rel (k := k1) h1 h2 h
    exact merge_rel (more := more) (mored := mored) (kvs := putK kvs k1 v) (kds := putD kds k1 d) (List.cons.inj e).2 a r1 r2
theorem mergeD_new : ∀ (more kds : List (Key × D)), ((kds ++ more).map (·.1)).Nodup → mergeD kds more = kds ++ more
  | [], kds, _ => by rw [List.append_nil]; rfl
  | (k, d) :: more, kds, h => by
    have hk : (kds.any fun kd => decide (kd.1 = k)) = false := by
      rw [Bool.eq_false_iff]
      intro hz
      obtain ⟨q, hq, e⟩ := List.any_eq_true.mp hz
      have e := of_decide_eq_true e
      rw [List.map_append, List.nodup_append] at h
      exact h.2.2 q.1 (List.mem_map.mpr ⟨q, hq, rfl⟩) k (by simp) e
    have e2 : putD kds k d = kds ++ [(k, d)] := by
      unfold putD
      rw [hk]
      rfl
    show mergeD (putD kds k d) more = _
    rw [e2, mergeD_new more (kds ++ [(k, d)]) (by rw [List.append_assoc]; exact h), List.append_assoc]
    rfl
def dDictZip (ds : TDA) : TDE := fun env P => ds env fun xs => match xs with
  | [.lst ks, .lst ys] => ob (keysD ks) fun kk => kk.length = ys.length ∧ P (.dic (mergeD [] (kk.zip ys)))
  | _ => False
theorem l_dictZip {F : Fx} {ds : TDA} {K : PySem.W.Frag} (hK : F.K = K) : ∀ σ H Q, lN F (dDictZip ds) σ H Q → RK.tDictZip K (lA F ds) σ H Q := fun σ H Q ⟨env, L, P, A, pp, q⟩ => ⟨env, L, _, A, pp, fun xs vs H1 px k1 o1 d1 => by
  match xs, px, d1 with
  | [.lst ks, .lst ys], px, .cons da (.cons db .nil) =>
    obtain ⟨kk, hk, hl, px⟩ := ob_elim px
    obtain ⟨a, us, rfl, h1, _, h2⟩ := dd_lstE da
    obtain ⟨b, ws, rfl, h3, _, h4⟩ := dd_lstE db
    have hu := keysD_v h2 hk
    subst hu
    have hl2 : kk.length = ws.length := by rw [h4.len]; exact hl
    refine ⟨a, b, kk, ws, rfl, SqL.of h1, SqL.of h3, hl2, fun p hp => q _ p _ px (k1.trans (.new hp)) (ok_new o1 hp) (free_of k1 o1 hp) ?_⟩
    obtain ⟨r1, r2⟩ := merge_rel (K := F.K) (N := F.N L) (W := F.W) (H := H1) (more := kk.zip ws) (mored := kk.zip ys) (kvs := []) (kds := []) (by rw [List.map_fst_zip (by omega), List.map_fst_zip (by omega)]) (by rw [List.map_snd_zip (by omega), List.map_snd_zip (by omega)]; exact h4) rfl .nil
    exact ⟨_, upd_same, r1, new_pres (A.step k1 o1) hp r2⟩⟩
/-! ### the law's first helpers, by data -/
section
variable {P : Program} {w : World} {K : PySem.W.Frag} {mg : Str → Option Value} {base : Heap} {CX : CXT} {k : Nat} {f : Addr} {fd : FuncData} {ps : List Str}
def sp_pull : DSp := fun ds P => ∃ n : Int, ds = [.bag, .int n] ∧ 1 ≤ n ∧ n ≤ 10000000000000000000000000000000000000000 ∧ ∀ r : Int, 0 ≤ r → r < n → P (.int r)
theorem keepW_of {b s : Addr} {T : List (Addr × Str)} {H H' : Hp} (k : RK.Keep b H H') : KeepW (some (b, s, T)) H H' := fun a o n h => k a o (fun z => n (.inl z)) h
/-- the tables stand through a draw -/
theorem tabs_keep {b s : Addr} {T : List (Addr × Str)} {H H' : Hp} (B : Bag b s H) (t : LamX.Tabs T H) (k : RK.Keep b H H') : LamX.Tabs T H' := fun p hp => by
  obtain ⟨ys, hb⟩ := B.hb
  obtain ⟨ps, h1, h2, h3⟩ := t p hp
  refine ⟨ps, k _ _ (fun z => by rw [z, hb] at h1; cases h1) h1, h2, fun pos cv hc => ?_⟩
  obtain ⟨c, e, hcd⟩ := h3 pos cv hc
  exact ⟨c, e, k _ _ (fun z => by rw [z, hb] at hcd; cases hcd) hcd⟩
theorem bag_arg {N : Addr → Prop} {W : Wd} {H : Hp} {v : V} (h : Dd K N W H v .bag) : ∃ b s T, W = some (b, s, T) ∧ v = .ref b := by
  cases h with | bag e => exact ⟨_, _, _, e, rfl⟩
theorem pull_d (h : FnOk P w K mg base CX k f fd ps spPull) : FnOk P w K mg base CX k f fd ps (lSp K false sp_pull) := h.imp fun vs H Q E ⟨W, N0, ds, Pd, al, wn, ok, dd, ⟨n, e, h1, h2, h3⟩, q⟩ => by
  subst e
  cases dd with | cons d1 dd => cases dd with | cons d2 dd =>
    cases dd
    obtain ⟨b, s, T, rfl, rfl⟩ := bag_arg d1
    have := dd_intE d2
    subst this
    exact ⟨b, s, n, rfl, ok.1, h1, h2, fun r H' r0 r1 k B => q _ _ H' (h3 r r0 r1) (keepW_of k.f) ⟨B, tabs_keep ok.1 ok.2.1 k.f, fun ne a ps h => let ⟨qs, q⟩ := k.n a ps h; ok.2.2 ne a qs q⟩ (.int r) fun z => by cases z⟩
end
end DL

namespace DL
open PySem PySem.Spec PyProof.Rows L2 RK
def st (n : Nat) (ds : List D) : De := ds.map En.fz ++ List.replicate (n - ds.length) En.no
def kwP (π : List Nat) (xs : List D) : List D := π.map fun i => xs.getD i .non
def dCallK (sp : DSp) (π : List Nat) (ds : TDA) : TDE := fun env P => ds env fun xs => xs.length = π.length ∧ sp (kwP π xs) P
section
variable {X : Cx} {F : Fx} {dk : TDA} {pos p : Pos} {CX : CXT} {k : Nat} {f : Addr} {fd : FuncData} {ps ks : List Str} {sp : DSp} {E : XK} {x : Str} {fr : Bool} {K : PySem.W.Frag}
theorem dd_callKP {g : List Value → List Value → List Value} {gV : List V → List V → List V} {π : List Nat} {kws : List Keyword} (G : FnOk X.prog X.w X.K X.mg X.base CX k f fd ps (lSp K fr sp)) (hr : Room k X.A) (hg : Gl X x) (hm : X.mg x = some (.ref f)) (hk : PySem.W.keepIn X.K (.ref f) = true) (hb : KBinds X.K fd ps ks g gV) (hx : Passes CX X E) (hkw : PK X kws (lA F dk))
    (hD : ∀ {K : PySem.W.Frag} {N : Addr → Prop} {W : Wd} {H : Hp} {zs : List V} {es : List D}, DdAll K N W H zs es → es.length = π.length → DdAll K N W H (gV [] zs) (kwP π es)) (hK : F.K = K := by rfl)
    (hall : (backToKw pos (keywordEach kws X.env)).all (·.1.isSome) = true := by rfl) (hks : (backToKw pos (keywordEach kws X.env)).filterMap (·.1) = ks := by rfl) (hdb : (x == ("__debug__" : Str)) = false := by decide)
    (hpl : ((backTo pos (starEach [] X.env)).any (·.1) || (backToKw pos (keywordEach kws X.env)).any (·.1.isNone)) = false := by rfl) :
    PE X (.Call (.Name x p) [] kws pos) (lC F (dCallK sp π dk)) := PE.mono (pe_callK0 G hr hg hm hk hb hx hkw hall hks hdb hpl) fun σ H Q ⟨env, L, P, A, pp, q⟩ => by
  subst hK
  exact ⟨env, L, _, A, pp, fun xs vs H1 px k1 o1 d1 => ⟨F.W, F.N L, kwP π xs, P, fun a h => (A.step k1 o1).alN h, fun a h => .inl (A.wn a h), o1, hD d1 px.1, px.2, fun x v H2 p2 k2 o2 d2 _ => q x v H2 p2 (k1.trans k2) o2 d2⟩⟩
end
/-! ### an __init__ of two statements: a call, then one field -/
section
variable {F : Fx} {env : De} {σ : L2.St} {L : List Addr} {H H' : Hp}
theorem Abs.setAny (A : Abs F env σ L H) (i : Nat) (v : Option V) : Abs F (env.set i .no) (σ.set i v) L H := by
  refine ⟨A.ok, A.al, A.wn, A.kp, A.fr, by rw [List.length_set, List.length_set, A.ls], fun j l a ej el h1 h2 o1 o2 s1 s2 => ?_, fun j e y h1 h2 => ?_⟩
  · have f : ∀ (j : Nat) (ej : En), (env.set i .no)[j]? = some ej → ej.isOw = true → i ≠ j := fun j ej h o z => by
      subst z
      by_cases hi : i < env.length
      · rw [List.getElem?_set_self hi] at h
        cases h
        cases o
      · rw [List.getElem?_eq_none (by rw [List.length_set]; omega)] at h
        cases h
    have hj := f j ej h1 o1
    have hl := f l el h2 o2
    rw [List.getElem?_set_ne hj] at h1 s1
    rw [List.getElem?_set_ne hl] at h2 s2
    exact A.sep j l a ej el h1 h2 o1 o2 s1 s2
  · by_cases hj : i = j
    · subst hj
      by_cases hi : i < env.length
      · rw [List.getElem?_set_self hi] at h1
        cases h1
        trivial
      · rw [List.getElem?_eq_none (by rw [List.length_set]; omega)] at h1
        cases h1
    · rw [List.getElem?_set_ne hj] at h1 h2
      exact A.en j e y h1 h2
end
theorem init1 {K : PySem.W.Frag} {W : Wd} {N0 : Addr → Prop} {H1 : Hp} {x dx C : Addr} {f : Str} {us : List V} {ds : List D} {N : List Str} {Pd : D → Prop} {Q : VK} {d1 d2 : TDE} (c : Cls K C) (na : NoAttr K C f) (nx : H1 x = none) (ndx : H1 dx = none) (ne : dx ≠ x)
    (al : ∀ a, N0 a → ∃ o, H1 a = some o) (wn : ∀ a, W.own a → N0 a) (ok : W.ok H1) (dd : DdAll K N0 W H1 us ds) (hN : us.length + 1 ≤ N.length)
    (q : ∀ y H', Pd y → KeepW W H1 H' → W.ok H' → Dd K N0 W H' (.ref x) (.obj C [(f, y)]) → Q .non H') (h : d1 (.no :: startE (N.drop 1) ds) fun _ => d2 (.no :: startE (N.drop 1) ds) Pd) :
    tSeq (tDrop (lC ⟨K, W, N0, H1, false⟩ d1)) (sFld K (tVar 0) (lN ⟨K, W, N0, H1, false⟩ d2) f) { nx := fun _ H' => Q .non H', rt := Q } (L2.start N (.ref x :: us)) (upd (upd H1 dx (.own x)) x (.ins C dx [])) := by
  obtain ⟨n0, N', rfl⟩ : ∃ n0 N', N = n0 :: N' := by
    cases N with
    | nil => simp at hN
    | cons a b => exact ⟨a, b, rfl⟩
  have A0 : Abs ⟨K, W, N0, H1, false⟩ (startE (n0 :: N') (.non :: ds)) (L2.start (n0 :: N') (.non :: us)) [] H1 := abs_start al wn ok (.cons .non dd)
  have A1 := A0.setAny 0 (some (.ref x))
  have e1 : (startE (n0 :: N') (.non :: ds)).set 0 .no = .no :: startE N' ds := by
    unfold startE
    rw [List.map_cons, List.cons_append, List.set_cons_zero, List.length_cons, List.length_cons, Nat.add_sub_add_right]
  have e2 : (L2.start (n0 :: N') (.non :: us)).set 0 (some (.ref x)) = L2.start (n0 :: N') (.ref x :: us) := by
    unfold L2.start
    rw [List.map_cons, List.cons_append, List.set_cons_zero]
    rfl
  rw [e1, e2] at A1
  have nx2 : (upd H1 dx (.own x)) x = none := by rw [upd_ne ne.symm]; exact nx
  have k0 : KeepW W H1 (upd (upd H1 dx (.own x)) x (.ins C dx [])) := (KeepW.new ndx).trans (.new nx2)
  have o0 : W.ok (upd (upd H1 dx (.own x)) x (.ins C dx [])) := ok_new (ok_new ok ndx) nx2
  have A2 : Abs ⟨K, W, N0, H1, false⟩ (.no :: startE N' ds) (L2.start (n0 :: N') (.ref x :: us)) [x] (upd (upd H1 dx (.own x)) x (.ins C dx [])) := A1.grow k0 o0 (pres_cons A1 k0 nx) (fun a h => by cases h) fun a h => by
    rcases List.mem_cons.mp h with h | h
    · subst h
      exact .inr ⟨nx, _, upd_same, True.intro⟩
    · cases h
  have nox : ¬ W.own x := fun z => by
    obtain ⟨o, e⟩ := al x (wn x z)
    rw [nx] at e
    cases e
  refine ⟨_, _, _, A2, h, fun _ v H2 p2 k2 o2 _ => ?_⟩
  have A3 := A2.step k2 o2
  refine ⟨_, _, _, A3, p2, fun y a H3 p3 k3 o3 na3 nv => ?_⟩
  have hx : H3 x = some (.ins C dx []) := k3 x _ nox (k2 x _ nox upd_same)
  refine ⟨.ref x, rfl, x, C, dx, [], rfl, hx, c, na, by decide, q y _ p3 ?_ ?_ ?_⟩
  · intro b o nb hb
    have hne : b ≠ x := ne_of_none hb nx
    rw [upd_ne hne]
    exact k3 b o nb (k2 b o nb (k0 b o nb hb))
  · exact Wd.st o3 (n := noT_upd True.intro) fun b o hb nb => by
      have hne : b ≠ x := fun z => by
        rcases nb with nb | nb
        · exact nox (z ▸ nb)
        · rw [z, hx] at hb
          exact nb (Option.some.inj hb ▸ True.intro)
      rw [upd_ne hne]
      exact hb
  · have hn : ¬ N0 x := fun z => by
      obtain ⟨o, e⟩ := al x z
      rw [nx] at e
      cases e
    have A4 := A3.step k3 o3
    have dy : Dd K (Fx.N ⟨K, W, N0, H1, false⟩ [x]) W H3 (.ref a) y := nv.dd (A3.new na3)
    have dy2 : Dd K N0 W (upd H3 x (.ins C dx (putF f (.ref a) []))) (.ref a) y := dy.pres fun b o nb hb => ⟨fun z => nb (.inl z), by
      have hne : b ≠ x := fun z => nb (.inr (by rw [z]; exact List.mem_cons_self))
      rw [upd_ne hne]
      exact hb⟩
    exact .obj upd_same hn rfl (.cons dy2 .nil)
/-! ### the law: the bag is made, then all is data -/
theorem pss_ex {X : Cx} {K : PySem.W.Frag} {sts : List Stmt} {d : TDS} (h : ∀ W N0 H0, PSs X sts (lS ⟨K, W, N0, H0, false⟩ d)) : PSs X sts (fun E σ H => ∃ W N0 H0, lS ⟨K, W, N0, H0, false⟩ d E σ H) := ⟨fun pins s σ H E I ⟨W, N0, H0, q⟩ => (h W N0 H0).run pins s σ H E I q⟩
def spLaw (K : PySem.W.Frag) : Sp := fun vs H Q _ => ∃ (a : Addr) (ns : List Int), vs = [.ref a] ∧ SqL K H a (ns.map V.int) ∧ ns.length ≤ 63 ∧ ∀ H', Q (.bl true) H'
theorem law_bag {K : PySem.W.Frag} {Q : VK} {d : TDS} {H H' : Hp} {a b s : Addr} {n : Nat} (e : Same H H') (nb : H b = none) (B : Bag b s H') (q : ∀ H', Q (.bl true) H') (h : d { nx := fun _ => False, rt := fun x => x = .bl true } (.no :: .fz .bag :: List.replicate n .no)) :
    ∃ W N0 H0, lS ⟨K, W, N0, H0, false⟩ d { nx := fun _ H' => Q .non H', rt := Q } (some (.ref a) :: some (.ref b) :: List.replicate n none) H' := by
  refine ⟨some (b, s, []), fun z => z = b ∨ z = s, H', _, [], _, ?_, h, fun _ _ _ _ z => z.elim, fun x v H2 hx r => ?_, fun _ _ _ _ z => z.elim, fun _ _ _ _ z => z.elim⟩
  · obtain ⟨yb, hb⟩ := B.hb
    obtain ⟨ys, hs⟩ := B.hs
    refine ⟨⟨B, (fun p hp => by cases hp), fun ne => absurd rfl ne⟩, fun z hz => ?_, fun z hz => hz.imp id fun hz => hz.resolve_right fun ⟨p, hp, _⟩ => (by cases hp), .refl _ _, fun z hz => (by cases hz), ?_, fun i j z ei ej h1 h2 o1 o2 _ _ => ?_, fun i e x h1 h2 => ?_⟩
    · rcases hz with rfl | rfl
      · exact ⟨_, hb⟩
      · exact ⟨_, hs⟩
    · simp
    · exfalso
      match i, h1 with
      | 0, h1 => cases h1; cases o1
      | 1, h1 => cases h1; cases o1
      | i + 2, h1 =>
        rw [List.getElem?_cons_succ, List.getElem?_cons_succ] at h1
        rw [(List.mem_replicate.mp (List.mem_of_getElem? h1)).2] at o1
        cases o1
    · match i, h1, h2 with
      | 0, h1, h2 => cases h1; trivial
      | 1, h1, h2 =>
        cases h1
        cases h2
        exact .bag rfl
      | i + 2, h1, h2 =>
        rw [List.getElem?_cons_succ, List.getElem?_cons_succ] at h1
        rw [(List.mem_replicate.mp (List.mem_of_getElem? h1)).2]
        trivial
  · subst hx
    have := dd_blE r.dd
    subst this
    exact q H2
end DL

/-! enumerate(t), t a tuple: the library has it for lists and texts -/
namespace RK
open PySem PySem.Spec PyProof.Rows L2
open PySem.Sem (wp)
/-- the two objects that enumerate of the tuple at l lays -/
abbrev enT1 (l : Addr) : Obj := { cls := .type "tuple_iterator", data := .fields #[.ref l, .int 0 0] }
abbrev enT2 (n : Addr) : Obj := { cls := .type "enumerate", data := .fields #[.none, .bool false, .ref n, rawInt 0, .none, .none] }
theorem meets_enumT (l : Addr) (its : Array Value) :
    Meets (Builtin.«enumerate.__new__» ⟨[.type "enumerate", .ref l], []⟩) (fun _ R s => s.heap.IsTuple l its ∧ R (.ok (.ret (.ref (s.heap.push (enT1 l)).objs.size))) { s with heap := (s.heap.push (enT1 l)).push (enT2 s.heap.objs.size) }) :=
  .of_wp fun prog w A R s h => by
    obtain ⟨hp, g, d, tk, os⟩ := s
    obtain ⟨ht, h⟩ := h
    have sb := sub_enumerate
    have hT : Heap.IsTuple (Shared.heap ⟨hp, g, d, tk, os⟩) l its := ht
    obtain ⟨⟨c, dct, dt, sl⟩, ho, hc, n, hd⟩ := id hT
    replace hc : c = .type "tuple" := hc
    replace hd : dt = .seq its n := hd
    subst hc hd
    wp_walk using AutoSeq1.wpAny_loadPart' ho
    refine wpAny_stack_any fun stk => wpAny_pure ?_
    split
    · rename_i c _ _ _ _ _
      cases (c == Value.type "enumerate")
      · wp_walk using AutoSeq1.wpAny_loadPart' ho, wpAny_pyIter_tuple hT
        exact ⟨_, rfl, h⟩
      · wp_walk using AutoSeq1.wpAny_loadPart' ho, wpAny_pyIter_tuple hT
        exact ⟨_, rfl, h⟩
    · wp_walk using AutoSeq1.wpAny_loadPart' ho, wpAny_pyIter_tuple hT
      exact ⟨_, rfl, h⟩
theorem call_enumT {prog : Program} {w : World} {A : Around} {E : Value → Shared → Prop} {s : Shared} {l : Addr} {its : Array Value} {Q : Value → Shared → Prop} (hT : s.heap.IsTuple l its)
    (h : ∀ h', IsEnum h' (s.heap.objs.size + 1) s.heap.objs.size 0 .none → h'.IsTupleIter s.heap.objs.size l 0 → (∀ b o, s.heap.get? b = some o → h'.get? b = some o) → Q (.ref (s.heap.objs.size + 1)) { s with heap := h' }) :
    wpAny (model prog w) A (call (.type "enumerate") [.ref l]) Q E s := by
  refine callType_new F.called_enumerate (by decide) (F.typeCall_enumerate_1 _) (F.newCall_enumerate_1 _) (fun obj => F.args_object_init_2 obj _) F.entry_enumerate_new (meets_enumT l its) ⟨hT, ?_⟩
  have z1 : (s.heap.push (enT1 l)).objs.size = s.heap.objs.size + 1 := Heap.size_push ..
  show _ ∧ _
  rw [z1]
  have en : IsEnum ((s.heap.push (enT1 l)).push (enT2 s.heap.objs.size)) (s.heap.objs.size + 1) s.heap.objs.size 0 .none := by
    have g := Heap.get?_push_size (s.heap.push (enT1 l)) (o := enT2 s.heap.objs.size) rfl
    rw [z1] at g
    exact g
  exact ⟨⟨_, en, rfl⟩, h _ en ⟨_, Heap.get?_push_of_some _ (Heap.get?_push_size _ rfl), rfl, rfl⟩ fun b o q => Heap.get?_push_of_some _ (Heap.get?_push_of_some _ q)⟩
/-- the tuple at a, each item in a new pair -/
def IteT (K : PySem.W.Frag) (a : Addr) : It :=
  ⟨fun i H => ∃ (xs : List V) (x : V), SqT K H a xs ∧ xs[i]? = some x, fun i H v H' => ∃ T x, v = .ref T ∧ H T = none ∧ H' = upd H T (.tup [.int (i : Nat), x]) ∧ ∀ xs, SqT K H a xs → xs[i]? = some x, fun i H => ∃ xs : List V, SqT K H a xs ∧ xs.length = i⟩
theorem turn_enumT {P : Program} {w : World} {K : PySem.W.Frag} {elts : List Expr} {kk : Nat} {tpos : Pos} (a e it : Addr) (hae : e ≠ a) (hai : a ≠ it) (hei : e ≠ it) :
    Turn P w K (.Tuple elts kk tpos) (IteT K a) [e, it] e (fun i h => (∃ old, IsEnum h e it ((i : Nat) : Int) old) ∧ h.IsTupleIter it a i) where
  mem := List.mem_cons_self
  obj := fun i h tn b hb => by
    obtain ⟨⟨old, he⟩, ⟨o, ho, hc, hd⟩⟩ := tn
    rcases List.mem_cons.mp hb with z | z
    · rw [z]
      exact ⟨_, he, fun v q => nomatch q⟩
    · rw [List.mem_singleton.mp z]
      exact ⟨o, ho, fun v q => by rw [hd] at q; cases q⟩
  keep := fun i h h' tn k => ⟨let ⟨old, he⟩ := tn.1; ⟨old, k e List.mem_cons_self _ he⟩, tn.2.at fun o q => k it (by simp) o q⟩
  item := by
    intro X hP hw hK hc i pins s σ H E I hf tn go
    subst hP hw hK
    obtain ⟨⟨old, he⟩, hit⟩ := tn
    obtain ⟨xs, x, hq, hx⟩ := go
    obtain ⟨its, rv, p, hz⟩ := I.tuple hq
    obtain ⟨u, hu, ru⟩ := rv.get hx
    have hil : i < its.toArray.size := by simpa using (List.getElem?_eq_some_iff.mp hu).1
    have ue : its.toArray[i]? = some u := by simpa using hu
    have he1 : e < s.heap.objs.size := Heap.lt_size he
    have he2 : it < s.heap.objs.size := let ⟨_, q, _⟩ := hit; Heap.lt_size q
    refine wpAny_pyNext_enum_itemD (Draws.tuple (A := X.A.in1) (show X.A.in1.handled = none from I.ok.hd hc) it a hai its.toArray) he ⟨hit, p⟩ hil hei (by simp [hae, hei]) fun v h' tk hv ho st2 hT hsz hk => ?_
    have ev : v = u := Option.some.inj (hv.symm.trans ue)
    subst ev
    refine ⟨_, rfl, wpAny_letOwnedTupleGo_enum (s := { s with heap := h', toks := tk + 1 }) ho fun h'' en sb => ?_⟩
    have hT2 : h''.get? s.heap.objs.size = some { cls := .type "tuple", data := .seq #[.int i tk, v] } := (sb.2 _ (Nat.ne_of_gt he1)).trans hT
    have new : ObjOk X.prog X.w (upd H s.heap.objs.size (.tup [.int (i : Nat), x])) h'' s.heap.objs.size (.tup [.int (i : Nat), x]) :=
      ⟨(by show 2 ≤ sizeLine; decide), [.int i tk, v], .cons ⟨tk, rfl⟩ (.cons ru .nil), ⟨_, hT2, rfl, _, rfl⟩⟩
    have I1 : Inv X pins σ (upd H s.heap.objs.size (.tup [.int (i : Nat), x])) { s with heap := h'', toks := tk + 1 } :=
      I.turnedNew (ch := [e, it]) (fun b ob hb q => by
        have b1 : b ≠ e := fun z => hb (by rw [z]; exact List.mem_cons_self)
        have b2 : b ≠ it := fun z => hb (by rw [z]; simp)
        exact (sb.2 b b1).trans (hk b ob b1 b2 q)) hf (Nat.le_refl _) new
    refine ⟨.ref s.heap.objs.size, _, I1, rfl, ⟨_, x, rfl, I.hok.fresh (Nat.le_refl _), rfl, fun ys hy => by rw [I.tuple_inj hy hq]; exact hx⟩, ⟨⟨v, ?_⟩, st2.1.at fun o q => (sb.2 it hei.symm).trans q⟩, fun b hb => ?_⟩
    · rw [show ((i + 1 : Nat) : Int) = (i : Int) + 1 by omega]
      exact en
    · have lt : b < s.heap.objs.size := by
        rcases List.mem_cons.mp hb with z | z
        · rw [z]; exact he1
        · rw [List.mem_singleton.mp z]; exact he2
      rw [upd_ne (Nat.ne_of_lt lt)]
      exact (hf b hb).1
  done := by
    intro X hP hw hK hc i pins s σ H E I hf tn go
    subst hP hw hK
    obtain ⟨⟨old, he⟩, hit⟩ := tn
    obtain ⟨xs, hq, hx⟩ := go
    obtain ⟨its, rv, p, hz⟩ := I.tuple hq
    obtain ⟨f0, f1, f2, f3, f4, f5⟩ := hf it (by simp)
    have hl : its.toArray.size = i := by rw [List.size_toArray, ← rv.length]; exact hx
    exact wpAny_pyNext_enum_endD (Draws.tuple (A := X.A.in1) (show X.A.in1.handled = none from I.ok.hd hc) it a hai its.toArray) he (by rw [hl]; exact ⟨hit, p⟩) fun h' eb => ⟨rfl, I.turned (t' := s.toks) (fun b o hb q => eb b o hb q) f0 f1 f3 f4 f5⟩
  self := fun A i s Q E tn h => let ⟨⟨_, he⟩, _⟩ := tn; wpAny_pyIter_enum he h
def iEnumT (K : PySem.W.Frag) (ta : TA) : TI := fun σ H R => ta σ H fun vs H1 => ∃ a xs, vs = [.ref a] ∧ SqT K H1 a xs ∧ R (IteT K a) H1
theorem pi_enumT {X : Cx} {e : Expr} {ta : TA} {p pos tpos : Pos} {elts : List Expr} {kk : Nat} (hg : Gl X "enumerate") (hm : X.mg "enumerate" = none) (ha : PA X [e] ta) (hs : starEach [e] X.env = [(false, eval e X.env)] := by rfl) :
    PI X (.Tuple elts kk tpos) (.Call (.Name "enumerate" p) [e] [] pos) (iEnumT X.K ta) := ⟨fun pins s σ H R I h => by
  refine Call_ (ld_blt I hg hm boot_enumerate (PyProof.Rows.callWith_type1 (thn (ha.run pos pins s σ H _ I h) fun us s1 ⟨vs, H1, I1, r1, q1⟩ => ?_) hs rfl))
  obtain ⟨a, xs, rfl, hq, q⟩ := q1
  obtain ⟨u, rfl, ru⟩ := vals1 r1
  cases ru
  obtain ⟨its, rv, pt, hz⟩ := I1.tuple hq
  have la : a < s1.heap.objs.size := pt.lt
  refine call_enumT pt fun h' he hit hk => wpAny_pyIter_enum he ?_
  refine ⟨s1.heap.objs.size + 1, [s1.heap.objs.size + 1, s1.heap.objs.size], _, _, H1, rfl, I1.kept (t' := s1.toks) hk, turn_enumT a (s1.heap.objs.size + 1) s1.heap.objs.size (Nat.ne_of_gt (Nat.lt_succ_of_lt la)) (Nat.ne_of_lt la) (Nat.succ_ne_self _), ⟨⟨.none, he⟩, hit⟩, fun b hb => ?_, q⟩
  have le : s1.heap.objs.size ≤ b := by
    rcases List.mem_cons.mp hb with z | z
    · rw [z]; exact Nat.le_add_right _ _
    · rw [List.mem_singleton.mp z]; exact Nat.le_refl _
  exact I1.fpOk le (I1.hok.fresh le)⟩
end RK

namespace DL
open PySem PySem.Spec PyProof.Rows L2 RK
section
variable {X : Cx} {F : Fx} {e a b c tg iter : Expr} {es : List Expr} {d da db dc : TDE} {ds : TDA} {pos p : Pos} {i j l : Nat}
/-! ### enumerate -/
def enuD : Nat → List D → List D
  | _, [] => []
  | k, x :: xs => .tup [.int (k : Nat), x] :: enuD (k + 1) xs
theorem enu_len : ∀ (k : Nat) (xs : List D), (enuD k xs).length = xs.length
  | _, [] => rfl
  | k, x :: xs => by rw [enuD, List.length_cons, enu_len, List.length_cons]
theorem enu_get : ∀ (k i : Nat) (xs : List D), (enuD k xs)[i]? = xs[i]?.map fun x => .tup [.int ((k + i : Nat) : Int), x]
  | k, i, [] => by simp [enuD]
  | k, 0, x :: xs => rfl
  | k, i + 1, x :: xs => by
    rw [enuD, List.getElem?_cons_succ, enu_get (k + 1) i xs, List.getElem?_cons_succ]
    have : k + 1 + i = k + (i + 1) := by omega
    rw [this]
def iEnu (d : TDE) : TDI := fun env P => (d env fun x => ob (lstD x) fun xs => P (enuD 0 xs)) ∨ (d env fun x => ob (tupD x) fun xs => P (enuD 0 xs))
theorem enu_new {N' : Addr → Prop} {H' H2 : Hp} {T : Addr} {v : V} {x : D} {i : Nat} (al : ∀ a, N' a → ∃ o, H' a = some o) (hT : H' T = none) (h2 : H2 = upd H' T (.tup [.int (i : Nat), v])) (dv : Dd F.K N' F.W H' v x) :
    Stn H' H2 ∧ Dd F.K N' F.W H2 (.ref T) (.tup [.int (i : Nat), x]) := by
  subst h2
  have kp : ∀ a o, H' a = some o → upd H' T (.tup [.int (i : Nat), v]) a = some o := fun a o h => by rw [upd_ne (ne_of_none h hT)]; exact h
  refine ⟨.new hT True.intro, .tup upd_same (fun z => ?_) (.cons (.int _) (.cons (dv.keep (fun a u _ h => kp a u h) fun _ z => z) .nil))⟩
  obtain ⟨o, ho⟩ := al T z
  rw [hT] at ho
  cases ho
theorem it_enuL {Rel : (Addr → Prop) → Hp → Prop} {t : Addr} {vs : List V} {xs : List D} (h : ∀ N' H', Rel N' H' → H' t = some (.lst vs) ∧ DdAll F.K N' F.W H' vs xs) : ItOk F Rel (Ite F.K t) (enuD 0 xs) := fun N' H' r al i => by
  obtain ⟨h1, h2⟩ := h N' H' r
  refine ⟨fun hi => ⟨vs, SqL.of h1, by rw [h2.len, ← enu_len 0 xs]; exact Nat.le_of_eq hi⟩, fun x hx => ?_⟩
  rw [enu_get, Nat.zero_add] at hx
  obtain ⟨y, hy, rfl⟩ := Option.map_eq_some_iff.mp hx
  obtain ⟨v, hv, dv⟩ := h2.get hy
  refine ⟨⟨vs, v, SqL.of h1, hv⟩, fun w H2 hy => ?_⟩
  obtain ⟨T, z, rfl, hT, h2', hz⟩ := hy
  have := hz vs (SqL.of h1)
  rw [hv] at this
  cases this
  exact enu_new al hT h2' dv
theorem it_enuT {Rel : (Addr → Prop) → Hp → Prop} {t : Addr} {vs : List V} {xs : List D} (h : ∀ N' H', Rel N' H' → SqT F.K H' t vs ∧ DdAll F.K N' F.W H' vs xs) : ItOk F Rel (IteT F.K t) (enuD 0 xs) := fun N' H' r al i => by
  obtain ⟨h1, h2⟩ := h N' H' r
  refine ⟨fun hi => ⟨vs, h1, by rw [h2.len, ← enu_len 0 xs]; exact hi⟩, fun x hx => ?_⟩
  rw [enu_get, Nat.zero_add] at hx
  obtain ⟨y, hy, rfl⟩ := Option.map_eq_some_iff.mp hx
  obtain ⟨v, hv, dv⟩ := h2.get hy
  refine ⟨⟨vs, v, h1, hv⟩, fun w H2 hy => ?_⟩
  obtain ⟨T, z, rfl, hT, h2', hz⟩ := hy
  have := hz vs h1
  rw [hv] at this
  cases this
  exact enu_new al hT h2' dv
theorem di_enum {elts : List Expr} {kk : Nat} {tpos : Pos} (hg : Gl X "enumerate") (hm : X.mg "enumerate" = none) (he : PE X e (lC F d)) (hs : starEach [e] X.env = [(false, eval e X.env)] := by rfl) (hs2 : starEach [e] X.env = (false, eval e X.env) :: starEach [] X.env := by rfl) (hK : F.K = X.K := by rfl) :
    PI X (.Tuple elts kk tpos) (.Call (.Name "enumerate" p) [e] [] pos) (lI F (iEnu d)) := PI.mono (PI.or (pi_enum hg hm (pa_cons he pa_nil hs2) hs) (pi_enumT hg hm (pa_cons he pa_nil hs2) hs)) fun σ H R ⟨env, L, P, A, pp, q⟩ => by
  rw [← hK]
  rcases pp with pp | pp
  · refine .inl ⟨env, L, _, A, pp, fun x v H1 px k1 o1 d1 => ?_⟩
    obtain ⟨xs, e, px⟩ := ob_elim px
    have := lstD_e e
    subst this
    obtain ⟨t, vs, rfl, h1, h2, h3⟩ := dd_lstE d1
    exact ⟨t, vs, rfl, SqL.of h1, q _ _ H1 px k1 o1 (it_enuL fun N' H' r => ⟨(r t _ h2 h1).2, h3.pres r⟩)⟩
  · refine .inr ⟨env, L, _, A, pp, fun x v H1 px k1 o1 d1 => ?_⟩
    obtain ⟨xs, e, px⟩ := ob_elim px
    obtain ⟨t, vs, rfl, h1, h2⟩ := seqT_keep (N' := fun _ => False) (H' := H1) e d1
    exact ⟨t, vs, rfl, h1, q _ _ H1 px k1 o1 (it_enuT fun N' H' r => h2 N' H' r)⟩
theorem db_enum {elts : List Expr} {kk : Nat} {tpos : Pos} (hg : Gl X "enumerate") (hm : X.mg "enumerate" = none) (he : PE X e (lB F d)) (hs : starEach [e] X.env = [(false, eval e X.env)] := by rfl) (hs2 : starEach [e] X.env = (false, eval e X.env) :: starEach [] X.env := by rfl) (hK : F.K = X.K := by rfl) :
    PI X (.Tuple elts kk tpos) (.Call (.Name "enumerate" p) [e] [] pos) (lIb F (iEnu d)) := PI.mono (PI.or (pi_enum hg hm (pa_cons he pa_nil hs2) hs) (pi_enumT hg hm (pa_cons he pa_nil hs2) hs)) fun σ H R ⟨env, L, P, A, pp, q⟩ => by
  rw [← hK]
  rcases pp with pp | pp
  · refine .inl ⟨env, L, _, A, pp, fun x v H1 px k1 o1 d1 => ?_⟩
    obtain ⟨xs, e, px⟩ := ob_elim px
    have := lstD_e e
    subst this
    obtain ⟨t, vs, rfl, h1, h2, h3⟩ := bw_lstO (A.step k1 o1) d1
    exact ⟨t, vs, rfl, SqL.of h1, q _ _ H1 px k1 o1 (it_enuL fun N' H' r => ⟨(r t _ h2 h1).2, h3.pres (relK_p (A.step k1 o1) r)⟩)⟩
  · refine .inr ⟨env, L, _, A, pp, fun x v H1 px k1 o1 d1 => ?_⟩
    obtain ⟨xs, e, px⟩ := ob_elim px
    obtain ⟨t, vs, rfl, h1, h2⟩ := seqT_keep (N' := fun _ => False) (H' := H1) e (bw_tupC e d1)
    exact ⟨t, vs, rfl, h1, q _ _ H1 px k1 o1 (it_enuT fun N' H' r => h2 N' H' (relK_p (A.step k1 o1) r))⟩
/-! ### an owned thing is lent for one value that holds nothing of it -/
def dLend (i : Nat) (d : TDE) : TDE := fun env P => ob (env[i]?.bind frz) fun e => d (env.set i e) fun x => x.leaf = true ∧ P x
theorem abs_frz {env : De} {σ : L2.St} {L : List Addr} {H : Hp} {e : En} (A : Abs F env σ L H) (h1 : env[i]?.bind frz = some e) : ∃ L', Abs F (env.set i e) σ L' H := by
  obtain ⟨e0, h2, h3⟩ := Option.bind_eq_some_iff.mp h1
  obtain ⟨x, h4, rfl⟩ := Option.map_eq_some_iff.mp h3
  obtain ⟨v, hs, en⟩ := abs_at A h2 (by rintro rfl; cases h4)
  obtain ⟨t, rfl⟩ := owD_ref en h4
  have ow : e0.isOw = true := by cases e0 <;> first | rfl | cases h4
  obtain ⟨ht, nv⟩ := ow_new A en h4
  have sub : ∀ y, F.N (L.filter fun z => decide (z ≠ t)) y → F.N L y := fun y hy => hy.imp id fun z => (List.mem_filter.mp z).1
  have nt : ¬ F.N (L.filter fun z => decide (z ≠ t)) t := fun z => by
    rcases z with z | z
    · exact A.out ht z
    · have := (List.mem_filter.mp z).2
      simp at this
  have dd : Dd F.K (F.N (L.filter fun z => decide (z ≠ t))) F.W H (.ref t) x := by
    have key : ∀ {vs : List V} {ds : List D}, DdAll F.K (F.N L) F.W H vs ds → DdAll F.K (F.N (L.filter fun z => decide (z ≠ t))) F.W H vs ds := fun h => h.keep (fun _ _ _ z => z) sub
    cases e0 with
    | ow ds => cases h4; obtain ⟨_, vs, q1, q2⟩ := en; exact .lst q1 nt (key q2)
    | od ds => cases h4; obtain ⟨_, vs, q1, q3, q2⟩ := en; exact .dic (.inl q1) nt q3 (key q2)
    | ot ds => cases h4; obtain ⟨_, vs, q1, q3, q2⟩ := en; exact .dct (.inl q1) nt q3 (key q2)
    | _ => cases h4
  have hil : i < env.length := (List.getElem?_eq_some_iff.mp h2).1
  refine ⟨L.filter fun z => decide (z ≠ t), A.ok, A.al, A.wn, A.kp, fun y hy => A.fr y (List.mem_filter.mp hy).1, by rw [List.length_set, A.ls], fun j l b ej el g1 g2 o1 o2 s1 s2 => ?_, fun j e' y g1 g2 => ?_⟩
  · by_cases hj : i = j
    · subst hj
      rw [List.getElem?_set_self hil] at g1
      cases g1
      cases o1
    · by_cases hl : i = l
      · subst hl
        rw [List.getElem?_set_self hil] at g2
        cases g2
        cases o2
      · rw [List.getElem?_set_ne hj] at g1
        rw [List.getElem?_set_ne hl] at g2
        exact A.sep j l b ej el g1 g2 o1 o2 s1 s2
  · by_cases hj : i = j
    · subst hj
      rw [List.getElem?_set_self hil] at g1
      cases g1
      rw [hs] at g2
      cases g2
      exact dd
    · rw [List.getElem?_set_ne hj] at g1
      refine EnOk.keep A (fun x u q h => h) sub (fun b hb ob hbL => ⟨List.mem_filter.mpr ⟨hbL, decide_eq_true ?_⟩, fun u hu => hu⟩) (A.en j e' y g1 g2)
      exact fun z => hj (A.sep i j t e0 e' h2 g1 ow ob hs (by rw [g2, hb, z]))
theorem leaf_any {K : PySem.W.Frag} {N N' : Addr → Prop} {W : Wd} {H : Hp} {v : V} {x : D} (l : x.leaf = true) (h : Dd K N W H v x) : Dd K N' W H v x := by
  cases h with
  | non => exact .non
  | bl b => exact .bl b
  | int i => exact .int i
  | str x => exact .str x
  | lst _ _ _ => cases l
  | tup _ _ _ => cases l
  | dic _ _ _ _ => cases l
  | dct _ _ _ _ => cases l
  | obj _ _ _ _ => cases l
  | ktp _ _ _ _ _ _ => cases l
  | bag _ => cases l
theorem dd_lend (h : PE X e (lC F d)) : PE X e (lC F (dLend i d)) := PE.mono h fun σ H Q ⟨env, L, P, A, pp, q⟩ => by
  obtain ⟨e, h1, pp⟩ := ob_elim pp
  obtain ⟨L', B⟩ := abs_frz A h1
  exact ⟨_, L', _, B, pp, fun x v H' px k o dd => q x v H' px.2 k o (leaf_any px.1 dd)⟩
/-! ### sorted(..) of pairs of texts -/
abbrev SP := Str × Str
def encP (p : SP) : PyData := .tuple [.str p.1, .str p.2]
def srtP (ps : List SP) : List SP := ps.mergeSort (PySem.W.dataLe false encP)
theorem srtP_perm (ps : List SP) : (srtP ps).Perm ps := List.mergeSort_perm _ _
def rSrtP (K : PySem.W.Frag) : List V → Hp → VK → Prop := fun vs H Q => ∃ (a : Addr) (xs : List V) (ps : List SP) (R : V → SP → Prop), vs = [.ref a] ∧ SqL K H a xs ∧ Paired R xs ps ∧ (∀ x p, R x p → ∃ t, x = .ref t ∧ SqT K H t [.str p.1, .str p.2]) ∧
  ∀ ys t, Paired R ys (srtP ps) → H t = none → Q (.ref t) (upd H t (.lst ys))
theorem each_of {R : V → SP → Prop} : ∀ {xs : List V} {us : List Value} {ps : List SP}, Vals xs us → Paired R xs ps → PySem.W.EachIs (fun u p => ∃ x, RelV x u ∧ R x p) us ps
  | _, _, _, .nil, .nil => .nil
  | _, _, _, .cons r t, .cons h k => .cons ⟨_, r, h⟩ (each_of t k)
theorem of_each {R : V → SP → Prop} {us : List Value} {ps : List SP} (h : PySem.W.EachIs (fun u p => ∃ x, RelV x u ∧ R x p) us ps) : ∃ xs, Vals xs us ∧ Paired R xs ps := by
  induction h with
  | nil => exact ⟨[], .nil, .nil⟩
  | cons h t ih =>
    obtain ⟨x, r, hx⟩ := h
    obtain ⟨xs, h1, h2⟩ := ih
    exact ⟨x :: xs, .cons r h1, .cons hx h2⟩
theorem srtR {k : Nat} (hr : Room k X.A) : CallR X (.builtin "sorted") (rSrtP X.K) := by
  intro pins s σ H vs us Q I r h
  obtain ⟨a, xs, ps, R, rfl, hs, hp, hx, q⟩ := h
  obtain ⟨its, rv, hl, hz⟩ := I.list hs
  obtain ⟨u, rfl, ru⟩ := vals1 r
  obtain rfl : u = Value.ref a := ru
  have ev := each_of rv hp
  have lp : its.length = ps.length := ev.length
  have hL : ps.length ≤ sizeLine := by rw [← lp, ← rv.length]; exact hz
  have er : PySem.W.EachIs (fun u p => ∃ as, Reads s.heap u (encP p) as) its ps := by
    refine ev.mono fun u p h => ?_
    obtain ⟨x, rx, hxp⟩ := h
    obtain ⟨t, rfl, hq⟩ := hx x p hxp
    obtain rfl : u = Value.ref t := rx
    obtain ⟨it2, r2, pt, _⟩ := I.tuple hq
    obtain ⟨u1, u2, rfl, ri, rj⟩ := vals2 r2
    obtain ⟨t1, rfl⟩ := ri
    obtain ⟨t2, rfl⟩ := rj
    obtain ⟨o, g1, g2, n, g3⟩ := pt
    exact ⟨_, .tuple g1 g2 g3 (.cons (.str _ _) (.cons (.str _ _) .nil))⟩
  have hu : ∀ b, b ∈ ps → X.A.units + 2 + (encP b).depth < cLine := fun b _ => by
    have : (encP b).depth = 1 := by simp [encP, PyData.depth, PyData.depthAll]
    rw [this]
    have := hr.units
    omega
  refine PySem.W.sorted_data (enc := encP) hl.isList ev er (.of fun b b' => rfl) (.tuples fun b => ⟨_, _, rfl⟩) hL hu ?_
  intro out ho eo
  obtain ⟨ys, v2, p2⟩ := of_each eo
  obtain ⟨n, hn⟩ := sortedAll_at s.heap its out.toArray
  refine ⟨.ref (s.heap.objs.size + 1), upd H (s.heap.objs.size + 1) (.lst ys), I.laid (t' := s.toks) (fun _ _ => sortedAll_old) (Nat.le_succ _) ⟨?_, out, n, v2, hn⟩, rfl, q ys _ p2 (I.hok.fresh (Nat.le_succ _))⟩
  rw [v2.length, ho]
  exact hL
def pairD (p : SP) : D := .tup [.str p.1, .str p.2]
def dSortP (d : TDE) : TDE := fun env P => d env fun x => match x with
  | .lst xs => ∃ ps : List SP, xs = ps.map pairD ∧ P (.lst ((srtP ps).map pairD))
  | _ => False
theorem paired_of {K : PySem.W.Frag} {N : Addr → Prop} {W : Wd} {H : Hp} : ∀ {vs : List V} {ps : List SP}, DdAll K N W H vs (ps.map pairD) → Paired (fun v p => Dd K N W H v (pairD p)) vs ps
  | _, [], h => by
    have h' : DdAll K N W H _ [] := h
    cases h'
    exact .nil
  | _, p :: ps, h => by
    have h' : DdAll K N W H _ (pairD p :: ps.map pairD) := h
    cases h' with
    | cons h t => exact .cons h (paired_of t)
theorem of_paired {K : PySem.W.Frag} {N : Addr → Prop} {W : Wd} {H : Hp} {vs : List V} {ps : List SP} (h : Paired (fun v p => Dd K N W H v (pairD p)) vs ps) : DdAll K N W H vs (ps.map pairD) := by
  induction h with
  | nil => exact .nil
  | cons h _ ih => exact .cons h ih
theorem srtR' {k : Nat} (hr : Room k X.A) (hK : F.K = X.K) : CallR X (.builtin "sorted") (rSrtP F.K) := by
  rw [hK]
  exact srtR hr
theorem dn_sortP {k : Nat} (hr : Room k X.A) (hg : Gl X "sorted") (hm : X.mg "sorted" = none) (ha : PE X e (lB F d)) (he : starEach [e] X.env = (false, eval e X.env) :: starEach [] X.env := by rfl) (hpl : (backTo pos (starEach [] X.env)).any (·.1) = false := by rfl) (hK : F.K = X.K := by rfl) :
    PE X (.Call (.Name "sorted" p) [e] [] pos) (lN F (dSortP d)) := PE.mono (pe_callB (srtR' hr hK) hg hm (by decide +kernel) (pa_cons ha pa_nil he) (by decide) (by decide) he hpl) fun σ H Q ⟨env, L, P, A, pp, q⟩ =>
  ⟨env, L, _, A, pp, fun x v H1 px k1 o1 b1 => by
    have A1 := A.step k1 o1
    cases x with
    | lst xs =>
      obtain ⟨ps, rfl, px⟩ := px
      obtain ⟨a, vs, rfl, h1, h2⟩ := bw_lst b1
      refine ⟨a, vs, ps, _, rfl, SqL.of h1, paired_of h2, fun x p hx => ?_, fun ys t hy ht => q _ _ _ px (k1.trans (.new ht)) (ok_new o1 ht) (free_of k1 o1 ht) (new_lstN A1 ht (of_paired hy))⟩
      obtain ⟨t, us, rfl, g1, g2, g3⟩ := dd_tupE hx
      cases g3 with
      | cons e1 t1 =>
        cases t1 with
        | cons e2 t2 =>
          cases t2
          rw [dd_strE e1, dd_strE e2] at g1
          exact ⟨t, rfl, SqT.of g1⟩
    | _ => exact px.elim⟩
end
end DL

namespace DL
open PySem PySem.Spec PyProof.Rows L2 RK
section
variable {X : Cx} {F : Fx} {e a b c tg iter : Expr} {es : List Expr} {d da db dc : TDE} {ds : TDA} {pos p : Pos} {i j l : Nat}
/-! ### zip of two lists or of two tuples, into a tuple -/
def zipD : List D → List D → List D
  | x :: xs, y :: ys => .tup [x, y] :: zipD xs ys
  | _, _ => []
theorem zip_len : ∀ (xs ys : List D), (zipD xs ys).length = min xs.length ys.length
  | [], _ => by simp [zipD]
  | _ :: _, [] => by simp [zipD]
  | x :: xs, y :: ys => by rw [zipD, List.length_cons, zip_len, List.length_cons, List.length_cons]; omega
theorem zip_get : ∀ (i : Nat) (xs ys : List D) (z : D), (zipD xs ys)[i]? = some z → ∃ x y, xs[i]? = some x ∧ ys[i]? = some y ∧ z = .tup [x, y]
  | _, [], _, _, h => by simp [zipD] at h
  | _, _ :: _, [], _, h => by simp [zipD] at h
  | 0, x :: xs, y :: ys, z, h => by
    simp [zipD] at h
    exact ⟨x, y, rfl, rfl, h.symm⟩
  | i + 1, x :: xs, y :: ys, z, h => by
    rw [zipD, List.getElem?_cons_succ] at h
    exact zip_get i xs ys z h
def twoD (f : D → Option (List D)) (da db : TDE) : TDI := fun env P => da env fun x => db env fun y => ob (f x) fun xs => ob (f y) fun ys => P (zipD xs ys)
def iZp (da db : TDE) : TDI := fun env P => twoD lstD da db env P ∨ twoD tupD da db env P
theorem zip_new {N' : Addr → Prop} {H' H2 : Hp} {T : Addr} {v w : V} {x y : D} (al : ∀ a, N' a → ∃ o, H' a = some o) (hT : H' T = none) (h2 : H2 = upd H' T (.tup [v, w])) (dv : Dd F.K N' F.W H' v x) (dw : Dd F.K N' F.W H' w y) :
    Stn H' H2 ∧ Dd F.K N' F.W H2 (.ref T) (.tup [x, y]) := by
  subst h2
  have kp : ∀ a o, H' a = some o → upd H' T (.tup [v, w]) a = some o := fun a o h => by rw [upd_ne (ne_of_none h hT)]; exact h
  refine ⟨.new hT True.intro, .tup upd_same (fun z => ?_) (.cons (dv.keep (fun a u _ h => kp a u h) fun _ z => z) (.cons (dw.keep (fun a u _ h => kp a u h) fun _ z => z) .nil))⟩
  obtain ⟨o, ho⟩ := al T z
  rw [hT] at ho
  cases ho
theorem it_zipL {Rel : (Addr → Prop) → Hp → Prop} {t u : Addr} {vs ws : List V} {xs ys : List D} (h : ∀ N' H', Rel N' H' → (H' t = some (.lst vs) ∧ DdAll F.K N' F.W H' vs xs) ∧ H' u = some (.lst ws) ∧ DdAll F.K N' F.W H' ws ys) : ItOk F Rel (Itz F.K t u) (zipD xs ys) := fun N' H' r al i => by
  obtain ⟨⟨h1, h2⟩, g1, g2⟩ := h N' H' r
  refine ⟨fun hi => ⟨vs, ws, SqL.of h1, SqL.of g1, ?_⟩, fun x hx => ?_⟩
  · rw [h2.len, g2.len]
    rw [zip_len] at hi
    omega
  · obtain ⟨x1, x2, e1, e2, rfl⟩ := zip_get i xs ys x hx
    obtain ⟨v, hv, dv⟩ := h2.get e1
    obtain ⟨w, hw, dw⟩ := g2.get e2
    refine ⟨⟨vs, ws, v, w, SqL.of h1, SqL.of g1, hv, hw⟩, fun w' H2 hy => ?_⟩
    obtain ⟨T, z1, z2, rfl, hT, h2', hz1, hz2⟩ := hy
    have q1 := hz1 vs (SqL.of h1)
    have q2 := hz2 ws (SqL.of g1)
    rw [hv] at q1
    rw [hw] at q2
    cases q1
    cases q2
    exact zip_new al hT h2' dv dw
theorem it_zipT {Rel : (Addr → Prop) → Hp → Prop} {t u : Addr} {vs ws : List V} {xs ys : List D} (h : ∀ N' H', Rel N' H' → (SqT F.K H' t vs ∧ DdAll F.K N' F.W H' vs xs) ∧ SqT F.K H' u ws ∧ DdAll F.K N' F.W H' ws ys) : ItOk F Rel (RZ.ItzT F.K t u) (zipD xs ys) := fun N' H' r al i => by
  obtain ⟨⟨h1, h2⟩, g1, g2⟩ := h N' H' r
  refine ⟨fun hi => ⟨vs, ws, h1, g1, ?_⟩, fun x hx => ?_⟩
  · rw [h2.len, g2.len]
    rw [zip_len] at hi
    omega
  · obtain ⟨x1, x2, e1, e2, rfl⟩ := zip_get i xs ys x hx
    obtain ⟨v, hv, dv⟩ := h2.get e1
    obtain ⟨w, hw, dw⟩ := g2.get e2
    refine ⟨⟨vs, ws, v, w, h1, g1, hv, hw⟩, fun w' H2 hy => ?_⟩
    obtain ⟨T, z1, z2, rfl, hT, h2', hz1, hz2⟩ := hy
    have q1 := hz1 vs h1
    have q2 := hz2 ws g1
    rw [hv] at q1
    rw [hw] at q2
    cases q1
    cases q2
    exact zip_new al hT h2' dv dw
theorem zip_I (hK : F.K = X.K) : ∀ σ H R, lI F (iZp da db) σ H R → RZ.iZipA X.K (tCons (lC F da) (tCons (lC F db) tNil)) σ H R := fun σ H R ⟨env, L, P, A, pp, q⟩ => by
  rw [← hK]
  rcases pp with pp | pp
  · refine ⟨env, L, _, A, pp, fun x v H1 px k1 o1 d1 => ⟨env, L, _, A.step k1 o1, px, fun y w H2 py k2 o2 d2 => ?_⟩⟩
    obtain ⟨xs, e, py⟩ := ob_elim py
    obtain ⟨ys, e', py⟩ := ob_elim py
    have := lstD_e e
    subst this
    have := lstD_e e'
    subst this
    obtain ⟨t, vs, rfl, h1, h2, h3⟩ := dd_lstE ((A.step k1 o1).kd k2 d1)
    obtain ⟨u, ws, rfl, g1, g2, g3⟩ := dd_lstE d2
    exact ⟨t, u, vs, ws, rfl, .inl ⟨SqL.of h1, SqL.of g1, q _ _ H2 py (k1.trans k2) o2 (it_zipL fun N' H' r => ⟨⟨(r t _ h2 h1).2, h3.pres r⟩, (r u _ g2 g1).2, g3.pres r⟩)⟩⟩
  · refine ⟨env, L, _, A, pp, fun x v H1 px k1 o1 d1 => ⟨env, L, _, A.step k1 o1, px, fun y w H2 py k2 o2 d2 => ?_⟩⟩
    obtain ⟨xs, e, py⟩ := ob_elim py
    obtain ⟨ys, e', py⟩ := ob_elim py
    obtain ⟨t, vs, rfl, h1, h2⟩ := seqT_keep (N' := fun _ => False) (H' := H2) e ((A.step k1 o1).kd k2 d1)
    obtain ⟨u, ws, rfl, g1, g2⟩ := seqT_keep (N' := fun _ => False) (H' := H2) e' d2
    exact ⟨t, u, vs, ws, rfl, .inr ⟨h1, g1, q _ _ H2 py (k1.trans k2) o2 (it_zipT fun N' H' r => ⟨h2 N' H' r, g2 N' H' r⟩)⟩⟩
theorem di_zip {elts : List Expr} {kk : Nat} {tpos : Pos} (hg : Gl X "zip") (hm : X.mg "zip" = none) (ha : PE X a (lC F da)) (hb : PE X b (lC F db)) (hs : starEach [a, b] X.env = (false, eval a X.env) :: starEach [b] X.env := by rfl) (hs2 : starEach [b] X.env = (false, eval b X.env) :: starEach [] X.env := by rfl) (hpl : (backTo pos (starEach [b] X.env)).any (·.1) = false := by rfl) (hK : F.K = X.K := by rfl) :
    PI X (.Tuple elts kk tpos) (.Call (.Name "zip" p) [a, b] [] pos) (lI F (iZp da db)) := PI.mono (RZ.pi_zipA hg hm (pa_cons ha (pa_cons hb pa_nil hs2) hs) hs hpl) (zip_I hK)
theorem zip_Ib (hK : F.K = X.K) : ∀ σ H R, lIb F (iZp da db) σ H R → RZ.iZipA X.K (tCons (lC F da) (tCons (lC F db) tNil)) σ H R := fun σ H R ⟨env, L, P, A, pp, q⟩ => by
  rw [← hK]
  rcases pp with pp | pp
  · refine ⟨env, L, _, A, pp, fun x v H1 px k1 o1 d1 => ⟨env, L, _, A.step k1 o1, px, fun y w H2 py k2 o2 d2 => ?_⟩⟩
    obtain ⟨xs, e, py⟩ := ob_elim py
    obtain ⟨ys, e', py⟩ := ob_elim py
    have := lstD_e e
    subst this
    have := lstD_e e'
    subst this
    have A2 := (A.step k1 o1).step k2 o2
    obtain ⟨t, vs, rfl, h1, h2, h3⟩ := dd_lstE ((A.step k1 o1).kd k2 d1)
    obtain ⟨u, ws, rfl, g1, g2, g3⟩ := dd_lstE d2
    exact ⟨t, u, vs, ws, rfl, .inl ⟨SqL.of h1, SqL.of g1, q _ _ H2 py (k1.trans k2) o2 (it_zipL fun N' H' r => ⟨⟨(relK_p A2 r t _ h2 h1).2, h3.pres (relK_p A2 r)⟩, (relK_p A2 r u _ g2 g1).2, g3.pres (relK_p A2 r)⟩)⟩⟩
  · refine ⟨env, L, _, A, pp, fun x v H1 px k1 o1 d1 => ⟨env, L, _, A.step k1 o1, px, fun y w H2 py k2 o2 d2 => ?_⟩⟩
    obtain ⟨xs, e, py⟩ := ob_elim py
    obtain ⟨ys, e', py⟩ := ob_elim py
    have A2 := (A.step k1 o1).step k2 o2
    obtain ⟨t, vs, rfl, h1, h2⟩ := seqT_keep (N' := fun _ => False) (H' := H2) e ((A.step k1 o1).kd k2 d1)
    obtain ⟨u, ws, rfl, g1, g2⟩ := seqT_keep (N' := fun _ => False) (H' := H2) e' d2
    exact ⟨t, u, vs, ws, rfl, .inr ⟨h1, g1, q _ _ H2 py (k1.trans k2) o2 (it_zipT fun N' H' r => ⟨h2 N' H' (relK_p A2 r), g2 N' H' (relK_p A2 r)⟩)⟩⟩
theorem db_zip {elts : List Expr} {kk : Nat} {tpos : Pos} (hg : Gl X "zip") (hm : X.mg "zip" = none) (ha : PE X a (lC F da)) (hb : PE X b (lC F db)) (hs : starEach [a, b] X.env = (false, eval a X.env) :: starEach [b] X.env := by rfl) (hs2 : starEach [b] X.env = (false, eval b X.env) :: starEach [] X.env := by rfl) (hpl : (backTo pos (starEach [b] X.env)).any (·.1) = false := by rfl) (hK : F.K = X.K := by rfl) :
    PI X (.Tuple elts kk tpos) (.Call (.Name "zip" p) [a, b] [] pos) (lIb F (iZp da db)) := PI.mono (RZ.pi_zipA hg hm (pa_cons ha (pa_cons hb pa_nil hs2) hs) hs hpl) (zip_Ib hK)
end
end DL

namespace DL
open PySem PySem.Spec PyProof.Rows L2 RK
/-! ### xs.remove(z), all texts -/
def isTxt (z : Str) : Value → Bool
  | .str x _ => x == z
  | _ => false
theorem isTxt_gives {z : Str} {t : Tok} : ∀ {us : List Value} {ys : List Str}, Vals (ys.map V.str) us → ∀ y ∈ us, MeetsSeq.EqGives y (.str z t) (isTxt z y)
  | [], _, _, y, h => by cases h
  | u :: us, [], r, y, h => by cases r
  | u :: us, x :: ys, r, y, h => by
    cases r with
    | cons r1 r2 =>
      obtain ⟨tx, rfl⟩ := r1
      rcases List.mem_cons.mp h with rfl | h
      · exact eqGives_str x z tx t
      · exact isTxt_gives r2 y h
theorem isTxt_at {z : Str} {us : List Value} {ys : List Str} (r : Vals (ys.map V.str) us) {i : Nat} (h : i < us.length) {y : Str} (hy : ys[i]? = some y) : isTxt z us[i] = (y == z) := by
  obtain ⟨u, hu, ru⟩ := r.get (show (ys.map V.str)[i]? = some (.str y) by rw [List.getElem?_map, hy]; rfl)
  rw [List.getElem?_eq_getElem h] at hu
  rw [Option.some.inj hu]
  obtain ⟨t, rfl⟩ := ru
  rfl
theorem first_txt : ∀ {ys : List Str} {z : Str}, z ∈ ys → ∃ j, ys[j]? = some z ∧ (∀ (m : Nat) (y : Str), m < j → ys[m]? = some y → y ≠ z) ∧ ys.eraseIdx j = ys.erase z
  | [], _, h => by cases h
  | x :: r, z, h => by
    by_cases e : x = z
    · subst e
      exact ⟨0, rfl, fun m y hm => absurd hm (Nat.not_lt_zero _), by simp⟩
    · obtain ⟨j, h1, h2, h3⟩ := first_txt ((List.mem_cons.mp h).resolve_left fun q => e q.symm)
      refine ⟨j + 1, h1, fun m y hm hy => ?_, ?_⟩
      · cases m with
        | zero =>
          have : x = y := Option.some.inj hy
          rw [← this]
          exact e
        | succ m => exact h2 m y (by omega) hy
      · rw [List.eraseIdx_cons_succ, h3, List.erase_cons_tail (by simpa using e)]
theorem erase_mapS : ∀ (l : List Str) (j : Nat), (l.map V.str).eraseIdx j = (l.eraseIdx j).map V.str
  | [], j => by simp
  | a :: r, 0 => by simp
  | a :: r, j + 1 => by
    have := erase_mapS r j
    simp [this]
section
variable {X : Cx} {F : Fx} {e o a b : Expr} {d : TDE} {pos apos cpos : Pos} {i : Nat}
def rRemT : V → List V → Hp → VK → Prop := fun x xs H Q => ∃ (l : Addr) (ys : List Str) (z : Str), x = .ref l ∧ xs = [.str z] ∧ H l = some (.lst (ys.map V.str)) ∧ z ∈ ys ∧ Q .non (upd H l (.lst ((ys.erase z).map V.str)))
theorem mt_remT : MtR X "list.remove" rRemT := by
  intro pins s σ H x xs v us Q I rx rxs h
  obtain ⟨l, ys, z, rfl, rfl, hH, hz, q⟩ := h
  cases rx
  obtain ⟨u, rfl, ru⟩ := rxs.one
  obtain ⟨t, rfl⟩ := ru
  obtain ⟨zz, its, n, r, hl, e⟩ := I.lstM hH
  rw [List.length_map] at hl zz
  obtain ⟨j, j1, j2, j3⟩ := first_txt hz
  have jn : j < ys.length := (List.getElem?_eq_some_iff.mp j1).1
  have jl : j < its.length := by omega
  have r2 : Vals ((ys.erase z).map V.str) (its.eraseIdx j) := by
    have w := r.eraseIdx j
    rw [erase_mapS, j3] at w
    exact w
  have hit : isTxt z its.toArray[j] = true := by
    show isTxt z its[j] = true
    rw [isTxt_at r jl j1]
    exact beq_self_eq_true z
  have hno : ∀ m (hm : m < its.toArray.size), m < j → isTxt z its.toArray[m] = false := fun m hm mj => by
    have hm2 : m < its.length := by simpa using hm
    have hm3 : m < ys.length := by omega
    show isTxt z its[m] = false
    rw [isTxt_at r hm2 (List.getElem?_eq_getElem hm3)]
    exact beq_eq_false_iff_ne.mpr (j2 m _ mj (List.getElem?_eq_getElem hm3))
  refine call_meets PySem.F.slot_list_remove ⟨_, e, rfl⟩ PySem.F.entry_list_remove (PySem.F.args_list_remove_2 _ _)
    (MeetsSeq.list_remove l its.toArray n (.str z t) (isTxt z) (fun y hy => isTxt_gives r y (by simpa using hy)) j (by rw [List.size_toArray]; exact jl) hit hno (by rw [List.size_toArray]; omega)) ⟨e, ?_⟩
  refine ⟨.non, _, I.lset (its' := its.eraseIdx j) (t' := s.toks) hH e ?_ r2 ?_, rfl, q⟩
  · exact List.eraseIdxIfInBounds_toArray ..
  · have := List.length_erase_le (a := z) (l := ys)
    rw [List.length_map]
    omega
def sRem (i : Nat) (d : TDE) : TDS := fun P env => ob (owAt env i) fun xs => d env fun x => match x with | .str z => ∃ zs, strsD xs = some zs ∧ z ∈ zs ∧ P.nx (env.set i (.ow ((zs.erase z).map D.str))) | _ => False
theorem ds_rem (ho : PE X o (tVar i)) (he : PE X e (lC F d)) (hbase : attributeBase o "remove" X.env (eval o X.env) = eval o X.env := by rfl)
    (hfew : ((backTo cpos (starEach [e] X.env)).all (fun x => !x.1) && (backToKw cpos (keywordEach [] X.env)).all (fun x => x.1.isSome) && decide (([e] : List Expr).length + ([] : List Keyword).length + (if ([] : List Keyword).isEmpty then 0 else 1) < 30)) = true := by rfl)
    (hline : (apos.endLine == cpos.line) = true := by rfl) (hs : starEach [e] X.env = (false, eval e X.env) :: starEach [] X.env := by rfl) (hplain : (backTo cpos (starEach [] X.env)).any (·.1) = false := by rfl)
    (hsw : swapsWith (.Call (.Attribute o "remove" apos) [e] [] cpos) none pos.line X.env = pure false := by rfl) :
    PS X (.Expr (.Call (.Attribute o "remove" apos) [e] [] cpos) pos) (lS F (sRem i d)) := PS.mono (ps_expr (pe_bm PySem.F.plainAttrs_list PySem.F.slot_list_remove PySem.F.type_list_remove mt_remT ho (pa_cons he pa_nil hs) hbase hfew hline hs hplain) hsw) fun E σ H ⟨env, L, P, A, pp, hn, _⟩ => by
  obtain ⟨xs, h, pp⟩ := ob_elim pp
  obtain ⟨t, vs, hs, ha, hv, hd⟩ := ow_get A h
  refine ⟨_, hs, .inl ⟨rfl, vs, SqL.of hv⟩, env, L, _, A, pp, fun x v H1 px k1 o1 d1 => ?_⟩
  cases x with
  | str z =>
    obtain ⟨zs, hz, mz, px⟩ := px
    have A1 := A.step k1 o1
    obtain ⟨a2, vs2, hs2, ha2, hv2, hd2⟩ := ow_get A1 h
    rw [hs] at hs2
    cases hs2
    have e1 := dd_strE d1
    subst e1
    have e2 := strs_v hd2 hz
    obtain ⟨B, pr⟩ := ow_put A1 h hs ha2 (dd_strs (zs.erase z))
    exact ⟨t, zs, z, rfl, rfl, by rw [hv2, e2], mz, hn _ _ _ _ px B ((k1.pres A).trans pr)⟩
  | _ => exact px.elim
end
end DL

namespace DL
open PySem PySem.Spec PyProof.Rows L2 RK
section
variable {X : Cx}
/-! ### a local name gets a dict comprehension: the store happens before the block's names go -/
abbrev oneGen (tg iter : Expr) (ifs : List Expr) : List Comprehension := [⟨tg, iter, ifs, 0⟩]
theorem ps_setDc {i : Nat} {x : Str} {px ps cp : Pos} {kx vx tg iter : Expr} {ifs : List Expr} {sco : Scope} {own : List (Str × Nat)} {wi : TI} {g : TG} {tt : TT} {tk tv : TE} (calm : X.calm = true) (nd : X.N.Nodup) (at_ : X.N[i]? = some x) (loc : X.env.scope.names.lookup x = some .local)
    (sw : swapsWith (.DictComp kx vx (oneGen tg iter ifs) sco cp) (some (.Name x px)) ps.line X.env = pure true) (pi : PI X tg iter wi) (blk : BlkOk X.N X.env.scope sco own)
    (pg : ∀ (s : Shared) (H : Hp) (C : Addr) (cl : List (Str × Addr)) (fp : List Addr), PG (X.blk s H sco (compEnvC sco cl C X.env) fp) tg g)
    (pt : ∀ (s : Shared) (H : Hp) (C : Addr) (cl : List (Str × Addr)) (fp : List Addr), PTs (X.blk s H sco (compEnvC sco cl C X.env) fp) ifs tt)
    (pk : ∀ (s : Shared) (H : Hp) (C : Addr) (cl : List (Str × Addr)) (fp : List Addr), PE (X.blk s H sco (compEnvC sco cl C X.env) fp) kx tk)
    (pv : ∀ (s : Shared) (H : Hp) (C : Addr) (cl : List (Str × Addr)) (fp : List Addr), PE (X.blk s H sco (compEnvC sco cl C X.env) fp) vx tv) (fs : ∀ z, foldedSetIterable iter X.env z = pure z := by intro _; rfl) :
    PS X (.Assign [.Name x px] (.DictComp kx vx (oneGen tg iter ifs) sco cp) ps) (tAsg (tDc wi g tt tk tv (own.map (·.2))) (gName i)) := ⟨fun pins s σ H D I h => by
  rw [exec_Assign_Name_used _ _ _ _ sw]
  refine wpAny_bind (wpAny_standAt (wpAny_bind ?_))
  show wpAny _ X.A (do let _ ← comprehension (.DictComp kx vx (oneGen tg iter ifs) sco cp) sco X.env (firstIterPos (oneGen tg iter ifs) cp) newDict false (eval iter X.env) (some (assign (.Name x px) X.env))) _ _ s
  have q0 : tDc wi g tt tk tv (own.map (·.2)) σ H fun v H1 => gName i v σ H1 D.nx := h
  refine wpAny_bind (thn (dc_core (Qf := fun _ s' => L2.SP X pins D .next s') calm nd I pi blk pg pt pk pv fs q0 fun Dn C s1 m H1 I1 q1 ns fp => ?_) fun _ s1 q1 => wpAny_pure (wpAny_pure q1))
  show wpAny _ _ (assign (.Name x px) X.env (.ref Dn)) _ _ _
  refine wpAny_assign_Name (store_ok2 (v := V.ref Dn) I1 nd at_ (.inl loc) rfl (fun s2 I2 st => ?_) (.inr loc))
  obtain ⟨c, sb, hc⟩ := st
  have ne : C ≠ c := by
    rcases hc with z | z
    · rw [z]; exact fp.2.1
    · exact fun e => fp.2.2.2.2.1 x c z e.symm
  exact ⟨m, ns.sameBut sb ne, fun h3 sb3 => ⟨_, H1, I2.turned (t' := s2.toks) (fun b o hb e => (sb3.2 b hb).trans e) fp.1 fp.2.1 fp.2.2.2.1 fp.2.2.2.2.1 fp.2.2.2.2.2, q1⟩⟩⟩
theorem swD_true {kx vx : Expr} {gs : List Comprehension} {sco : Scope} {cp px : Pos} {x : Str} {l : Nat} {env : Env} (fn : env.scope.kind = .function) (loc : env.scope.names.lookup x = some .local) (ln : (px.line == cp.line) = true)
    (no : (sco.names.any fun (n, k) => n == x && (k == .local || k == .cell)) = false) : swapsWith (.DictComp kx vx gs sco cp) (some (.Name x px)) l env = pure true := by
  have k1 : env.kindOf x = some .local := loc
  have k2 : env.blockKind = .function := by
    unfold Env.blockKind
    rw [fn]
    rfl
  unfold swapsWith
  simp only [k2, k1, no, Expr.pos, ln]
  rfl
end
end DL

namespace DL
open PySem PySem.Spec PyProof.Rows L2 RK
section
variable {X : Cx} {F : Fx} {e a b c o : Expr} {es : List Expr} {d da db dc : TDE} {ds : TDA} {pos p apos : Pos}
/-- x.bit_length() -/
def dBits (d : TDE) : TDE := fun env P => d env fun x => match x with | .int i => P (.int (Builtin.Int.intBits i : Nat)) | _ => False
theorem dd_bits (ho : PE X o (lC F d)) (hbase : attributeBase o "bit_length" X.env (eval o X.env) = eval o X.env := by rfl) (hline : (apos.endLine == pos.line) = true := by rfl) : PE X (.Call (.Attribute o "bit_length" apos) [] [] pos) (lC F (dBits d)) :=
  PE.mono (pe_bits ho hbase hline) fun σ H Q ⟨env, L, P, A, pp, q⟩ => ⟨env, L, _, A, pp, fun x v H1 px k1 o1 d1 => by
    cases x with
    | int i =>
      have := dd_intE d1
      subst this
      exact ⟨i, rfl, q _ _ H1 px k1 o1 (.int _)⟩
    | _ => exact px.elim⟩
end
/-- the bits of n, if 2 ^ k is the first power above it -/
theorem intBits_of {n k : Nat} (h1 : n < 2 ^ k) (h2 : k = 0 ∨ 2 ^ (k - 1) ≤ n) : Builtin.Int.intBits (n : Int) = k := by
  unfold Builtin.Int.intBits
  by_cases hn : n = 0
  · subst hn
    rcases h2 with h2 | h2
    · subst h2; rfl
    · have := Nat.two_pow_pos (k - 1)
      omega
  · have hb : ¬ (((n : Int)) == 0) = true := by simpa using hn
    rw [if_neg hb, Int.natAbs_natCast]
    have hk : k ≠ 0 := by
      rintro rfl
      simp at h1
      exact hn h1
    have h3 := h2.resolve_left hk
    have a1 : n.log2 < k := (Nat.log2_lt hn).mpr h1
    have a2 : k - 1 ≤ n.log2 := (Nat.le_log2 hn).mpr h3
    omega
end DL

namespace DL
open PySem PySem.Spec PyProof.Rows L2 RK
/-! ### x is True, x is not True -/
def bIsB (neg : Bool) : B2
  | .bl a, .bl b => some (.bl (neg ^^ decide (a = b)))
  | _, _ => none
section
variable {X : Cx} {F : Fx} {e a b c o : Expr} {es : List Expr} {d da db dc : TDE} {ds : TDA} {pos p apos : Pos}
theorem isB_ok : Op2 F (fun x y H Q => ∃ a b, x = .bl a ∧ y = .bl b ∧ Q (.bl (decide (a = b))) H) (bIsB false) := fun A bx byy e Q q => by
  rename_i dx dy z
  cases dx <;> try cases e
  cases dy <;> try cases e
  exact ⟨_, _, bw_bl bx, bw_bl byy, by simpa using q (.bl _) _ (.refl _ _) A.ok (.bl _)⟩
theorem isNotB_ok : Op2 F (fun x y H Q => ∃ a b, x = .bl a ∧ y = .bl b ∧ Q (.bl (!decide (a = b))) H) (bIsB true) := fun A bx byy e Q q => by
  rename_i dx dy z
  cases dx <;> try cases e
  cases dy <;> try cases e
  exact ⟨_, _, bw_bl bx, bw_bl byy, by simpa using q (.bl _) _ (.refl _ _) A.ok (.bl _)⟩
theorem dd_isB (ha : PE X a (lB F da)) (hb : PE X b (lB F db)) : PE X (.Compare a [.Is] [b] pos) (lC F (dO2 (bIsB false) da db)) := dd_cmp isB_ok op_is_bl ha hb (nomark _)
theorem dt_isB (ha : PE X a (lB F da)) (hb : PE X b (lB F db)) : PT X (.Compare a [.Is] [b] pos) (lT F (dT (dO2 (bIsB false) da db))) := dt_cmp isB_ok op_is_bl ha hb (nomark _)
theorem dd_isnotB (ha : PE X a (lB F da)) (hb : PE X b (lB F db)) : PE X (.Compare a [.IsNot] [b] pos) (lC F (dO2 (bIsB true) da db)) := dd_cmp isNotB_ok op_isnot_bl ha hb (nomark _)
theorem dt_isnotB (ha : PE X a (lB F da)) (hb : PE X b (lB F db)) : PT X (.Compare a [.IsNot] [b] pos) (lT F (dT (dO2 (bIsB true) da db))) := dt_cmp isNotB_ok op_isnot_bl ha hb (nomark _)
end
/-! ### min(xs) of texts -/
theorem minD_strs : ∀ (ns : List Str) (n : Str), ∃ m, PySem.W.minD (.str n) (ns.map PyData.str) = .str m ∧ m ∈ n :: ns ∧ ∀ y ∈ n :: ns, ¬ y.cps.toList < m.cps.toList
  | [], n => ⟨n, rfl, List.mem_cons_self, fun y hy => by
      rcases List.mem_cons.mp hy with rfl | hy
      · exact List.lt_irrefl _
      · cases hy⟩
  | k :: ns, n => by
    have e : PySem.W.minD (.str n) ((k :: ns).map PyData.str) = PySem.W.minD (if PySem.W.dataLt (.str k) (.str n) then .str k else .str n) (ns.map PyData.str) := rfl
    rw [e, PySem.W.dataLt_str]
    by_cases h : k.cps.toList < n.cps.toList
    · rw [if_pos (decide_eq_true h)]
      obtain ⟨m, h1, h2, h3⟩ := minD_strs ns k
      refine ⟨m, h1, List.mem_cons_of_mem _ h2, fun y hy => ?_⟩
      rcases List.mem_cons.mp hy with rfl | hy
      · intro hz
        exact h3 k List.mem_cons_self (List.lt_trans h hz)
      · exact h3 y hy
    · rw [if_neg (by simpa using h)]
      obtain ⟨m, h1, h2, h3⟩ := minD_strs ns n
      refine ⟨m, h1, ?_, fun y hy => ?_⟩
      · rcases List.mem_cons.mp h2 with rfl | h2
        · exact List.mem_cons_self
        · exact List.mem_cons_of_mem _ (List.mem_cons_of_mem _ h2)
      · rcases List.mem_cons.mp hy with rfl | hy
        · exact h3 y List.mem_cons_self
        · rcases List.mem_cons.mp hy with rfl | hy
          · intro hz
            have h4 := h3 n List.mem_cons_self
            have h5 : n.cps.toList ≤ y.cps.toList := List.not_lt.mp h
            have h6 : m.cps.toList ≤ n.cps.toList := List.not_lt.mp h4
            exact absurd hz (List.not_lt.mpr (List.le_trans h6 h5))
          · exact h3 y (List.mem_cons_of_mem _ hy)
theorem reads_strs {h : Heap} : ∀ {xs : List Str} {us : List Value}, Vals (xs.map V.str) us → ReadsAll h us (xs.map PyData.str) []
  | [], us, r => by
    cases (show Vals [] us from r)
    exact .nil
  | x :: xs, us, r => by
    cases (show Vals (V.str x :: xs.map V.str) us from r) with
    | cons rr tt =>
      obtain ⟨tk, e⟩ := rr
      subst e
      exact .cons (as := []) (bs := []) (.str x tk) (reads_strs tt)
def rMinS (K : PySem.W.Frag) : List V → Hp → VK → Prop := fun vs H Q => ∃ (a : Addr) (n : Str) (ns : List Str), vs = [V.ref a] ∧ SqL K H a ((n :: ns).map V.str) ∧ ∀ m, m ∈ n :: ns → (∀ y ∈ n :: ns, ¬ y.cps.toList < m.cps.toList) → Q (.str m) H
theorem depth_strs : ∀ xs : List Str, PyData.depthAll (xs.map PyData.str) = 0
  | [] => rfl
  | x :: xs => by
    show max (PyData.depth (.str x)) (PyData.depthAll (xs.map PyData.str)) = 0
    rw [depth_strs xs]
    rfl
theorem cr_minS {X : Cx} {k : Nat} (hr : Room k X.A) (hc : X.calm = true) : CallR X (.builtin "min") (rMinS X.K) := by
  intro pins s σ H vs us Q I r h
  obtain ⟨a, n, ns, rfl, hs, q⟩ := h
  obtain ⟨its, rv, hl, _⟩ := I.list hs
  rw [Vals.ref1 r]
  obtain ⟨m, e1, h1, h2⟩ := minD_strs ns n
  refine PySem.W.min_list_data (x := .str n) (xs := ns.map PyData.str) (as := []) (I.ok.hd hc) hl.isList (reads_strs (xs := n :: ns) rv) ⟨fun x hx y hy => ?_, fun x hx => ?_⟩ ?_ fun i v h' tk bs hv rd hk => ?_
  · obtain ⟨x', _, rfl⟩ := List.mem_map.mp (show x ∈ (n :: ns).map PyData.str from hx)
    obtain ⟨y', _, rfl⟩ := List.mem_map.mp (show y ∈ (n :: ns).map PyData.str from hy)
    rfl
  · obtain ⟨x', _, rfl⟩ := List.mem_map.mp (show x ∈ (n :: ns).map PyData.str from hx)
    exact fun z => by cases z
  · have : PyData.depthAll (PyData.str n :: ns.map PyData.str) = 0 := depth_strs (n :: ns)
    rw [this]
    have := hr.units
    omega
  · rw [e1] at rd
    cases rd
    exact ⟨.str m, H, I.kept hk, ⟨_, rfl⟩, q m h1 h2⟩
def dMinS (d : TDE) : TDE := fun env P => d env fun x => match x with
  | .lst xs => ∃ n ns, strsD xs = some (n :: ns) ∧ ∀ m, m ∈ n :: ns → (∀ y ∈ n :: ns, ¬ y.cps.toList < m.cps.toList) → P (.str m)
  | _ => False
section
variable {X : Cx} {F : Fx} {e : Expr} {d : TDE} {pos p : Pos} {k : Nat}
theorem minSR (hr : Room k X.A) (hc : X.calm = true) (hK : F.K = X.K) : CallR X (.builtin "min") (rMinS F.K) := by rw [hK]; exact cr_minS hr hc
theorem dd_minS (hr : Room k X.A) (hg : Gl X "min") (hm : X.mg "min" = none) (ha : PE X e (lB F d)) (hc : X.calm = true := by rfl) (he : starEach [e] X.env = (false, eval e X.env) :: starEach [] X.env := by rfl) (hpl : (backTo pos (starEach [] X.env)).any (·.1) = false := by rfl) (hK : F.K = X.K := by rfl) :
    PE X (.Call (.Name "min" p) [e] [] pos) (lC F (dMinS d)) := PE.mono (pe_callB (minSR hr hc hK) hg hm (by decide +kernel) (pa_cons ha pa_nil he) (by decide) (by decide) he hpl) fun σ H Q ⟨env, L, P, A, pp, q⟩ =>
  ⟨env, L, _, A, pp, fun x v H1 px k1 o1 b1 => by
    cases x with
    | lst xs =>
      obtain ⟨a, vs, rfl, h1, h2⟩ := bw_lst b1
      obtain ⟨n, ns, hz, px⟩ := px
      exact ⟨a, n, ns, rfl, SqL.of (by rw [h1, strs_v h2 hz]), fun m hm1 hm2 => q _ _ H1 (px m hm1 hm2) k1 o1 (.str _)⟩
    | _ => exact px.elim⟩
end
end DL

/-! ### set(xs) of a list or a tuple of keys (ints, texts): which are in it, and how many -/
namespace RK
open PySem PySem.Spec PyProof.Rows L2
def metK (val : Nat → Key) (i : Nat) (k : Key) : Bool := (List.range i).any fun j => decide (val j = k)
def cntK (val : Nat → Key) : Nat → Nat
  | 0 => 0
  | i + 1 => if metK val i (val i) = true then cntK val i else cntK val i + 1
theorem cntK_le (val : Nat → Key) : ∀ i, cntK val i ≤ i
  | 0 => Nat.le_refl _
  | i + 1 => by
    have := cntK_le val i
    rw [cntK]
    split <;> omega
theorem metK_succ (val : Nat → Key) (i : Nat) (k : Key) : metK val (i + 1) k = (metK val i k || decide (k = val i)) := by
  unfold metK
  rw [List.range_succ, List.any_append, List.any_cons, List.any_nil, Bool.or_false]
  congr 1
  exact decide_eq_decide.mpr eq_comm
section
variable {prog : Program} {w : World} {A : Around} {R : Result → Shared → Prop} {I S : Addr} {fp wr : List Addr} {G : Array GenState → Array GenState → Prop} {n : Nat} {P : Nat → Value → Prop} {St : Nat → Shared → Prop}
theorem keep_set {h z : Heap} {S' : Key → Bool} {c : Nat} (q : h.SetOf (mixKind prog w) S S' c) (k : ∀ o, h.get? S = some o → z.get? S = some o) : z.SetOf (mixKind prog w) S S' c := by
  obtain ⟨o, es, ep, t, ho, r⟩ := q
  exact ⟨o, es, ep, t, k o ho, r⟩
theorem set_go (W : WalksS prog w A.in1 I fp wr G n P St) (out : S ∉ fp) {val : Nat → Key} (hv : ∀ i v, P i v → (mixKind prog w).is (val i) v = true ∧ v.scannable = true) (room : n + 1 < scanBound) :
    ∀ (m i : Nat) (s : Shared), n = i + m → St i s → s.heap.SetOf (mixKind prog w) S (metK val i) (cntK val i) → (∀ z, Moved (S :: wr) G s z → z.heap.SetOf (mixKind prog w) S (metK val n) (cntK val n) → R (.ok (.ret .none)) z) →
      codeAny (model prog w) A (.builtin "set.update.loop" ⟨[.ref S, .ref I], []⟩) R s := by
  have nw : S ∉ wr := fun z => out (W.sub _ z)
  have up : ∀ b ∈ wr, b ∈ S :: wr := fun b z => List.mem_cons_of_mem _ z
  intro m
  induction m with
  | zero =>
    intro i s e st q fin
    have e : n = i := by omega
    subst e
    refine codeAny_builtin (by exact F.entry_set_update_loop) ?_
    rw [Around.under_plainId (by exact F.plain_set_update_loop)]
    refine wpAny_bind (W.done s _ _ st fun z mv => wpAny_pure (fin z (mv.mono up) (keep_set q fun o ho => mv.heap S _ nw ho)))
  | succ m go =>
    intro i s e st q fin
    refine codeAny_builtin (by exact F.entry_set_update_loop) ?_
    rw [Around.under_plainId (by exact F.plain_set_update_loop)]
    refine wpAny_bind (W.item i s _ _ (by omega) st fun v z hP st2 mv => ?_)
    obtain ⟨hk, hs⟩ := hv i v hP
    have q2 := keep_set q (z := z.heap) fun o ho => mv.heap S _ nw ho
    refine wpAny_bind (wpAny_holding ?_)
    unfold setAdd
    refine wpAny_holding (wpAny_bind ((mixKind prog w).pyHash hk ?_))
    refine wpAny_setAddHashed_of (s := { z with toks := z.toks + 1 }) hk hs q2 (by have := cntK_le val i; omega) fun g sb q3 => ?_
    have q4 : g.SetOf (mixKind prog w) S (metK val (i + 1)) (cntK val (i + 1)) := by
      have e1 : (fun k => metK val i k || decide (k = val i)) = metK val (i + 1) := funext fun k => (metK_succ val i k).symm
      rw [e1] at q3
      rw [cntK]
      exact q3
    refine wpAny_pure ⟨plainId_quiet (by exact F.plain_set_update_loop) _, go (i + 1) _ (by omega) (W.frame _ z _ _ st2 (Nat.le_succ _) fun b hb o eb => ?_) q4 fun y my qy => fin y ?_ qy⟩
    · rw [sb.2 b fun x => out (x ▸ hb)]
      exact eb
    · refine Moved.trans W.gtrans ((mv.mono up).then_heap (Nat.le_succ _) fun b o hb eb => ?_) my
      rw [sb.2 b fun x => hb (x ▸ List.mem_cons_self)]
      exact eb
end
section
variable {prog : Program} {w : World} {A : Around} {E : Value → Shared → Prop} {s : Shared}
def newSet (led : Bool) : Obj := { cls := .type "set", dict := none, data := .set #[] 0 (.fresh 0 0 led) }
theorem set_made {x : Value} {Q : Value → Shared → Prop} (K : Shared → Prop) (fin : ∀ z, K z → Q (.ref s.heap.objs.size) z)
    (go : ∀ led : Bool, wpAny (model prog w) A.in1.in1 (Builtin.«set.__init__» ⟨[.ref s.heap.objs.size, x], []⟩) (fun f z => match f with | .done f => wants (fun r y => r = Value.none ∧ K y) E (.ok f) z | .again c => c.quiet = true ∧ codeAny (model prog w) A.in1 c (wants (fun r y => r = Value.none ∧ K y) E) z) (fun e z => wants (fun r y => r = Value.none ∧ K y) E (.error e) z) { s with heap := s.heap.push (newSet led) }) :
    wpAny (model prog w) A (call (.type "set") [x]) Q E s := by
  have a1 := PySem.F.called_set.made
  have a2 := PySem.F.called_set.sub
  obtain ⟨c, tl, a3⟩ := PySem.F.called_set.mro
  refine wpAny_call (codeAny_of_tree (wpAny_pure ⟨Code.quiet_builtin _ (by decide +kernel), codeAny_builtin (by exact PySem.F.entry_type_call) ?_⟩))
  rw [Around.under_plain (weight_type_call_type "set" [x] []) rfl]
  have a4 := PySem.F.called_set.notType
  have a5 := PySem.F.called_set.canCreate
  have a6 := PySem.F.typeCall_set_1 x
  repeat (any_goals (first | assumption | wp_step))
  refine codeAny_mono (code_set_new_1 x (E := E) (Q₁ := fun v z => v = .ref s.heap.objs.size ∧ ∃ led : Bool, z = { s with heap := s.heap.push (newSet led) }) fun led => ⟨rfl, led, rfl⟩) fun r z hr => ?_
  cases r with
  | error e => exact hr
  | ok f =>
    cases f with
    | ret v =>
      obtain ⟨rfl, led, rfl⟩ := hr
      have b1 : (s.heap.push (newSet led)).get? s.heap.objs.size = some (newSet led) := Heap.get?_push_size _ rfl
      have b2 : Shared.TypeIs { s with heap := s.heap.push (newSet led) } (.ref s.heap.objs.size) "set" := ⟨_, b1, rfl⟩
      have b3 := PySem.F.called_set.init.lookup
      have b4 := PySem.F.called_set.init.bind (.ref s.heap.objs.size)
      repeat (any_goals (first | assumption | wp_step))
      refine codeAny_mono (codeAny_call_builtin (R := wants (fun r y => r = .none ∧ K y) E) PySem.F.called_set.init.plain PySem.F.entry_set_init (check_set_init_1 b2 ?_)) fun r y hy => ?_
      · exact go led
      · cases r with
        | error e => exact hy
        | ok f =>
          cases f with
          | ret v =>
            obtain ⟨rfl, ky⟩ := hy
            repeat (any_goals (first | assumption | wp_step))
            exact fin _ ky
          | _ => exact hy.elim
    | _ => exact hr.elim
/-- what stands behind set(xs) -/
def SetMade (prog : Program) (w : World) (s : Shared) (val : Nat → Key) (n : Nat) (z : Shared) : Prop :=
  ∃ g tk, z = { s with heap := g, toks := tk } ∧ g.SetOf (mixKind prog w) s.heap.objs.size (metK val n) (cntK val n) ∧ ∀ b o, s.heap.get? b = some o → g.get? b = some o
theorem fresh_set (led : Bool) {h : Heap} {a : Addr} (q : h.get? a = some (newSet led)) (val : Nat → Key) : h.SetOf (mixKind prog w) a (metK val 0) (cntK val 0) := by
  exact ⟨_, #[], 0, _, q, ⟨rfl, rfl, rfl⟩, rfl, fun e he => (by simp at he), fun k => (by simp [metK]), (by decide), (by rfl), rfl⟩
theorem set_end {wr : List Addr} {val : Nat → Key} {n : Nat} {led : Bool} {ob : Obj} {z : Shared} (mv : Moved (s.heap.objs.size :: [(s.heap.push (newSet led)).objs.size]) (fun a b => b = a) { s with heap := (s.heap.push (newSet led)).push ob } z) (q : z.heap.SetOf (mixKind prog w) s.heap.objs.size (metK val n) (cntK val n)) : SetMade prog w s val n z := by
  obtain ⟨g, a, b, c, d⟩ := z
  obtain rfl : a = s.gens := mv.gens
  obtain rfl : b = s.drawn := mv.drawn
  obtain rfl : d = s.os := mv.os
  refine ⟨g, c, rfl, q, fun x o e => mv.heap x o (fun hx => ?_) (Heap.get?_push_of_some _ (Heap.get?_push_of_some _ e))⟩
  have lt := Heap.lt_size e
  rw [Heap.size_push] at hx
  simp only [List.mem_cons, List.not_mem_nil, or_false] at hx
  rcases hx with hx | hx
  · exact absurd lt (hx ▸ Nat.lt_irrefl _)
  · exact absurd lt (hx ▸ Nat.not_lt.mpr (Nat.le_succ _))
theorem apart (led : Bool) {l : Addr} (lt : l < s.heap.objs.size) : s.heap.objs.size ∉ [(s.heap.push (newSet led)).objs.size, l] := fun z => by
  rw [Heap.size_push] at z
  rcases List.mem_cons.mp z with z | z
  · exact Nat.ne_of_lt (Nat.lt_succ_self _) z
  · exact Nat.ne_of_gt lt (List.mem_singleton.mp z)
theorem set_list {l : Addr} {items : Array Value} {val : Nat → Key} {Q : Value → Shared → Prop} (hh : A.handled = none) (hl : s.heap.IsList l items) (hv : ∀ i v, items[i]? = some v → (mixKind prog w).is (val i) v = true ∧ v.scannable = true) (room : items.size + 1 < scanBound)
    (h : ∀ z, SetMade prog w s val items.size z → Q (.ref s.heap.objs.size) z) : wpAny (model prog w) A (call (.type "set") [.ref l]) Q E s := by
  refine set_made (SetMade prog w s val items.size) h fun led => ?_
  obtain ⟨⟨k1, k2, k3, k4⟩, c1, c2, c4, c5⟩ := hl
  simp only at c2 c5
  subst c2 c5
  have d1 : (s.heap.push (newSet led)).get? l = some { cls := .type "list", dict := k2, data := .seq items c4, slots := k4 } := Heap.get?_push_of_some _ c1
  have d2 := PySem.F.sub_list_set
  have d3 := PySem.F.sub_list_frozenset
  have d4 : (Value.type "list" == Value.type "dict") = false := by decide
  have d5 : (s.heap.push (newSet led)).IsList l items := ⟨_, d1, rfl, c4, rfl⟩
  unfold Builtin.«set.__init__» noKeywords Builtin.Frozenset.updateFrom
  generalize hPI : pyIter = PI
  wp_walk
  subst hPI
  have lt : l < s.heap.objs.size := Heap.lt_size c1
  refine wpAny_pyIter_list d5 (wpAny_bind (wpAny_runValue (set_go ((Walks.list (by simp [hh]) _ l (by rw [Heap.size_push]; exact Nat.ne_of_lt (Nat.lt_succ_of_lt lt)) items).toS) (apart led lt) hv room items.size 0 _ (by omega) ⟨⟨_, Heap.get?_push_size _ rfl, rfl, rfl⟩, d5.push _⟩ ?_ fun z mv q => ?_)))
  · exact fresh_set led (Heap.get?_push_of_some _ (Heap.get?_push_size _ rfl)) val
  · exact wpAny_pure (wpAny_pure ⟨rfl, set_end (wr := []) mv q⟩)
theorem set_tuple {l : Addr} {items : Array Value} {val : Nat → Key} {Q : Value → Shared → Prop} (hh : A.handled = none) (hl : s.heap.IsTuple l items) (hv : ∀ i v, items[i]? = some v → (mixKind prog w).is (val i) v = true ∧ v.scannable = true) (room : items.size + 1 < scanBound)
    (h : ∀ z, SetMade prog w s val items.size z → Q (.ref s.heap.objs.size) z) : wpAny (model prog w) A (call (.type "set") [.ref l]) Q E s := by
  refine set_made (SetMade prog w s val items.size) h fun led => ?_
  obtain ⟨⟨k1, k2, k3, k4⟩, c1, c2, c4, c5⟩ := hl
  simp only at c2 c5
  subst c2 c5
  have d1 : (s.heap.push (newSet led)).get? l = some { cls := .type "tuple", dict := k2, data := .seq items c4, slots := k4 } := Heap.get?_push_of_some _ c1
  have d2 := PySem.F.sub_tuple_set
  have d3 := PySem.F.sub_tuple_frozenset
  have d4 : (Value.type "tuple" == Value.type "dict") = false := by decide
  have d5 : (s.heap.push (newSet led)).IsTuple l items := ⟨_, d1, rfl, c4, rfl⟩
  unfold Builtin.«set.__init__» noKeywords Builtin.Frozenset.updateFrom
  generalize hPI : pyIter = PI
  wp_walk
  subst hPI
  have lt : l < s.heap.objs.size := Heap.lt_size c1
  refine wpAny_pyIter_tuple d5 (wpAny_bind (wpAny_runValue (set_go ((Walks.tuple (by simp [hh]) _ l (by rw [Heap.size_push]; exact Nat.ne_of_lt (Nat.lt_succ_of_lt lt)) items).toS) (apart led lt) hv room items.size 0 _ (by omega) ⟨⟨_, Heap.get?_push_size _ rfl, rfl, rfl⟩, d5.push _⟩ ?_ fun z mv q => ?_)))
  · exact fresh_set led (Heap.get?_push_of_some _ (Heap.get?_push_size _ rfl)) val
  · exact wpAny_pure (wpAny_pure ⟨rfl, set_end (wr := []) mv q⟩)
/-! ### len(set(xs)) -/
def keyAt (ks : List Key) (i : Nat) : Key := ks.getD i (.inl 0)
def cntL (ks : List Key) : Nat := cntK (keyAt ks) ks.length
theorem vals_kat {ks : List Key} {its : List Value} (r : Vals (ks.map kV) its) (i : Nat) (v : Value) (h : its.toArray[i]? = some v) : (mixKind prog w).is (keyAt ks i) v = true ∧ v.scannable = true := by
  have h' : its[i]? = some v := by simpa using h
  have hi : i < ks.length := by
    have := (List.getElem?_eq_some_iff.mp h').1
    rw [← r.length, List.length_map] at this
    exact this
  obtain ⟨u, hu, ru⟩ := r.get (i := i) (x := kV ks[i]) (by rw [List.getElem?_map, List.getElem?_eq_getElem hi]; rfl)
  rw [h'] at hu
  obtain rfl : v = u := Option.some.inj hu
  have e : keyAt ks i = ks[i] := by
    unfold keyAt
    rw [List.getD_eq_getElem?_getD, List.getElem?_eq_getElem hi]
    rfl
  rw [e]
  exact ⟨kV_is ru, key_scan ru⟩
end
def tLenSetK (K : PySem.W.Frag) (ta : TE) : TE := fun σ H Q => ta σ H fun x H1 => ∃ (l : Addr) (ks : List Key), x = .ref l ∧ (SqL K H1 l (ks.map kV) ∨ SqT K H1 l (ks.map kV)) ∧ ks.length ≤ 1000 ∧ Q (.int (cntL ks)) H1
theorem pe_lenSetK {X : Cx} {a : Expr} {ta : TE} {p p2 q pos : Pos} (hc : X.calm = true) (hg : Gl X "len") (hm : X.mg "len" = none) (hg2 : Gl X "set") (hm2 : X.mg "set" = none) (ha : PE X a ta) (na : starEach [a] X.env = (false, eval a X.env) :: starEach [] X.env := by rfl) :
    PE X (.Call (.Name "len" p) [.Call (.Name "set" p2) [a] [] q] [] pos) (tLenSetK X.K ta) := by
  refine ⟨fun pins s σ H Q I h => ?_⟩
  refine Call_ (ld_blt I hg hm boot_len (PyProof.Rows.callWith_builtin1 (PyProof.Rows.args_cons ?_ rfl) rfl rfl))
  refine Call_ (ld_blt I hg2 hm2 boot_set (PyProof.Rows.callWith_type1 (PyProof.Rows.args_cons (thn (ha.run pins s σ H _ I h) fun v s1 ⟨x, H1, I1, r1, l, ks, ex, hq, h1, q1⟩ => PyProof.Rows.args_nil ?_) na) na rfl))
  subst ex
  cases r1
  have room : ∀ n, n = ks.length → n + 1 < scanBound := fun n e => by unfold scanBound; omega
  have fin : ∀ n, n = ks.length → ∀ z, SetMade X.prog X.w s1 (keyAt ks) n z → wpAny (model X.prog X.w) X.A (spliced (backTo pos (starEach [] X.env))) (fun vs y => wpAny (model X.prog X.w) X.A (call (.builtin "len") (Value.ref s1.heap.objs.size :: vs)) (EP X pins σ Q) X.xe y) X.xe z := fun n e z hz => by
    subst e
    obtain ⟨g, tk, rfl, hS, hk⟩ := hz
    refine PyProof.Rows.args_nil ?_
    obtain ⟨o, es, ep, t, ho, hex, hd, _, _, _, hf, hn⟩ := hS
    have I2 : Inv X pins σ H1 { s1 with heap := g, toks := tk } := I1.kept hk
    have le := cntK_le (keyAt ks) ks.length
    exact call_len_set ho hex hd hf (by rw [hn]; omega) ⟨.int (cntL ks), H1, I2.tok _, ⟨_, by rw [hn]; rfl⟩, q1⟩
  rcases hq with hq | hq
  · obtain ⟨its, r, pl, hz⟩ := I1.list hq
    have sz : its.toArray.size = ks.length := by rw [List.size_toArray, ← r.length, List.length_map]
    exact set_list (I1.ok.hd hc) pl.isList (vals_kat r) (room _ sz) fun z hz => fin _ sz z hz
  · obtain ⟨its, r, pl, hz⟩ := I1.tuple hq
    have sz : its.toArray.size = ks.length := by rw [List.size_toArray, ← r.length, List.length_map]
    exact set_tuple (I1.ok.hd hc) pl (vals_kat r) (room _ sz) fun z hz => fin _ sz z hz
/-! how many differ -/
theorem metK_iff {val : Nat → Key} {i : Nat} {k : Key} : metK val i k = true ↔ ∃ j, j < i ∧ val j = k := by
  unfold metK
  rw [List.any_eq_true]
  constructor
  · rintro ⟨j, hj, e⟩
    exact ⟨j, List.mem_range.mp hj, of_decide_eq_true e⟩
  · rintro ⟨j, hj, e⟩
    exact ⟨j, List.mem_range.mpr hj, decide_eq_true e⟩
theorem cntK_iff {val : Nat → Key} : ∀ {n : Nat}, cntK val n = n ↔ ∀ i j, i < j → j < n → val i ≠ val j
  | 0 => ⟨fun _ i j _ h => by omega, fun _ => rfl⟩
  | n + 1 => by
    have le := cntK_le val n
    rw [cntK]
    constructor
    · intro h
      have hm : ¬ metK val n (val n) = true := fun z => by
        rw [if_pos z] at h
        omega
      rw [if_neg hm] at h
      have ih := (cntK_iff (val := val) (n := n)).mp (by omega)
      intro i j hij hj e
      by_cases hjn : j = n
      · subst hjn
        exact hm (metK_iff.mpr ⟨i, hij, e⟩)
      · exact ih i j hij (by omega) e
    · intro h
      have hm : ¬ metK val n (val n) = true := fun z => by
        obtain ⟨i, hi, e⟩ := metK_iff.mp z
        exact h i n hi (by omega) e
      rw [if_neg hm, (cntK_iff (val := val) (n := n)).mpr fun i j hij hj => h i j hij (by omega)]
theorem cntL_iff {ks : List Key} : cntL ks = ks.length ↔ ks.Nodup := by
  unfold cntL
  rw [cntK_iff, List.nodup_iff_pairwise_ne, List.pairwise_iff_getElem]
  have e : ∀ i (h : i < ks.length), keyAt ks i = ks[i] := fun i h => by
    unfold keyAt
    rw [List.getD_eq_getElem?_getD, List.getElem?_eq_getElem h]
    rfl
  constructor
  · intro h i j hi hj hij
    have := h i j hij hj
    rw [e i hi, e j hj] at this
    exact this
  · intro h i j hij hj
    rw [e i (by omega), e j hj]
    exact h i j (by omega) hj hij
theorem cntL_le (ks : List Key) : cntL ks ≤ ks.length := cntK_le _ _
end RK

/-! {**d, k: v}. -/
namespace PySem
namespace SplatX
open PySem.Spec PyProof.Rows
section
variable {prog : Program} {w : World} {K : Type} [DecidableEq K] {knd : KeyKind prog w K} {A : Around} {E : Value → Shared → Prop} {s : Shared}
theorem dictPut_pairs {d : Addr} {kvs : List (K × Value)} {k : K} {key v : Value} {Q : Unit → Shared → Prop} (hkey : knd.is k key = true) (hm : s.heap.DictOf knd d kvs)
    (hQ : ∀ h', h'.DictOf knd d (stored kvs k v) → Heap.SameBut d s.heap h' → Q () { s with heap := h' })
    (hsz : kvs.length ≤ sizeLine) :
    wpAny (model prog w) A (dictPut d (knd.hash k) key v) Q E s := by
  obtain ⟨o, es, ep, ho, hc, hd, hk, hp, hn⟩ := hm
  have hes : es.size ≤ sizeLine := by have e1 := hp.length; have e2 : es.toList.length = es.size := by simp
                                      omega
  unfold dictPut
  refine wpAny_bind (wpAny_dictFind_of hkey ho hd hk ?_)
  have hidx : (es.findIdx? fun e => knd.is k e.key) = kvs.findIdx? fun kv => decide (kv.1 = k) := by
    rw [← hp.findIdx k]; obtain ⟨l⟩ := es; simp
  cases hi : es.findIdx? fun e => knd.is k e.key with
  | some i =>
    refine wpAny_updateDict ho hd (hQ _ ⟨_, _, ep, Heap.get?_update_self _ ho (Obj.isFreed_of_dict (Obj.data_mapDict hd _)),
      hc.mapDict _, Obj.data_mapDict hd _, hk.modify _ _, ?_, ?_⟩ (Heap.SameBut.update ..))
    · rw [stored, if_pos (any_of_findIdx_some (hidx ▸ hi))]
      have hl : (es.toList.findIdx? fun e => knd.is k e.key) = some i := by rw [← hi]; obtain ⟨l⟩ := es; simp
      have := hp.modify hn hl v
      obtain ⟨l⟩ := es
      simpa using this
    · rw [stored, if_pos (any_of_findIdx_some (hidx ▸ hi)), keys_map_store]; exact hn
  | none =>
    have hnot : k ∉ kvs.map (·.1) := not_mem_of_findIdx_none (hidx ▸ hi)
    have hany : ¬ (kvs.any fun kv => decide (kv.1 = k)) = true := by
      rw [List.any_eq_true]; rintro ⟨kv, hkv, he⟩
      exact hnot (List.mem_map.mpr ⟨kv, hkv, of_decide_eq_true he⟩)
    refine wpAny_updateDictKeys (hz := hes) ho hd (hQ _ ⟨_, _, ep + 1, Heap.get?_update_self _ ho (Obj.isFreed_of_dict (Obj.data_mapDictKeys hd _)),
      hc.mapDictKeys _, Obj.data_mapDictKeys hd _, hk.push hkey _, ?_, ?_⟩ (Heap.SameBut.update ..))
    · rw [stored, if_neg hany]
      have := hp.append hkey (knd.hash k) v
      obtain ⟨l⟩ := es
      simpa using this
    · rw [stored, if_neg hany, List.map_append, List.nodup_append]
      refine ⟨hn, by simp, ?_⟩
      intro a ha b hb
      simp only [List.map_cons, List.map_nil, List.mem_singleton] at hb
      subst hb
      exact fun e => hnot (e ▸ ha)
theorem merge_of {d o : Addr} {kvs more : List (K × Value)} {Q : Unit → Shared → Prop} (hdo : d ≠ o) (hoS : (o == sysModules) = false)
    (hd : s.heap.DictOf knd d kvs) (ho : s.heap.DictOf knd o more) (hkey : ∀ k v, knd.is k v = true → ∀ b, v ≠ .ref b)
    (hQ : ∀ h', h'.DictOf knd d (merged kvs more) → Heap.SameBut d s.heap h' → Q () { s with heap := h' })
    (hsz : kvs.length + more.length ≤ sizeLine) :
    wpAny (model prog w) A (mergeMapping d (.ref o) false) Q E s := by
  obtain ⟨od, esd, epd, hod, hcd, hdd, hkd, hpd, hnd⟩ := id hd
  obtain ⟨oo, eso, epo, hoo, hco, hdo', hko, hpo, hno⟩ := id ho
  have hlen : more.length = eso.size := by rw [← hpo.length]; simp
  unfold mergeMapping
  have loop : wpAny (model prog w) A (do
      let l ← dictEntries o
      let epoch ← dictEpoch o
      forIn (List.range l.size) PUnit.unit fun i (_ : PUnit) => (do
          let l' ← dictEntries o
          match l'[i]? with
            | some e => do
              holding [e.key, e.val] (dictPut d e.hash e.key e.val)
              let ep' ← dictEpoch o
              if (ep' != epoch) = true then do
                  (unsupported "dict.changed-during-merge" : Sem PUnit)
                  pure (ForInStep.yield PUnit.unit)
                else pure (ForInStep.yield PUnit.unit)
            | _ => do
              (unsupported "dict.changed-during-merge" : Sem PUnit)
              pure (ForInStep.yield PUnit.unit) : Sem (ForInStep PUnit))
      pure ()) Q E s := by
    refine wpAny_bind (wpAny_dictEntries hoo hdo' ?_)
    refine wpAny_bind (wpAny_dictEpoch hoo hdo' ?_)
    refine wpAny_bind ?_
    rw [List.range_eq_range']
    refine wpAny_forIn_list _
      (fun rest _ s' => ∃ h' i, s' = { s with heap := h' } ∧ rest = List.range' i (eso.size - i) ∧ i ≤ eso.size ∧ h'.DictOf knd d (merged kvs (more.take i)) ∧ h'.get? o = some oo ∧ Heap.SameBut d s.heap h')
      _ ?_ ?_ _ _ ⟨s.heap, 0, rfl, by simp, Nat.zero_le _, by simpa [merged] using hd, hoo, Heap.SameBut.refl _ _⟩
    · rintro x rest b s' ⟨h', i, rfl, hr, hi, hd', hoo', hs'⟩
      have hlt : i < eso.size := by
        rcases Nat.lt_or_ge i eso.size with h | h
        · exact h
        · rw [Nat.sub_eq_zero_of_le h] at hr; simp at hr
      obtain ⟨rfl, hrest⟩ : x = i ∧ rest = List.range' (i + 1) (eso.size - (i + 1)) := by
        have e : eso.size - i = (eso.size - (i + 1)) + 1 := by omega
        rw [e, List.range'_succ] at hr
        injection hr with h1 h2
        exact ⟨h1, h2⟩
      refine wpAny_bind (wpAny_dictEntries hoo' hdo' ?_)
      rw [Array.getElem?_eq_getElem hlt]
      obtain ⟨kv, hkv⟩ : ∃ kv, more[x]? = some kv := ⟨more[x]'(by rw [hlen]; exact hlt), List.getElem?_eq_getElem _⟩
      obtain ⟨k, v⟩ := kv
      obtain ⟨hkey1, hval⟩ := hpo.get? (e := eso[x]) (by simp [hlt]) hkv
      obtain ⟨k', hkey', hhash⟩ := hko eso[x] (Array.getElem_mem hlt)
      obtain rfl : k' = k := knd.inj _ _ _ hkey' hkey1
      show wpAny _ _ (holding [eso[x].key, eso[x].val] (dictPut d eso[x].hash eso[x].key eso[x].val) >>= _) _ _ _
      rw [hhash, hval]
      have hmx : (merged kvs (more.take x)).length ≤ sizeLine := by
        have e1 := merged_length_le kvs (more.take x)
        have e2 : (more.take x).length ≤ more.length := by rw [List.length_take]; omega
        omega
      refine wpAny_bind (wpAny_holding (dictPut_pairs (hsz := hmx) hkey1 hd' fun h'' hd'' hs'' => ?_))
      have hoo'' : h''.get? o = some oo := (hs''.2 o (Ne.symm hdo)).trans hoo'
      refine wpAny_bind (wpAny_dictEpoch hoo'' hdo' ?_)
      rw [if_neg (by simp)]
      exact wpAny_pure ⟨h'', x + 1, rfl, hrest, hlt, by rw [merged_take_succ kvs more x (k', v) hkv]; exact hd'', hoo'', hs'.trans hs''⟩
    · rintro b s' ⟨h', i, rfl, hr, hi, hd', hoo', hs'⟩
      have hin : i = eso.size := by
        rcases Nat.lt_or_ge i eso.size with h | h
        · have e : eso.size - i = (eso.size - (i + 1)) + 1 := by omega
          rw [e, List.range'_succ] at hr; exact nomatch hr
        · exact Nat.le_antisymm hi h
      refine wpAny_pure (hQ h' ?_ hs')
      rw [hin, ← hlen, List.take_length] at hd'; exact hd'
  refine wpAny_bind (wpAny_isInstance ho.typeIs (b := true) isSubtype_dict_dict ?_)
  rw [if_pos rfl]
  refine wpAny_bind (wpAny_specialOf ho.typeIs F.slot_dict_iter.lookup (wpAny_bind (wpAny_pure ?_)))
  rw [show ((some (Value.builtin "dict.__iter__")) == some (Value.builtin "dict.__iter__")) = true from by decide +kernel]
  dsimp only
  rw [if_neg (by rw [hoS]; exact Bool.false_ne_true)]
  refine wpAny_bind (wpAny_dictEntries hod hdd ?_)
  split
  · refine wpAny_bind (wpAny_dictEntries hoo hdo' ?_)
    refine wpAny_bind (wpAny_of_eq (a := PUnit.unit) ?_ loop)
    rw [← Array.forIn_toList]
    refine forIn_yield_id _ fun e he c => ?_
    obtain ⟨k, hk, _⟩ := hko e (Array.mem_toList_iff.mp he)
    have hne := hkey k _ hk
    cases hv : e.key <;> first | rfl | exact absurd hv (hne _)
  · exact loop
theorem display {v1 k v2 : Sem Value} {Q : Value → Shared → Prop} (hkey : ∀ k v, knd.is k v = true → ∀ b, v ≠ .ref b)
    (h : wpAny (model prog w) A v1 (fun m s1 => ∃ (o : Addr) (more : List (K × Value)), m = .ref o ∧ s.heap.objs.size ≠ o ∧ (o == sysModules) = false ∧ more.length ≤ 1000 ∧ s1.heap.DictOf knd s.heap.objs.size [] ∧ s1.heap.DictOf knd o more ∧
      ∀ h2, h2.DictOf knd s.heap.objs.size more → Heap.SameBut s.heap.objs.size s1.heap h2 →
        wpAny (model prog w) A (evalPairs [(k, v2)]) (fun vs s3 => ∃ (key : K) (val : Value) (more3 : List (K × Value)), Carries knd vs [(key, val)] ∧ s3.heap.DictOf knd h2.objs.size [] ∧ s3.heap.DictOf knd s.heap.objs.size more3 ∧ more3.length ≤ 1000 ∧ (h2.objs.size == sysModules) = false ∧
          ∀ h4 h5, h4.DictOf knd h2.objs.size [(key, val)] → Heap.SameBut h2.objs.size s3.heap h4 → h5.DictOf knd s.heap.objs.size (stored more3 key val) → Heap.SameBut s.heap.objs.size h4 h5 →
            Q (.ref s.heap.objs.size) { s3 with heap := h5, toks := s3.toks + vs.length }) E
          { s1 with heap := h2.push { cls := .type "dict", data := .dict #[] } }) E
      { s with heap := s.heap.push { cls := .type "dict", data := .dict #[] } }) :
    wpAny (model prog w) A (dictDisplay [(none, v1), (some k, v2)]) Q E s := by
  unfold dictDisplay
  simp only [List.forIn_cons, List.forIn_nil, bind_assoc, pure_bind, List.isEmpty_nil, if_true, List.nil_append, List.length_cons, List.length_nil, Nat.zero_add, show ((1 : Nat) == 17) = false from rfl, Bool.false_eq_true, if_false, List.isEmpty_cons]
  refine wpAny_bind (wpAny_alloc ?_)
  try simp only [bind_assoc, pure_bind]
  refine wpAny_bind (wpAny_holding (wpAny_mono h (fun m s1 hm => ?_) fun _ _ e => e))
  obtain ⟨o, more, rfl, hdo, hoS, hl, hd, ho, hq⟩ := hm
  have nod : (more.map (·.1)).Nodup := by
    obtain ⟨_, _, _, _, _, _, _, _, hn⟩ := ho
    exact hn
  refine wpAny_bind (wpAny_onRaise (wpAny_tryCatch (wpAny_onRaise (wpAny_holding (merge_of hdo hoS hd ho hkey (fun h2 hd2 hs2 => ?_) (by rw [List.length_nil, sizeLine_eq]; omega))))))
  rw [merged_nil_of_nodup more nod] at hd2
  try simp only [bind_assoc, pure_bind]
  refine wpAny_bind (wpAny_holding (wpAny_subDict (knd := knd) (by simp) (wpAny_mono (hq h2 hd2 hs2) (fun vs s3 h3 => ?_) fun _ _ e => e)))
  obtain ⟨key, val, more3, hc, e1, e2, l3, e3, fin⟩ := h3
  refine ⟨[(key, val)], hc, e1, fun h4 hd4 hs4 => ?_⟩
  have hne : s.heap.objs.size ≠ h2.objs.size := by
    obtain ⟨ob, _, _, hob, _⟩ := hd2
    exact Nat.ne_of_lt (Heap.lt_size hob)
  have hd4' : h4.DictOf knd h2.objs.size [(key, val)] := hd4
  refine wpAny_bind (wpAny_onRaise (wpAny_holding (merge_of (knd := knd) (kvs := more3) (more := [(key, val)]) hne e3 (e2.sameBut hs4 hne) hd4' hkey (fun h5 hd5 hs5 => ?_) (by rw [sizeLine_eq, List.length_cons, List.length_nil]; omega))))
  exact wpAny_pure (fin h4 h5 hd4' hs4 hd5 hs5)
end
end SplatX
end PySem

namespace RK
open PySem PySem.Spec PyProof.Rows L2
/-- {**e1, k: e2} -/
def tSplat (t1 tk t2 : TE) : TE := fun σ H Q => ∀ p, H p = none → t1 σ (upd H p (.dK [])) fun x H1 => ∃ (o : Addr) (kvs : List (Key × V)), x = .ref o ∧ o ≠ p ∧ H1 p = some (.dK []) ∧ Rd H1 o (.dK kvs) ∧ kvs.length ≤ 1000 ∧
  ∀ q, upd H1 p (.dK kvs) q = none → tk σ (upd (upd H1 p (.dK kvs)) q (.dK [])) fun kx H2 => t2 σ H2 fun v H3 => H3 q = some (.dK []) ∧ H3 p = some (.dK kvs) ∧ ∃ key : Key, kx = kV key ∧
    Q (.ref p) (upd (upd H3 q (.dK [(key, v)])) p (.dK (putK kvs key v)))
theorem pe_splat {X : Cx} {e1 k e2 : Expr} {pos : Pos} {t1 tk t2 : TE} (h1 : PE X e1 t1) (hk : PE X k tk) (h2 : PE X e2 t2) : PE X (.Dict [none, some k] [e1, e2] pos) (tSplat t1 tk t2) := by
  refine ⟨fun pins s σ H Q I q => ?_⟩
  rw [arm_eval_Dict]
  refine wpAny_bind (wpAny_standAt ?_)
  show wpAny _ _ (dictDisplay [(none, do let x ← eval e1 X.env; standAt pos; pure x), (some (eval k X.env), do let x ← eval e2 X.env; standAt pos; pure x)]) _ _ _
  have hn := I.hok.fresh (Nat.le_refl s.heap.objs.size)
  have I1 := I.laid (a := s.heap.objs.size) (o := .dK []) (h' := s.heap.push { cls := .type "dict", data := .dict #[] }) (t' := s.toks) (fun _ _ q => Heap.get?_push_of_some _ q) (Nat.le_refl _) (dk_empty s.heap I.big)
  refine PySem.SplatX.display (knd := mixKind X.prog X.w) (fun k v hkv b hb => ?_) (wpAny_bind (thn (h1.run pins _ σ _ _ I1 (q _ hn)) fun u s1 ⟨x, H1, I2, rx, o, kvs, ex, ne, hp, rd, l, q2⟩ => wpAny_bind (wpAny_standAt (wpAny_pure ?_))))
  · rcases keyIs_shape hkv with ⟨i, t, rfl, rfl⟩ | ⟨y, t, rfl, rfl⟩ <;> cases hb
  subst ex
  obtain rfl : u = Value.ref o := rx
  obtain ⟨z, hoS, vs, r, dd⟩ := dk_rd I2.hok rd
  obtain ⟨_, hpS, vs0, r0, dd0⟩ := dk_of I2.hok hp
  cases r0
  have lv : vs.length ≤ 1000 := by
    have := Paired.length r
    omega
  refine ⟨o, vs, rfl, ne.symm, hoS, lv, dd0, dd, fun h2' hd2 hs2 => ?_⟩
  have he2 : ∃ q, h2'.get? s.heap.objs.size = some q := let ⟨q, _, _, hq, _⟩ := hd2; ⟨q, hq⟩
  have J := d_write (t' := s1.toks) I2 (by rw [hp]; exact True.intro) hs2 he2 (dk_new (kvs := kvs) (by rw [sizeLine_eq]; omega) hpS r hd2)
  have hnq := J.hok.fresh (Nat.le_refl h2'.objs.size)
  have J2 := J.laid (a := h2'.objs.size) (o := .dK []) (h' := h2'.push { cls := .type "dict", data := .dict #[] }) (t' := s1.toks) (fun _ _ q => Heap.get?_push_of_some _ q) (Nat.le_refl _) (dk_empty h2' J.big)
  refine thn ((pps_cons hk h2 pps_nil).run pins _ σ _ (fun ps H3 => match ps with
    | [(kx, v)] => H3 h2'.objs.size = some (.dK []) ∧ H3 s.heap.objs.size = some (.dK kvs) ∧ ∃ key : Key, kx = kV key ∧ Q (.ref s.heap.objs.size) (upd (upd H3 h2'.objs.size (.dK [(key, v)])) s.heap.objs.size (.dK (putK kvs key v)))
    | _ => False) J2 (q2 _ hnq)) fun ws s3 ⟨ps, H3, I3, rel, q3⟩ => ?_
  match ps, rel, q3 with
  | [(kx, v)], .cons (b := (b1, b2)) hb .nil, ⟨hq3, hp3, key, ek, fin⟩ =>
    subst ek
    obtain ⟨_, hqS, w0, rq0, ddq⟩ := dk_of I3.hok hq3
    cases rq0
    obtain ⟨_, _, vs3, r3, dd3⟩ := dk_of I3.hok hp3
    have l3 : vs3.length ≤ 1000 := by
      have := Paired.length r3
      omega
    have nqp : s.heap.objs.size ≠ h2'.objs.size := by
      obtain ⟨ob, hob⟩ := he2
      exact Nat.ne_of_lt (Heap.lt_size hob)
    refine ⟨key, b2, vs3, ⟨kV_is hb.1, rfl, True.intro⟩, ddq, dd3, l3, hqS, fun h4 h5 hd4 hs4 hd5 hs5 => ?_⟩
    have he4 : ∃ q, h4.get? h2'.objs.size = some q := let ⟨q, _, _, hq, _⟩ := hd4; ⟨q, hq⟩
    have he5 : ∃ q, h5.get? s.heap.objs.size = some q := let ⟨q, _, _, hq, _⟩ := hd5; ⟨q, hq⟩
    have rk : KV [(key, v)] [(key, b2)] := .cons ⟨rfl, hb.2⟩ .nil
    have J4 := d_write (t' := s3.toks) I3 (by rw [hq3]; exact True.intro) hs4 he4 (dk_new (kvs := [(key, v)]) (by rw [sizeLine_eq]; simp) hqS rk hd4)
    have lp := length_putK kvs key v
    have J5 := d_write (t' := s3.toks + [(b1, b2)].length) J4 (a := s.heap.objs.size) (by rw [upd_ne nqp, hp3]; exact True.intro) hs5 he5 (dk_new (kvs := putK kvs key v) (by rw [sizeLine_eq]; omega) hpS (r3.put key hb.2) hd5)
    exact ⟨.ref s.heap.objs.size, _, J5, rfl, fin⟩
end RK

namespace DL
open PySem PySem.Spec PyProof.Rows L2 RK
section
variable {X : Cx} {F : Fx} {e a b c e1 e2 k0 : Expr} {es : List Expr} {d da db dc d1 d2 dk : TDE} {ds : TDA} {pos p p2 q0 : Pos}
/-- a thing of the written part -/
theorem c_liftK {x : D} {v : V} {K : PySem.W.Frag} (h : PE X e (tC v)) (r : ∀ N W H, Dd K N W H v x) (hK : F.K = K := by rfl) : PE X e (lC F (dC x)) := PE.mono h fun σ H Q ⟨env, L, P, A, p, q⟩ => q x v H p (.refl _ _) A.ok (by rw [hK]; exact r _ _ _)
/-! ### len(set(xs)) -/
def dLenSet (d : TDE) : TDE := fun env P => d env fun x => ob (itemsD x) fun xs => ob (keysD xs) fun ks => ks.length ≤ 1000 ∧ P (.int (cntL ks))
theorem lenSetR (hc : X.calm = true) (hg : Gl X "len") (hm : X.mg "len" = none) (hg2 : Gl X "set") (hm2 : X.mg "set" = none) {ta : TE} (ha : PE X a ta) (hK : F.K = X.K) (na : starEach [a] X.env = (false, eval a X.env) :: starEach [] X.env) :
    PE X (.Call (.Name "len" p) [.Call (.Name "set" p2) [a] [] q0] [] pos) (tLenSetK F.K ta) := by rw [hK]; exact pe_lenSetK hc hg hm hg2 hm2 ha na
theorem dd_lenSet (hg : Gl X "len") (hm : X.mg "len" = none) (hg2 : Gl X "set") (hm2 : X.mg "set" = none) (ha : PE X a (lB F d)) (hc : X.calm = true := by rfl) (na : starEach [a] X.env = (false, eval a X.env) :: starEach [] X.env := by rfl) (hK : F.K = X.K := by rfl) :
    PE X (.Call (.Name "len" p) [.Call (.Name "set" p2) [a] [] q0] [] pos) (lC F (dLenSet d)) := PE.mono (lenSetR hc hg hm hg2 hm2 ha hK na) fun σ H Q ⟨env, L, P, A, pp, q⟩ =>
  ⟨env, L, _, A, pp, fun x v H1 px k1 o1 b1 => by
    obtain ⟨xs, ex, px⟩ := ob_elim px
    obtain ⟨ks, ek, hl, px⟩ := ob_elim px
    obtain ⟨t, vs, rfl, g1, g2⟩ := bw_items b1 ex
    have hv := keysD_v g2 ek
    subst hv
    exact ⟨t, ks, rfl, g1, hl, q _ _ H1 px k1 o1 (.int _)⟩⟩
/-! ### {**d, k: v} -/
def dSplat (d1 dk d2 : TDE) : TDE := fun env P => d1 env fun x => match x with
  | .dic kds => kds.length ≤ 1000 ∧ dk env fun k => d2 env fun v => ob (keyD k) fun key => P (.dic (putD kds key v))
  | _ => False
theorem l_splat : ∀ σ H Q, lN F (dSplat d1 dk d2) σ H Q → tSplat (lC F d1) (lC F dk) (lC F d2) σ H Q := fun σ H Q ⟨env, L, P, A, pp, q⟩ p hp => by
  have A1 : Abs F env σ (p :: L) (upd H p (.dK [])) := A.hold (x := .dic []) (.new hp) (ok_new A.ok hp) hp ⟨[], upd_same, rfl, .nil⟩
  have lo1 : Lone env σ p := A.lone hp
  refine ⟨env, p :: L, _, A1, pp, fun x v H1 px k1 o1 b1 => ?_⟩
  cases x with
  | dic kds =>
    obtain ⟨hl, px⟩ := px
    obtain ⟨o, kvs, rfl, r1, r2, r3⟩ := bw_dic (.inl b1 : Bw F (p :: L) H1 v (.dic kds))
    have no : o ≠ p := fun z => by
      cases b1 with
      | dic h1 h2 _ _ => exact h2 (.inr (by rw [z]; exact List.mem_cons_self))
    have B := A1.step k1 o1
    have np : ¬ F.W.own p := fun z => B.out List.mem_cons_self (B.wn p z)
    refine ⟨o, kvs, rfl, no, k1 p _ np upd_same, r1, by rw [kd_len r2]; exact hl, fun z hz => ?_⟩
    have C1 : Abs F env σ (p :: L) (upd H1 p (.dK kvs)) := B.poke List.mem_cons_self lo1
    have D1 : DdAll F.K (F.N (p :: L)) F.W (upd H1 p (.dK kvs)) (kvs.map (·.2)) (kds.map (·.2)) := r3.keep (fun x u q h => by rw [upd_ne fun w => q (.inr (by rw [w]; exact List.mem_cons_self))]; exact h) fun _ z => z
    have C2 : Abs F env σ (z :: p :: L) (upd (upd H1 p (.dK kvs)) z (.dK [])) := C1.hold (x := .dic []) (.new hz) (ok_new C1.ok hz) hz ⟨[], upd_same, rfl, .nil⟩
    have D2 := D1.pres (pres_cons C1 (.new hz) hz (H' := upd (upd H1 p (.dK kvs)) z (.dK [])))
    have zp : z ≠ p := fun w => by rw [w, upd_same] at hz; cases hz
    refine ⟨env, z :: p :: L, _, C2, px, fun k kv H2 pk k2 o2 bk => ?_⟩
    have C3 := C2.step k2 o2
    refine ⟨env, z :: p :: L, _, C3, pk, fun y yv H3 py k3 o3 by3 => ?_⟩
    obtain ⟨key, ek, py⟩ := ob_elim py
    have C4 := C3.step k3 o3
    have nz : ¬ F.W.own z := fun w => C4.out List.mem_cons_self (C4.wn z w)
    have hz3 : H3 z = some (.dK []) := k3 z _ nz (k2 z _ nz upd_same)
    have hp3 : H3 p = some (.dK kvs) := k3 p _ np (k2 p _ np (by rw [upd_ne zp.symm]; exact upd_same))
    have hkv := keyD_v (.inl bk : Bw F (z :: p :: L) H2 kv k) ek
    refine ⟨hz3, hp3, key, hkv, ?_⟩
    have D3 : DdAll F.K (F.N (z :: p :: L)) F.W H3 (kvs.map (·.2)) (kds.map (·.2)) := C3.kda k3 (C2.kda k2 D2)
    obtain ⟨u1, u2⟩ := put_rel (k := key) r2 D3 by3
    have loz : Lone env σ z := C1.lone hz
    have C5 : Abs F env σ (z :: p :: L) (upd H3 z (.dK [(key, yv)])) := C4.poke List.mem_cons_self loz
    have C6 : Abs F env σ (z :: p :: L) (upd (upd H3 z (.dK [(key, yv)])) p (.dK (putK kvs key yv))) := C5.poke (List.mem_cons_of_mem _ List.mem_cons_self) lo1
    refine q _ p _ py (fun a u w h => ?_) C6.ok hp ⟨_, upd_same, u1, u2.keep (fun x u w h => ?_) fun x w => ?_⟩
    · have ap : a ≠ p := fun w => by rw [w, hp] at h; cases h
      have az : a ≠ z := fun w2 => by
        have h1 : H1 a = some u := k1 a u w (by rw [upd_ne ap]; exact h)
        rw [w2] at h1
        rw [upd_ne zp, h1] at hz
        cases hz
      rw [upd_ne ap, upd_ne az]
      exact k3 a u w (k2 a u w (by rw [upd_ne az, upd_ne ap]; exact k1 a u w (by rw [upd_ne ap]; exact h)))
    · have xp : x ≠ p := fun z0 => w (.inr (by rw [z0]; exact List.mem_cons_of_mem _ List.mem_cons_self))
      have xz : x ≠ z := fun z0 => w (.inr (by rw [z0]; exact List.mem_cons_self))
      rw [upd_ne xp, upd_ne xz]
      exact h
    · exact nl_sub x w
  | _ => exact px.elim
theorem dn_splat (h1 : PE X e1 (lC F d1)) (hk : PE X k0 (lC F dk)) (h2 : PE X e2 (lC F d2)) : PE X (.Dict [none, some k0] [e1, e2] pos) (lN F (dSplat d1 dk d2)) := PE.mono (pe_splat h1 hk h2) l_splat
end
end DL

namespace DL
open PySem PySem.Spec PyProof.Rows L2 RK
/-! ### [e for x in xs for y in ys] -/
def dIn (g : TDG) (tt : TDT) (te : TDE) (k : List D → Prop) (env : De) : List D → List D → Prop
  | [], acc => k acc
  | x :: xs, acc => g x env fun env' => tt env' fun b => if b = true then te env' fun y => acc.length < sizeLine ∧ dIn g tt te k env xs (acc ++ [y]) else dIn g tt te k env xs acc
def dComp2 (g : TDG) (tt : TDT) (it1 : TDI) (g1 : TDG) (tt1 : TDT) (te : TDE) (vs1 : List Nat) (P : D → Prop) (env : De) : List D → List D → Prop
  | [], acc => P (.lst acc)
  | x :: xs, acc => g x env fun env' => tt env' fun b => if b = true then it1 env' fun ys => dIn g1 tt1 te (fun acc' => dComp2 g tt it1 g1 tt1 te vs1 P env xs acc') (wipeE env' vs1) ys acc else dComp2 g tt it1 g1 tt1 te vs1 P env xs acc
def dLc2 (it : TDI) (g : TDG) (tt : TDT) (it1 : TDI) (g1 : TDG) (tt1 : TDT) (te : TDE) (vs vs1 : List Nat) : TDE := fun env P => it env fun xs => dComp2 g tt it1 g1 tt1 te vs1 P (wipeE env vs) xs []
section
variable {X : Cx} {F : Fx}
theorem lone_setN {env : De} {σ : L2.St} {a : Addr} (h : Lone env σ a) (i : Nat) (l : env.length = σ.length) : Lone (env.set i .no) (σ.set i none) a := fun j ej h1 h2 h3 => by
  by_cases hj : i = j
  · subst hj
    by_cases hi : i < env.length
    · rw [List.getElem?_set_self hi] at h1
      cases h1
      cases h2
    · rw [List.getElem?_eq_none (by rw [List.length_set]; omega)] at h1
      cases h1
  · rw [List.getElem?_set_ne hj] at h1 h3
    exact h j ej h1 h2 h3
theorem wipe_len {env : De} : ∀ vs : List Nat, (wipeE env vs).length = env.length
  | [] => rfl
  | v :: vs => by
    show ((wipeE env vs).set v .no).length = _
    rw [List.length_set, wipe_len vs]
theorem lone_wipe {env : De} {σ : L2.St} {a : Addr} (h : Lone env σ a) (l : env.length = σ.length) : ∀ vs : List Nat, Lone (wipeE env vs) (wipe σ vs) a
  | [] => h
  | v :: vs => lone_setN (lone_wipe h l vs) v (by rw [wipe_len, wipe_length]; exact l)
theorem l_lc2 {S vs S1 vs1 : List Nat} {it it1 : TDI} {g g1 : TDG} {tt tt1 : TDT} {te : TDE} (hS : ∀ i ∈ S, i ∈ vs) (hS1 : ∀ i ∈ S1, i ∈ vs1) : ∀ σ H Q, lN F (dLc2 it g tt it1 g1 tt1 te vs vs1) σ H Q → tLc2 (lIb F it) (lG F S g) (lT F tt) (lI F it1) (lG F S1 g1) (lT F tt1) (lC F te) vs vs1 σ H Q := fun σ H Q ⟨env, L, P, A, pp, q⟩ =>
  ⟨env, L, _, A, pp, fun xs J H1 px k1 o1 ok T nD => by
    have A1 := A.step k1 o1
    have lo : Lone (wipeE env vs) (wipe σ vs) T := (A1.wipe vs).lone nD
    have B0 : Abs F (wipeE env vs) (wipe σ vs) (T :: L) (upd H1 T (.lst [])) := (A1.wipe vs).hold (x := .lst []) (.new nD) (ok_new o1 nD) nD ⟨[], upd_same, .nil⟩
    let Z : (List D → Prop) → Hp → Prop := fun lp H' => ∃ acc us, Abs F (wipeE env vs) (wipe σ vs) (T :: L) H' ∧ (∀ a o, ¬ F.W.own a → H1 a = some o → H' a = some o) ∧ H' T = some (.lst us) ∧ DdAll F.K (F.N (T :: L)) F.W H' us acc ∧ lp acc
    refine ⟨fun i m H' => Z (fun acc => dComp2 g tt it1 g1 tt1 te vs1 P (wipeE env vs) (xs.drop i) acc) H' ∧ i ≤ xs.length ∧ m = xs.length - i,
      ⟨_, ⟨[], [], B0, fun a o _ h => by rw [upd_ne (ne_of_none h nD)]; exact h, upd_same, .nil, px⟩, Nat.zero_le _, rfl⟩, ?_⟩
    rintro i m H' ⟨⟨acc, us, B, kk, hD, hu, lp⟩, hi, rfl⟩
    obtain ⟨st, go⟩ := ok (F.N (T :: L)) H' (fun a o n h => ⟨fun nn z => by
      rcases z with z | z
      · exact nn (.inl z)
      · rcases List.mem_cons.mp z with z | z
        · rw [z, nD] at h
          cases h
        · exact nn (.inr z), kk a o n h⟩) (fun a h => B.alN h) i
    by_cases hlt : i < xs.length
    · obtain ⟨g1', g2⟩ := go xs[i] (List.getElem?_eq_getElem hlt)
      rw [List.drop_eq_getElem_cons hlt] at lp
      refine .inr ⟨g1', fun H2 => Z (fun acc => dComp2 g tt it1 g1 tt1 te vs1 P (wipeE env vs) (xs.drop (i + 1)) acc) H2, fun H2 z => ⟨xs.length - (i + 1), by omega, z, hlt, rfl⟩, fun v H2 hy => ?_⟩
      obtain ⟨sm, dd⟩ := g2 v H2 hy
      have B2 := B.step (same_keep sm) (same_ok B.ok sm)
      have nD0 : ¬ F.W.own T := fun z => B.out List.mem_cons_self (B.wn T z)
      refine ⟨_, _, _, _, B2, dd, lp, fun env3 σ3 p3 B3 w3 n3 => ⟨by rw [w3 vs hS]; exact wipe_wipe σ vs, env3, _, _, B3, p3, fun bb H3 p4 k4 o4 => ?_⟩⟩
      have B4 := B3.step k4 o4
      have W4 : Abs F (wipeE env vs) (wipe σ vs) (T :: L) H3 := B2.step k4 o4
      have hD3 : H3 T = some (.lst us) := k4 T _ nD0 (sm T _ hD)
      have hu3 : DdAll F.K (F.N (T :: L)) F.W H3 us acc := B2.kda k4 (B.kda (same_keep sm) hu)
      have kk3 : ∀ a o, ¬ F.W.own a → H1 a = some o → H3 a = some o := fun a o n h => k4 a o n (sm a o (kk a o n h))
      have lo3 : Lone env3 σ3 T := n3 T lo
      cases bb with
      | false => exact iteF ⟨acc, us, W4, kk3, hD3, hu3, p4⟩
      | true =>
        refine iteT ⟨env3, _, _, B4, p4, fun ys J1 H4 p5 k5 o5 ok1 => ?_⟩
        have B5 := B4.step k5 o5
        have W5 := W4.step k5 o5
        have loV : Lone (wipeE env3 vs1) (wipe σ3 vs1) T := lone_wipe lo3 B3.ls vs1
        refine ⟨fun jj kx HH => (∃ acc us, Abs F (wipeE env3 vs1) (wipe σ3 vs1) (T :: L) HH ∧ Abs F (wipeE env vs) (wipe σ vs) (T :: L) HH ∧ (∀ a o, ¬ F.W.own a → H1 a = some o → HH a = some o) ∧ (∀ a o, ¬ F.N (T :: L) a → H4 a = some o → HH a = some o) ∧ HH T = some (.lst us) ∧ DdAll F.K (F.N (T :: L)) F.W HH us acc ∧ dIn g1 tt1 te (fun acc' => dComp2 g tt it1 g1 tt1 te vs1 P (wipeE env vs) (xs.drop (i + 1)) acc') (wipeE env3 vs1) (ys.drop jj) acc) ∧ jj ≤ ys.length ∧ kx = ys.length - jj,
          ⟨_, ⟨acc, us, B5.wipe vs1, W5, fun a o n h => k5 a o n (kk3 a o n h), fun _ _ _ h => h, k5 T _ nD0 hD3, W4.kda k5 hu3, p5⟩, Nat.zero_le _, rfl⟩, ?_⟩
        rintro jj kx HH ⟨⟨acc, us, V, Y, kk5, kp5, hT, hu5, lp5⟩, hj, rfl⟩
        obtain ⟨st1, go1⟩ := ok1 (F.N (T :: L)) HH (fun a o n h => ⟨n, kp5 a o n h⟩) (fun a h => V.alN h) jj
        by_cases hlt1 : jj < ys.length
        · obtain ⟨u1, u2⟩ := go1 ys[jj] (List.getElem?_eq_getElem hlt1)
          rw [List.drop_eq_getElem_cons hlt1] at lp5
          refine .inr ⟨u1, fun HH => ∃ acc us, Abs F (wipeE env3 vs1) (wipe σ3 vs1) (T :: L) HH ∧ Abs F (wipeE env vs) (wipe σ vs) (T :: L) HH ∧ (∀ a o, ¬ F.W.own a → H1 a = some o → HH a = some o) ∧ (∀ a o, ¬ F.N (T :: L) a → H4 a = some o → HH a = some o) ∧ HH T = some (.lst us) ∧ DdAll F.K (F.N (T :: L)) F.W HH us acc ∧ dIn g1 tt1 te (fun acc' => dComp2 g tt it1 g1 tt1 te vs1 P (wipeE env vs) (xs.drop (i + 1)) acc') (wipeE env3 vs1) (ys.drop (jj + 1)) acc, fun HH z => ⟨ys.length - (jj + 1), by omega, z, hlt1, rfl⟩, fun v1 H6 hy1 => ?_⟩
          obtain ⟨sm1, dd1⟩ := u2 v1 H6 hy1
          have V2 := V.step (same_keep sm1) (same_ok V.ok sm1)
          have Y2 := Y.step (same_keep sm1) (same_ok Y.ok sm1)
          refine ⟨_, _, _, _, V2, dd1, lp5, fun env7 σ7 p7 V7 w7 _ => ⟨by rw [w7 vs1 hS1]; exact wipe_wipe σ3 vs1, env7, _, _, V7, p7, fun b1 H8 p8 k8 o8 => ?_⟩⟩
          have V8 := V7.step k8 o8
          have U8 : Abs F (wipeE env3 vs1) (wipe σ3 vs1) (T :: L) H8 := V2.step k8 o8
          have Y8 := Y2.step k8 o8
          have hT8 : H8 T = some (.lst us) := k8 T _ nD0 (sm1 T _ hT)
          have hu8 : DdAll F.K (F.N (T :: L)) F.W H8 us acc := V2.kda k8 (V.kda (same_keep sm1) hu5)
          have kk8 : ∀ a o, ¬ F.W.own a → H1 a = some o → H8 a = some o := fun a o n h => k8 a o n (sm1 a o (kk5 a o n h))
          have kp8 : ∀ a o, ¬ F.N (T :: L) a → H4 a = some o → H8 a = some o := fun a o n h => k8 a o (nw_of V n) (sm1 a o (kp5 a o n h))
          cases b1 with
          | false => exact iteF ⟨acc, us, U8, Y8, kk8, kp8, hT8, hu8, p8⟩
          | true =>
            refine iteT ⟨env7, _, _, V8, p8, fun y v' H9 p9 k9 o9 d9 => ?_⟩
            have hT9 : H9 T = some (.lst us) := k9 T _ nD0 hT8
            have hu9 : DdAll F.K (F.N (T :: L)) F.W H9 us acc := U8.kda k9 hu8
            refine ⟨us, hT9, by rw [hu9.len]; exact p9.1, acc ++ [y], us ++ [v'], (U8.step k9 o9).poke List.mem_cons_self loV, (Y8.step k9 o9).poke List.mem_cons_self lo, fun a o n h => ?_, fun a o n h => ?_, upd_same, (hu9.app (.cons d9 .nil)).keep (fun x u q h => ?_) (fun _ z => z), p9.2⟩
            · rw [upd_ne (ne_of_none h nD)]
              exact k9 a o n (kk8 a o n h)
            · have ne : a ≠ T := fun z => n (.inr (by rw [z]; exact List.mem_cons_self))
              rw [upd_ne ne]
              exact k9 a o (nw_of V n) (kp8 a o n h)
            · have ne : x ≠ T := fun z => q (.inr (by rw [z]; exact List.mem_cons_self))
              rw [upd_ne ne]
              exact h
        · have e : ys.drop jj = [] := List.drop_eq_nil_of_le (by omega)
          rw [e] at lp5
          exact .inl ⟨st1 (by omega), acc, us, Y, kk5, hT, hu5, lp5⟩
    · have e : xs.drop i = [] := List.drop_eq_nil_of_le (by omega)
      rw [e] at lp
      exact .inl ⟨st (by omega), q _ T H' lp (k1.trans fun a o n h => kk a o n h) B.ok (free_of k1 o1 nD) ⟨us, hD, hu⟩⟩⟩
end
end DL

namespace DL
open PySem PySem.Spec PyProof.Rows L2 RK
section
variable {X : Cx} {F : Fx} {e : Expr} {d : TDE} {pos p : Pos}
/-! ### dict(d) -/
def dictD : List D → Option D
  | [.dic kds] => some (.dic kds)
  | _ => none
theorem dict_okN : CaN F (fun xs H Q => ∃ (a : Addr) (kvs : List (Key × V)), xs = [.ref a] ∧ Rd H a (.dK kvs) ∧ ∀ p, H p = none → Q (.ref p) (upd H p (.dK kvs))) dictD := fun A b e Q q => by
  rename_i dl z
  match dl, b, e with
  | [.dic kds], .cons h .nil, e =>
    obtain ⟨a, kvs, rfl, h1, h2, h3⟩ := bw_dic h
    cases e
    exact ⟨_, _, rfl, h1, fun t ht => q _ _ (.new ht) (ok_new A.ok ht) ht ⟨kvs, upd_same, h2, new_pres A ht h3⟩⟩
theorem dn_dict (hg : Gl X "dict") (hm : X.mg "dict" = none) (ha : PE X e (lB F d)) (he : starEach [e] X.env = (false, eval e X.env) :: starEach [] X.env := by rfl) (hpl : (backTo pos (starEach [] X.env)).any (·.1) = false := by rfl) (hK : F.K = X.K := by rfl) :
    PE X (.Call (.Name "dict" p) [e] [] pos) (lN F (dCa dictD (aCons d aNil))) := PE.mono (pe_callTy call_dictD hg hm (by decide +kernel) (db_cons ha db_nil he) (by decide) (by decide) he hpl) (lcaN dict_okN)
end
end DL

namespace DL
open PySem PySem.Spec PyProof.Rows L2 RK
section
variable {X : Cx} {F : Fx} {e a b : Expr} {d da db : TDE} {pos p : Pos}
/-! ### isinstance(x, C), x of the own class C -/
theorem bw_obj {L : List Addr} {H : Hp} {v : V} {C : Addr} {fs : List (Str × D)} (h : Bw F L H v (.obj C fs)) : Dd F.K (F.N L) F.W H v (.obj C fs) := by
  rcases h with h | ⟨en, h1, h2, h3⟩
  · exact h
  · cases en <;> cases h3
def dIsO (C : Addr) (d : TDE) : TDE := fun env P => d env fun x => match x with | .obj C' _ => C' = C ∧ P (.bl true) | _ => False
theorem dd_isO {C : Addr} (ic : C8.InsC F.K C) (hg : Gl X "isinstance") (hm : X.mg "isinstance" = none) (ha : PE X a (lB F d)) (hb : PE X b (tC (.ref C))) (he : starEach [a, b] X.env = (false, eval a X.env) :: starEach [b] X.env := by rfl) (he2 : starEach [b] X.env = (false, eval b X.env) :: starEach [] X.env := by rfl) (hpl : (backTo pos (starEach [b] X.env)).any (·.1) = false := by rfl) (hK : F.K = X.K := by rfl) :
    PE X (.Call (.Name "isinstance" p) [a, b] [] pos) (lC F (dIsO C d)) := PE.mono (pe_callB (isiR hK) hg hm (by decide +kernel) (pa_cons ha (pa_cons hb pa_nil he2) he) (by decide) (by decide) he hpl) fun σ H Q ⟨env, L, P, A, pp, q⟩ =>
  ⟨env, L, _, A, pp, fun x v H1 px k1 o1 b1 => by
    cases x with
    | obj C' fs =>
      obtain ⟨rfl, px⟩ := px
      obtain ⟨t, dx, us, rfl, h1, _⟩ := dd_objE (bw_obj b1)
      exact ⟨.ref t, .ref C', _, _, true, rfl, .own _, .base (.ins h1 ic.cl ic.ha ic.hn ic.htk ic.hm), ic.me, q _ _ H1 px k1 o1 (.bl _)⟩
    | _ => exact px.elim⟩
/-! ### == of two dicts of data -/
def rEqDctR (K : PySem.W.Frag) : R2 := fun x y H Q => ∃ (a b : Addr) (ks ls : List (Key × V)) (ds es : List (Key × PyData)), x = .ref a ∧ y = .ref b ∧ Rd H a (.dK ks) ∧ Rd H b (.dK ls) ∧ DatD K H ks ds ∧ DatD K H ls es ∧ Q (.bl (eqvD ds es)) H
theorem op_eqDctR (hu : X.A.units + 65 < cLine) : OpR X (compareOp .Eq) (rEqDctR X.K) := by
  intro pins s σ H x y v u Q I rx ry h
  obtain ⟨a, b, ks, ls, ds, es, rfl, rfl, ha, hb, hd, he, q⟩ := h
  cases rx
  cases ry
  obtain ⟨_, ya, va, ra, da⟩ := dk_rd I.hok ha
  obtain ⟨_, yb, vb, rb, db⟩ := dk_rd I.hok hb
  show wpAny (model X.prog X.w) X.A (richCompare .Eq (.ref a) (.ref b)) (EP X pins σ Q) X.xe s
  refine PySem.W.rcP_dicts (knd := mixKind X.prog X.w) ya yb da db (by omega) (fun _ => hits_of I (A := X.A.in1) (by show X.A.units + 1 + 64 < cLine; omega) rb he hd ra) _ _ ?_
  have e1 : va.length = ds.length := by rw [← ra.length]; exact Paired.length hd
  have e2 : vb.length = es.length := by rw [← rb.length]; exact Paired.length he
  rw [e1, e2]
  exact ⟨.bl _, H, I, rfl, q⟩
def pyKD : List (Key × D) → Option (List (Key × PyData))
  | [] => some []
  | (k, x) :: r => (toPy x).bind fun p => if SeqAt.shaped p = true then (pyKD r).map fun l => (k, p) :: l else none
def bEqDct : B2 := fun x y => match x, y with
  | .dic a, .dic b => (pyKD a).bind fun p => (pyKD b).map fun q => .bl (eqvD p q)
  | _, _ => none
theorem dat_of {K : PySem.W.Frag} {N : Addr → Prop} {W : Wd} {H : Hp} : ∀ {kvs : List (Key × V)} {kds : List (Key × D)} {ds : List (Key × PyData)}, kvs.map (·.1) = kds.map (·.1) → DdAll K N W H (kvs.map (·.2)) (kds.map (·.2)) → pyKD kds = some ds → DatD K H kvs ds
  | [], [], ds, _, _, h => by
    cases h
    exact .nil
  | [], _ :: _, _, e, _, _ => by cases e
  | _ :: _, [], _, e, _, _ => by cases e
  | (k1, v) :: kvs, (k2, x) :: kds, ds, e, dd, h => by
    have e1 : k1 = k2 := (List.cons.inj e).1
    cases dd with
    | cons d1 d2 =>
      obtain ⟨p, hp, h2⟩ := Option.bind_eq_some_iff.mp h
      by_cases hs : SeqAt.shaped p = true
      · rw [if_pos hs] at h2
        obtain ⟨l, hl, rfl⟩ := Option.map_eq_some_iff.mp h2
        exact .cons ⟨e1, d1.py hp, hs⟩ (dat_of (List.cons.inj e).2 d2 hl)
      · rw [if_neg hs] at h2
        cases h2
theorem eqDct_ok : Op2 F (rEqDctR F.K) bEqDct := fun {env σ L H x y dx dy z} A bx byy e Q q => by
  cases dx with
  | dic ka =>
    cases dy with
    | dic kb =>
      obtain ⟨p1, h1, e⟩ := Option.bind_eq_some_iff.mp e
      obtain ⟨p2, h2, rfl⟩ := Option.map_eq_some_iff.mp e
      obtain ⟨a, kvs, rfl, r1, r2, r3⟩ := bw_dic bx
      obtain ⟨b, lvs, rfl, s1, s2, s3⟩ := bw_dic byy
      exact ⟨a, b, kvs, lvs, p1, p2, rfl, rfl, r1, s1, dat_of r2 r3 h1, dat_of s2 s3 h2, q _ _ (.refl _ _) A.ok (.bl _)⟩
    | _ => cases e
  | _ => cases e
theorem eqDctR (hu : X.A.units + 65 < cLine) (hK : F.K = X.K) : OpR X (compareOp .Eq) (rEqDctR F.K) := by rw [hK]; exact op_eqDctR hu
theorem dd_eqDct {k : Nat} (hr : Room (k + 1) X.A) (ha : PE X a (lB F da)) (hb : PE X b (lB F db)) (hK : F.K = X.K := by rfl) : PE X (.Compare a [.Eq] [b] pos) (lC F (dO2 bEqDct da db)) := dd_cmp eqDct_ok (eqDctR (by have := hr.un; omega) hK) ha hb (nomark _)
/-! ### == by an own __eq__ -/
def dEqO (C : Addr) (sp : DSp) (da db : TDE) : TDE := fun env P => da env fun x => db env fun y => match x, y with
  | .obj C1 fs, .obj C2 gs => C1 = C ∧ C2 = C ∧ sp [.obj C1 fs, .obj C2 gs] fun v => ∃ b, v = .bl b ∧ P (.bl b)
  | _, _ => False
theorem dd_eqO {CX : CXT} {n : Nat} {C f : Addr} {fd : FuncData} {ps : List Str} {sp : DSp} {fr : Bool} {E : XK} (Fn : FnOk X.prog X.w X.K X.mg X.base CX n f fd ps (lSp X.K fr sp)) (hr : Room n X.A)
    (hs : PySem.W.findIn X.K (.ref C) "__eq__" = some (some (.ref f))) (hf : PySem.W.isFn X.K (.ref f) = true) (hbd : Binds X.K fd ps []) (hx : Passes CX X E) (ha : PE X a (lB F da)) (hb : PE X b (lB F db)) (hK : F.K = X.K := by rfl) :
    PE X (.Compare a [.Eq] [b] pos) (lC F (dEqO C sp da db)) := PE.mono (pe_cmpR (op_eqOwn Fn hr hs hf hbd hx) ha hb (nomark _)) fun σ H Q ⟨env, L, P, A, pp, q⟩ =>
  ⟨env, L, _, A, pp, fun x v H1 px k1 o1 b1 => ⟨env, L, _, A.step k1 o1, px, fun y u H2 py k2 o2 b2 => by
    cases x with
    | obj C1 fs =>
      cases y with
      | obj C2 gs =>
        obtain ⟨rfl, rfl, py⟩ := py
        have A1 := A.step k1 o1
        have d1 := A1.kd k2 (bw_obj b1)
        have d2 := bw_obj b2
        obtain ⟨t, dx, us, rfl, h1, _⟩ := dd_objE d1
        obtain ⟨t2, dx2, us2, rfl, h2, _⟩ := dd_objE d2
        rw [← hK]
        exact ⟨t, dx, us, rfl, h1, .ins h2, F.W, F.N L, _, _, fun a h => (A1.step k2 o2).alN h, fun a h => .inl (A.wn a h), o2, .cons d1 (.cons d2 .nil), py, fun x v H3 p3 k3 o3 d3 _ => by
          obtain ⟨b, rfl, pb⟩ := p3
          cases d3
          exact ⟨b, rfl, q _ _ H3 pb ((k1.trans k2).trans k3) o3 (.bl _)⟩⟩
      | _ => exact py.elim
    | _ => exact py.elim⟩⟩
end
end DL

namespace DL
open PySem PySem.Spec PyProof.Rows L2 RK
section
variable {X : Cx} {F : Fx} {a b : Expr} {da db : TDE} {pos : Pos}
/-! ### == by an own __eq__, as a test -/
theorem l_eqO {C : Addr} {sp : DSp} {fr : Bool} {E : XK} (hK : F.K = X.K) : ∀ σ H Q, lC F (dEqO C sp da db) σ H Q → tOp (rEqOwn C (lSp X.K fr sp) X.K E) (lB F da) (lB F db) σ H Q := fun σ H Q ⟨env, L, P, A, pp, q⟩ =>
  ⟨env, L, _, A, pp, fun x v H1 px k1 o1 b1 => ⟨env, L, _, A.step k1 o1, px, fun y u H2 py k2 o2 b2 => by
    cases x with
    | obj C1 fs =>
      cases y with
      | obj C2 gs =>
        obtain ⟨rfl, rfl, py⟩ := py
        have A1 := A.step k1 o1
        have d1 := A1.kd k2 (bw_obj b1)
        have d2 := bw_obj b2
        obtain ⟨t, dx, us, rfl, h1, _⟩ := dd_objE d1
        obtain ⟨t2, dx2, us2, rfl, h2, _⟩ := dd_objE d2
        rw [← hK]
        exact ⟨t, dx, us, rfl, h1, .ins h2, F.W, F.N L, _, _, fun a h => (A1.step k2 o2).alN h, fun a h => .inl (A.wn a h), o2, .cons d1 (.cons d2 .nil), py, fun x v H3 p3 k3 o3 d3 _ => by
          obtain ⟨b, rfl, pb⟩ := p3
          cases d3
          exact ⟨b, rfl, q _ _ H3 pb ((k1.trans k2).trans k3) o3 (.bl _)⟩⟩
      | _ => exact py.elim
    | _ => exact py.elim⟩⟩
theorem dt_eqO {CX : CXT} {n : Nat} {C f : Addr} {fd : FuncData} {ps : List Str} {sp : DSp} {fr : Bool} {E : XK} (Fn : FnOk X.prog X.w X.K X.mg X.base CX n f fd ps (lSp X.K fr sp)) (hr : Room n X.A)
    (hs : PySem.W.findIn X.K (.ref C) "__eq__" = some (some (.ref f))) (hf : PySem.W.isFn X.K (.ref f) = true) (hbd : Binds X.K fd ps []) (hx : Passes CX X E) (ha : PE X a (lB F da)) (hb : PE X b (lB F db)) (hK : F.K = X.K := by rfl) :
    PT X (.Compare a [.Eq] [b] pos) (lT F (dT (dEqO C sp da db))) := PT.mono (pt_cmpR (op_eqOwn Fn hr hs hf hbd hx) ha hb (nomark _)) fun σ H Q ⟨env, L, P, A, p, q⟩ => l_eqO hK σ H _ ⟨env, L, _, A, p, fun x v H1 px k1 o1 d1 => by
    cases x with
    | bl b => cases d1; exact ⟨b, rfl, q b H1 px k1 o1⟩
    | _ => exact px.elim⟩
end
end DL

namespace RK
open PySem PySem.Spec PyProof.Rows L2
/-- a def's promise at one place: like FnOk, but A is known -/
def FnAt (P : Program) (w : World) (K : PySem.W.Frag) (mg : Str → Option Value) (base : Heap) (CX : CXT) (A : Around) (f : Addr) (fd : FuncData) (ps : List Str) (sp : Sp) : Prop :=
  ∀ (outer : List Env) (s : Shared) (H : Hp) (args : Args) (us : List Value) (vs : List V) (Q : VK) (E : XK), Env0 P w K mg base A outer s H → BindsTo s fd args (ps.zip us) → Vals vs us → sp vs H Q E → codeAny (model P w) A (.call (.ref f) args) (CR CX outer P w H s Q E) s
variable {P : Program} {w : World} {K : PySem.W.Frag} {mg : Str → Option Value} {base : Heap}
theorem fn_at {CX : CXT} {k : Nat} {f : Addr} {name qual : Str} {params : Arguments} {body : List Stmt} {scope : Scope} {dV kV doc pm cdv ct oc : Value} {an od : Option Addr} {osl : Array (Option Value)} {N ps : List Str} {sp : Sp} {A : Around} (hr : Room (k + 1) A)
    (lk : K.lookup f = some ⟨oc, od, .func (PySem.W.fnOf name qual params body scope dV kV doc pm an cdv ct), osl⟩) (hcd : PySem.W.codeIn K cdv qual = true) (S : FnScope N ps scope) (len : ∀ vs H Q E, sp vs H Q E → vs.length = ps.length)
    (hbody : ∀ (outer : List Env) (s : Shared) (H : Hp) (vs : List V) (Q : VK) (E : XK), sp vs H Q E → ∃ t, PSs (cxOf CX P w K mg base N qual scope f cdv A outer s H E) body t ∧ t { nx := fun _ H' => Q .non H', rt := Q } (start N vs) H) :
    FnAt P w K mg base CX A f (PySem.W.fnOf name qual params body scope dV kV doc pm an cdv ct) ps sp := by
  intro outer s H args us vs Q E e0 hb rv hsp
  have KX : K.In s.heap := e0.mod.kin.keeps fun b o e => (e0.bs b o e).1
  have nl : s.heap.NoLimit := e0.mod.nolimit.keeps fun b o e => (e0.bs b o e).1
  have kinds : ∀ y ∈ ps.zip us, scope.names.lookup y.1 = some .local ∨ (scope.names.lookup y.1 = some .cell ∧ ((cellsFrom (s.heap.objs.size + 1) scope.names []).lookup y.1).isSome = true) := by
    rintro ⟨n, v⟩ hy
    exact (S.par n (List.of_mem_zip hy).1).imp id fun q => ⟨q, PySem.W.cellsFrom_some _ _ _ (.inl q)⟩
  refine codeAny_call_function hr.depth (KX _ _ lk) rfl S.co S.gen rfl (PySem.W.codeRec_of KX hcd) (hb _ _ _ _ (wpAny_newFunctionEnv_cells S.kind kinds fun env he s1 x => ?_))
  cases he
  obtain ⟨t, ht, hq⟩ := hbody outer s H vs Q E hsp
  refine ⟨nl.keeps x.toInCall.keep, codeAny_func (wpAny_mono (ht.run [] s1 (start N vs) H _ (inv_start S hr.hd e0 (len _ _ _ _ hsp) rv x) hq) (fun fl s' hs => ?_) fun e s' hs => hs)⟩
  cases fl with
  | ret u => exact (let ⟨v, _, H', J, rv, q⟩ := hs; ⟨v, H', J.os, J.bare, J.base, J.hok, rv, q⟩)
  | next => exact (let ⟨_, H', J, q⟩ := hs; ⟨V.non, H', J.os, J.bare, J.base, J.hok, rfl, q⟩)
  | brk => exact (let ⟨_, _, _, q⟩ := hs; False.elim q)
  | cont => exact (let ⟨_, _, _, q⟩ := hs; False.elim q)
/-- the law's call, from its promise at the caller's place -/
theorem law_core {mb : Str → Option Value} {CX : CXT} {fa a : Addr} {fd : FuncData} {x : Str} {sp : Sp} {s1 : Shared} {vs : List Value} {H : Hp}
    (KX : K.In s1.heap) (hns : s1.heap.Ns mainGlobals mg) (hb : s1.heap.Ns builtinsNs mb) (hbb : ∀ x : Str, x ≠ "__name__" → mb x = bootBuiltins x) (hlim : s1.heap.NoLimit) (hg : s1.gens = #[])
    (ha : s1.heap.get? a = some { cls := .type "list", data := .seq vs.toArray }) (F : ∀ bs : Heap, K.In bs → bs.Ns mainGlobals mg → FnAt P w K mg bs CX callerA fa fd [x] sp) (hbind : ∀ (s : Shared) (u : Value), BindsTo s fd ⟨[u], []⟩ [(x, u)])
    (hCX : ∀ H e s', CX [] H s1 (fun _ _ _ => False) e s' → False) (hO : Only H) (hsp : sp [.ref a] H (fun v _ => v = .bl true) fun _ _ _ => False) (hok : HOk P w H s1.heap) (one : ∀ b, H b ≠ none → b = a ∧ K.lookup a = none) :
    codeAny (model P w) callerA (.call (.ref fa) ⟨[.ref a], []⟩) (fun r s' => r = .ok (.ret (.bool true)) ∧ OldK s1.heap s'.heap ∧ s'.os = s1.os ∧ AllBare s'.gens) s1 := by
  have hid : ∀ {b : Addr} {o : Obj}, s1.heap.get? b = some o → (b ≠ a ∨ K.lookup a ≠ none) → (hidT s1.heap H).get? b = some o := fun {b o} e h => hidT_get e (Classical.byContradiction fun z => h.elim (fun n => n (one b z).1) fun n => n (one b z).2)
  have ns : ∀ {b : Addr} {m : Str → Option Value}, s1.heap.Ns b m → (hidT s1.heap H).Ns b m := fun {b m} ⟨o, es, ep, e, d, r⟩ => ⟨o, es, ep, hid e (.inl fun z => by
    rw [z, ha] at e
    cases e
    cases d), d, r⟩
  have kin : K.In (hidT s1.heap H) := fun b o e => hid (KX b o e) (by
    rcases Classical.em (b = a) with z | z
    · exact .inr (by rw [← z, e]; simp)
    · exact .inl z)
  have md : Mod K mg (hidT s1.heap H) := ⟨kin, ns hns, ⟨mb, ns hb, hbb⟩, (let ⟨mc, h1, h2⟩ := hlim; ⟨mc, ns h1, h2⟩)⟩
  have env : Env0 P w K mg (hidT s1.heap H) callerA [] s1 H := { frames := rfl, mod := md, bs := fun b o e => of_hidT e, bsz := Nat.le_of_eq (hidT_size _ _), funs := trivial, frf := fun b hb => (by cases hb), hok := hok, bare := .of_eq hg }
  refine codeAny_mono (F _ kin (ns hns) [] s1 H ⟨[.ref a], []⟩ [.ref a] [.ref a] _ _ env (hbind s1 (.ref a)) (.cons rfl .nil) hsp) fun r s' h => ?_
  match r, h with
  | .error e, h => exact (hCX H e s' h).elim
  | .ok (.ret u), ⟨v, H', os, bare, un, hok', rv, q⟩ =>
    cases (show v = .bl true from q)
    cases (show u = Value.bool true from rv)
    refine ⟨rfl, OldK.of_keep fun b o e => ?_, os, bare⟩
    rcases hO b with z | ⟨ob, xs, z⟩
    · exact un.keep b o e z (fun y => (by cases y)) (by simp)
    · have e1 := (hok b _ z).1
      have e2 := (hok' b _ (un.frzs b ob _ z)).1
      rw [e] at e1
      cases e1
      exact e2
  | .ok .next, h => exact False.elim h
  | .ok .brk, h => exact False.elim h
  | .ok .cont, h => exact False.elim h
theorem law_at {mb : Str → Option Value} {CX : CXT} {fa a : Addr} {fd : FuncData} {x : Str} {sp : Sp} {s1 : Shared} {vs : List Value} {ns : List Int}
    (KX : K.In s1.heap) (hns : s1.heap.Ns mainGlobals mg) (hb : s1.heap.Ns builtinsNs mb) (hbb : ∀ x : Str, x ≠ "__name__" → mb x = bootBuiltins x) (hlim : s1.heap.NoLimit) (hg : s1.gens = #[])
    (ha : s1.heap.get? a = some { cls := .type "list", data := .seq vs.toArray }) (hi : IntsAre vs ns) (hl : ns.length ≤ sizeLine) (F : ∀ bs : Heap, K.In bs → bs.Ns mainGlobals mg → FnAt P w K mg bs CX callerA fa fd [x] sp) (hbind : ∀ (s : Shared) (u : Value), BindsTo s fd ⟨[u], []⟩ [(x, u)])
    (hsp : ∀ H : Hp, Only H → SqL K H a (ns.map V.int) → sp [.ref a] H (fun v _ => v = .bl true) fun _ _ _ => False) (hCX : ∀ H e s', CX [] H s1 (fun _ _ _ => False) e s' → False) :
    codeAny (model P w) callerA (.call (.ref fa) ⟨[.ref a], []⟩) (fun r s' => r = .ok (.ret (.bool true)) ∧ OldK s1.heap s'.heap ∧ s'.os = s1.os ∧ AllBare s'.gens) s1 := by
  have rv := vals_ints hi
  have lv := hi.length
  cases hk : K.lookup a with
  | some o =>
    have e := KX a o hk
    rw [ha] at e
    cases e
    have hO : Only (fun _ => none) := fun _ => .inl rfl
    refine law_core KX hns hb hbb hlim hg ha F hbind hCX hO (hsp _ hO (.inr ⟨_, vs.toArray, _, hk, rfl, rfl, rfl, ?_, ?_⟩)) (fun b u z => by cases z) (fun b z => (z rfl).elim)
    · rw [List.size_toArray, lv]
      exact hl
    · rw [List.toList_toArray]
      exact rv
  | none =>
    let ob : Obj := { cls := .type "list", data := .seq vs.toArray }
    let H : Hp := fun b => if b = a then some (.frz ob (.lst (ns.map V.int))) else none
    have hH : ∀ b, H b = none ∨ (b = a ∧ H b = some (.frz ob (.lst (ns.map V.int)))) := fun b => by
      by_cases h : b = a
      · exact .inr ⟨h, if_pos h⟩
      · exact .inl (if_neg h)
    have hO : Only H := fun b => (hH b).imp id fun h => ⟨_, _, h.2⟩
    refine law_core KX hns hb hbb hlim hg ha F hbind hCX hO (hsp H hO (.inl (.inr ⟨ob, if_pos rfl⟩))) (fun b u z => ?_) (fun b z => ?_)
    · rcases hH b with h | ⟨e, h⟩
      · rw [h] at z
        cases z
      · rw [h] at z
        cases z
        subst e
        exact ⟨ha, by rw [List.length_map]; exact hl, vs, _, rv, ha⟩
    · rcases hH b with h | ⟨e, _⟩
      · exact (z h).elim
      · exact ⟨e, hk⟩
/-- the walk, from the law's promise at the caller's place -/
theorem walk_at {l : PySem.W.OpenLaw} {n : Nat} {q : Program} {loose : List Str} {XP : (Str → Option Value) → Heap → Prop} {YP : World → Heap → Prop} {d : DefRec} {K : Params → PySem.W.Frag} {CX : World → CXT} {sp : World → Sp} {x : Str}
    (hn : l.most = some n) (hn2 : n ≤ sizeLine) (hdf : d.params.defaults = []) (hY : ∀ (w : World) (h : Heap), YP w h → (K w.params).In h)
    (F : ∀ (w : World) (mg : Str → Option Value) (fa : Addr) (h : Heap), (K w.params).In h → h.Ns mainGlobals mg → mg d.name = some (.ref fa) → ∃ fd : FuncData, (∀ (s : Shared) (u : Value), BindsTo s fd ⟨[u], []⟩ [(x, u)]) ∧ ∀ bs : Heap, (K w.params).In bs → bs.Ns mainGlobals mg → FnAt l.prog w (K w.params) mg bs (CX w) callerA fa fd [x] (sp w))
    (hsp : ∀ (w : World) (H : Hp) (a : Addr) (ns : List Int), ns.length ≤ n → Only H → SqL (K w.params) H a (ns.map V.int) → sp w [.ref a] H (fun v _ => v = .bl true) fun _ _ _ => False)
    (hCX : ∀ (w : World) (H : Hp) (s : Shared) (e : Value) (s' : Shared), CX w [] H s (fun _ _ _ => False) e s' → False) :
    PySem.W.WalkO q loose XP YP l.row.toRowW d [] (fun f vs => PySem.call f vs) :=
  Att.attach_call hn hdf fun w s0 s1 mg mb fa o pm cd doc a vs ns G Y ho hd hcd hmg hobj hints hlen hg => by
    obtain ⟨fd, hb, hF⟩ := F w mg fa _ (hY w _ Y) G.T.g hmg
    exact law_at (hY w _ Y) G.T.g G.T.b G.T.builtins G.T.nolimit hg hobj hints (Nat.le_trans hlen hn2) hF hb (fun H hO hS => hsp w H a ns hlen hO hS) fun H e s' => hCX w H s1 e s'
end RK

namespace DL
open PySem PySem.Spec PyProof.Rows L2 RK
section
variable {X : Cx} {F : Fx} {e : Expr} {d : TDE} {pos p : Pos}
/-! ### repr(xs), xs a list of data; where no repr is under way -/
def rRepr (K : PySem.W.Frag) : List V → Hp → VK → Prop := fun xs H Q => ∃ (a : Addr) (q : PyData), xs = [.ref a] ∧ Dp K H (.ref a) q ∧ q.showable = true ∧ q.hasDict = false ∧ q.depth ≤ 60 ∧ q.shown.length ≤ sizeLine ∧ Q (.str q.shown) H
theorem call_repr (hg : X.A.guards = some []) (hu : X.A.units + 64 < cLine) : CallR X (.builtin "repr") (rRepr X.K) := by
  intro pins s σ H xs us Q I r h
  obtain ⟨a, q, rfl, hd, h1, h2, h3, h4, hq⟩ := h
  obtain ⟨u, rfl, rx⟩ := vals1 r
  cases rx
  obtain ⟨as, rd⟩ := Dp.reads I q _ _ hd (show RelV (.ref a) (.ref a) from rfl)
  exact repr_of_reads' rd h1 (PyData.noDict_hsm h2) hg (by omega) (fun _ _ e => e) (fun h' u tk hk => ⟨.str q.shown, H, I.kept hk, ⟨_, rfl⟩, hq⟩) h4
def dRepr (d : TDE) : TDE := fun env P => d env fun x => match x with
  | .lst xs => ob (toPy (.lst xs)) fun q => q.showable = true ∧ q.hasDict = false ∧ q.depth ≤ 60 ∧ q.shown.length ≤ sizeLine ∧ P (.str q.shown)
  | _ => False
theorem reprR (hg : X.A.guards = some []) (hu : X.A.units + 64 < cLine) (hK : F.K = X.K) : CallR X (.builtin "repr") (rRepr F.K) := by
  rw [hK]
  exact call_repr hg hu
theorem dd_repr {k : Nat} (hgd : X.A.guards = some []) (hr : Room k X.A) (hg : Gl X "repr") (hm : X.mg "repr" = none) (ha : PE X e (lB F d)) (he : starEach [e] X.env = (false, eval e X.env) :: starEach [] X.env := by rfl) (hpl : (backTo pos (starEach [] X.env)).any (·.1) = false := by rfl) (hK : F.K = X.K := by rfl) :
    PE X (.Call (.Name "repr" p) [e] [] pos) (lC F (dRepr d)) := PE.mono (pe_callB (reprR hgd hr.units hK) hg hm (by decide +kernel) (pa_cons ha pa_nil he) (by decide) (by decide) he hpl) fun σ H Q ⟨env, L, P, A, pp, q⟩ =>
  ⟨env, L, _, A, pp, fun x v H1 px k1 o1 b1 => by
    cases x with
    | lst xs =>
      obtain ⟨z, e, h1, h2, h3, h4, px⟩ := ob_elim px
      obtain ⟨a, vs, rfl, g1, g2⟩ := bw_lst b1
      exact ⟨a, z, rfl, bw_py b1 e, h1, h2, h3, h4, q _ _ H1 px k1 o1 (.str _)⟩
    | _ => exact px.elim⟩
end
/-- a def's promise at the caller's place, from its body -/
theorem fun_at {P : Program} {w : World} {K : PySem.W.Frag} {mg : Str → Option Value} {base : Heap} {x qual : Str} {st : Stmt} {f : Addr} {fd : FuncData} {N ps : List Str} {k : Nat} {sp : Sp} {A : Around} (F : Fun K x qual st f fd) (S : FnScope N ps (defScope st)) (hr : Room (k + 1) A) (len : ∀ vs H Q E, sp vs H Q E → vs.length = ps.length)
    (hbody : ∀ (cdv : Value) (outer : List Env) (s : Shared) (H : Hp) (vs : List V) (Q : VK) (E : XK), Room k (A.deeper (envOfC qual (defScope st) s.heap.objs.size f cdv)) → sp vs H Q E → ∃ t, PSs (cxOf CX0 P w K mg base N qual (defScope st) f cdv A outer s H E).nox (defBody st) t ∧ t { nx := fun _ H' => Q .non H', rt := Q } (start N vs) H) : FnAt P w K mg base CX0 A f fd ps sp := by
  obtain ⟨oc, od, kV, doc, pm, an, cdv, ct, osl, rfl, lk, hcd⟩ := F.ex
  refine fn_at hr lk hcd S len fun outer s H vs Q E hsp => ?_
  obtain ⟨t, h, q⟩ := hbody cdv outer s H vs Q E (hr.deeper _) hsp
  exact ⟨t, h.nox, q⟩
end DL

namespace RK
open PySem PySem.Calls PyProof.Rows PyProof.V PySem.Spec PySem.W
section
variable {prog : Program} {w : World} {K : Type} [DecidableEq K] {knd : KeyKind prog w K} {A : Around} {E : Value → Shared → Prop} {s : Shared}
/-- != of two dicts -/
theorem ne_dicts {a b : Addr} {ka kb : List (K × Value)} {r : Bool} (ha : (a == sysModules) = false) (hb : (b == sysModules) = false)
    (da : s.heap.DictOf knd a ka) (db : s.heap.DictOf knd b kb) (hu : A.units < cLine) (hits : ka.length = kb.length → KeqHitsP prog w A.in1 s kb ka r) (E Q : Value → Shared → Prop) (h : Q (.bool (!(ka.length == kb.length && r))) s) : wpAny (model prog w) A (richCompare .NotEq (.ref a) (.ref b)) Q E s := by
  refine wpAny_richCompare_same_room (op := .NotEq) da.typeIs db.typeIs PySem.F.slot_dict_ne (wpAny_call_entry PySem.F.slot_dict_ne da.typeIs PySem.F.entry_dict_ne ?_ (PySem.F.args_dict_ne_2 _ _)) hu
  show wpAny _ _ (Builtin.Dict.dictSlotArgs "__ne__" ⟨[.ref a, .ref b], []⟩ >>= _) _ _ s
  refine wpAny_bind ?_
  unfold Builtin.Dict.dictSlotArgs
  refine wpAny_bind (wpAny_notOrdered_dict da.typeIs ?_)
  show wpAny _ _ (pure (Value.ref a, Value.ref b)) _ _ s
  refine wpAny_pure ?_
  refine wpAny_bind (wpAny_isInstance (T := "dict") db.typeIs PySem.F.sub_dict_dict ?_)
  simp only [Bool.not_true, Bool.false_eq_true, if_false]
  refine wpAny_bind (wpAny_pure (wpAny_bind (wpAny_pure ?_)))
  refine wpAny_bind (samePairsP ha hb da db hits ?_)
  refine wpAny_pure ⟨_, rfl, ?_, ?_⟩
  · exact fun x => nomatch x
  · simpa using h
end
end RK
namespace DL
open PySem PySem.Spec PyProof.Rows L2 RK
section
variable {X : Cx} {F : Fx} {e a b : Expr} {d da db : TDE} {pos p : Pos}
def rNeDctR (K : PySem.W.Frag) : R2 := fun x y H Q => ∃ (a b : Addr) (ks ls : List (Key × V)) (ds es : List (Key × PyData)), x = .ref a ∧ y = .ref b ∧ Rd H a (.dK ks) ∧ Rd H b (.dK ls) ∧ DatD K H ks ds ∧ DatD K H ls es ∧ Q (.bl (!eqvD ds es)) H
theorem op_neDctR (hu : X.A.units + 65 < cLine) : OpR X (compareOp .NotEq) (rNeDctR X.K) := by
  intro pins s σ H x y v u Q I rx ry h
  obtain ⟨a, b, ks, ls, ds, es, rfl, rfl, ha, hb, hd, he, q⟩ := h
  cases rx
  cases ry
  obtain ⟨_, ya, va, ra, da⟩ := dk_rd I.hok ha
  obtain ⟨_, yb, vb, rb, db⟩ := dk_rd I.hok hb
  show wpAny (model X.prog X.w) X.A (richCompare .NotEq (.ref a) (.ref b)) (EP X pins σ Q) X.xe s
  refine ne_dicts (knd := mixKind X.prog X.w) ya yb da db (by omega) (fun _ => hits_of I (A := X.A.in1) (by show X.A.units + 1 + 64 < cLine; omega) rb he hd ra) _ _ ?_
  have e1 : va.length = ds.length := by rw [← ra.length]; exact Paired.length hd
  have e2 : vb.length = es.length := by rw [← rb.length]; exact Paired.length he
  rw [e1, e2]
  exact ⟨.bl _, H, I, rfl, q⟩
def bNeDct : B2 := fun x y => match x, y with
  | .dic a, .dic b => (pyKD a).bind fun p => (pyKD b).map fun q => .bl (!eqvD p q)
  | _, _ => none
theorem neDct_ok : Op2 F (rNeDctR F.K) bNeDct := fun {env σ L H x y dx dy z} A bx byy e Q q => by
  cases dx with
  | dic ka =>
    cases dy with
    | dic kb =>
      obtain ⟨p, hp, e2⟩ := Option.bind_eq_some_iff.mp e
      obtain ⟨r, hr, rfl⟩ := Option.map_eq_some_iff.mp e2
      obtain ⟨a, ks, rfl, h1, h2, h3⟩ := bw_dic bx
      obtain ⟨b, ls, rfl, g1, g2, g3⟩ := bw_dic byy
      exact ⟨a, b, ks, ls, p, r, rfl, rfl, h1, g1, dat_of h2 h3 hp, dat_of g2 g3 hr, q _ _ (.refl _ _) A.ok (.bl _)⟩
    | _ => cases e
  | _ => cases e
theorem neDctR (hu : X.A.units + 65 < cLine) (hK : F.K = X.K) : OpR X (compareOp .NotEq) (rNeDctR F.K) := by rw [hK]; exact op_neDctR hu
theorem dd_neDct {k : Nat} (hr : Room (k + 1) X.A) (ha : PE X a (lB F da)) (hb : PE X b (lB F db)) (hK : F.K = X.K := by rfl) : PE X (.Compare a [.NotEq] [b] pos) (lC F (dO2 bNeDct da db)) := dd_cmp neDct_ok (neDctR (by have := hr.un; omega) hK) ha hb (nomark _)
theorem dt_neDct {k : Nat} (hr : Room (k + 1) X.A) (ha : PE X a (lB F da)) (hb : PE X b (lB F db)) (hK : F.K = X.K := by rfl) : PT X (.Compare a [.NotEq] [b] pos) (lT F (dT (dO2 bNeDct da db))) := dt_cmp neDct_ok (neDctR (by have := hr.un; omega) hK) ha hb (nomark _)
theorem dt_eqDct {k : Nat} (hr : Room (k + 1) X.A) (ha : PE X a (lB F da)) (hb : PE X b (lB F db)) (hK : F.K = X.K := by rfl) : PT X (.Compare a [.Eq] [b] pos) (lT F (dT (dO2 bEqDct da db))) := dt_cmp eqDct_ok (eqDctR (by have := hr.un; omega) hK) ha hb (nomark _)
end
end DL

/-! zip of two lists or of two tuples where each pair gets a name: the zip is told as one state, which a draw, a note or a write moves -/
namespace RK
open PySem PySem.Spec PyProof.Rows L2
open PySem.Sem (wp)
/-- what a zip notes of the pair it handed out last: nothing, or its number -/
inductive Out : Value → Prop
  | no : Out .none
  | num (T : Addr) : Out (rawInt T)
/-- its record -/
abbrev ZR (h : Heap) (z : Addr) (o f : Value) (p q : Addr) : Prop :=
  h.get? z = some { cls := .type "zip", dict := none, data := .fields #[o, f, .bool false, .ref p, .ref q], slots := #[] }
theorem lives {prog : Program} {w : World} {A : Around} {E : Value → Shared → Prop} {s : Shared} {t : Addr} {Q : Option Obj → Shared → Prop} (h : Q (s.heap.get? t) s) : wpAny (model prog w) A (loadIfAlive t) Q E s := fun _ _ _ => h
/-- an end is noted in the record -/
theorem raised {prog : Program} {w : World} {A : Around} {E : Value → Shared → Prop} {s : Shared} {z e p q : Addr} {o f : Value} {Q : Unit → Shared → Prop} (r : ZR s.heap z o f p q) (x : ∃ u, s.heap.get? e = some u ∧ u.cls = .type "StopIteration")
    (k : ∀ h', Heap.SameBut z s.heap h' → (∃ u, h'.get? e = some u ∧ u.cls = .type "StopIteration") → Q () { s with heap := h' }) : wpAny (model prog w) A (setField (.ref z) 0 .none) Q E s :=
  wpAny_setField_rec r (by simp) fun h' _ k1 => k h' k1 (by
    obtain ⟨u, e1, e2⟩ := x
    refine ⟨u, k1.extBut _ _ (fun y => ?_) e1, e2⟩
    subst y
    rw [r] at e1
    cases e1
    exact absurd (show Value.type "zip" = .type "StopIteration" from e2) (by decide))
section
variable {prog : Program} {w : World} {A : Around} {E : Value → Shared → Prop} {z TI TO i1 i2 : Addr} {fp1 fp2 : List Addr} {n1 n2 : Nat} {P1 P2 : Nat → Value → Prop} {St1 St2 : Nat → Heap → Prop}
/-- the zip at h: m objects, and since h0 nothing moved but its cells -/
structure Zs (z TI TO i1 i2 : Addr) (St1 St2 : Nat → Heap → Prop) (h0 : Heap) (m : Nat) (o : Value) (f : Bool) (j1 j2 : Nat) (a b : Value) (h : Heap) : Prop where
  rcd : ZR h z o (.bool f) TI TO
  ins : IsPair h TI (.ref i1) (.ref i2)
  out : IsPair h TO a b
  s1 : St1 j1 h
  s2 : St2 j2 h
  num : h.objs.size = m
  rest : ∀ c u, c ≠ z → c ≠ TO → c ≠ i1 → c ≠ i2 → h0.get? c = some u → h.get? c = some u
variable (S : ZipSep2 z TI TO i1 i2 fp1 fp2) (D1 : Draws prog w A i1 fp1 n1 P1 St1) (D2 : Draws prog w A i2 fp2 n2 P2 St2)
variable {h0 h h' : Heap} {m : Nat} {o o' : Value} {f f' : Bool} {j1 j2 : Nat} {a b a' b' : Value}
include S D1 D2
theorem Zs.note (q : Zs z TI TO i1 i2 St1 St2 h0 m o f j1 j2 a b h) (k : Heap.SameBut z h h') (r : ZR h' z o' (.bool f') TI TO) : Zs z TI TO i1 i2 St1 St2 h0 m o' f' j1 j2 a b h' :=
  ⟨r, k.extBut _ _ S.TIz q.ins, k.extBut _ _ S.TOz q.out, D1.over q.s1 k S.zf1, D2.over q.s2 k S.zf2, k.1.trans q.num, fun c u e1 e2 e3 e4 x => k.extBut _ _ e1 (q.rest c u e1 e2 e3 e4 x)⟩
theorem Zs.write (q : Zs z TI TO i1 i2 St1 St2 h0 m o f j1 j2 a b h) (k : Heap.SameBut TO h h') (r : IsPair h' TO a' b') : Zs z TI TO i1 i2 St1 St2 h0 m o f j1 j2 a' b' h' :=
  ⟨k.extBut _ _ S.TOz.symm q.rcd, k.extBut _ _ S.TITO q.ins, r, D1.over q.s1 k S.Tf1, D2.over q.s2 k S.Tf2, k.1.trans q.num, fun c u e1 e2 e3 e4 x => k.extBut _ _ e2 (q.rest c u e1 e2 e3 e4 x)⟩
theorem Zs.one (q : Zs z TI TO i1 i2 St1 St2 h0 m o f j1 j2 a b h) (k : Heap.SameBut i1 h h') (r : St1 (j1 + 1) h') : Zs z TI TO i1 i2 St1 St2 h0 m o f (j1 + 1) j2 a b h' :=
  ⟨k.extBut _ _ S.zi1 q.rcd, k.extBut _ _ S.TIi1 q.ins, k.extBut _ _ S.Ti1 q.out, r, D2.over q.s2 k S.sep1_2, k.1.trans q.num, fun c u e1 e2 e3 e4 x => k.extBut _ _ e3 (q.rest c u e1 e2 e3 e4 x)⟩
theorem Zs.two (q : Zs z TI TO i1 i2 St1 St2 h0 m o f j1 j2 a b h) (k : Heap.SameBut i2 h h') (r : St2 (j2 + 1) h') : Zs z TI TO i1 i2 St1 St2 h0 m o f j1 (j2 + 1) a b h' :=
  ⟨k.extBut _ _ S.zi2 q.rcd, k.extBut _ _ S.TIi2 q.ins, k.extBut _ _ S.Ti2 q.out, D1.over q.s1 k S.sep2_1, r, k.1.trans q.num, fun c u e1 e2 e3 e4 x => k.extBut _ _ e4 (q.rest c u e1 e2 e3 e4 x)⟩
theorem Zs.more (q : Zs z TI TO i1 i2 St1 St2 h0 m o f j1 j2 a b h) (t : Obj) : Zs z TI TO i1 i2 St1 St2 h0 (m + 1) o f j1 j2 a b (h.push t) := by
  have up : ∀ c u, h.get? c = some u → (h.push t).get? c = some u := fun c u e => Heap.get?_push_of_some _ e
  exact ⟨up _ _ q.rcd, up _ _ q.ins, up _ _ q.out, D1.frame _ _ _ q.s1 fun c _ u e => up c u e, D2.frame _ _ _ q.s2 fun c _ u e => up c u e, by rw [Heap.size_push, q.num], fun c u e1 e2 e3 e4 x => up c u (q.rest c u e1 e2 e3 e4 x)⟩
/-- a draw from the first -/
theorem Zs.draw1 {s : Shared} {Q : Value → Shared → Prop} (q : Zs z TI TO i1 i2 St1 St2 h0 m o f j1 j2 a b s.heap) (l : j1 < n1)
    (k : ∀ x h' t, P1 j1 x → Zs z TI TO i1 i2 St1 St2 h0 m o f (j1 + 1) j2 a b h' → Q x { s with heap := h', toks := t }) : wpAny (model prog w) A (Builtin.SmallTypes.nextOf (.ref i1)) Q E s :=
  D1.item j1 s Q E l q.s1 fun x h' t p st sb => k x h' t p (q.one S D1 D2 sb st)
theorem Zs.draw2 {s : Shared} {Q : Value → Shared → Prop} (q : Zs z TI TO i1 i2 St1 St2 h0 m o f j1 j2 a b s.heap) (l : j2 < n2)
    (k : ∀ x h' t, P2 j2 x → Zs z TI TO i1 i2 St1 St2 h0 m o f j1 (j2 + 1) a b h' → Q x { s with heap := h', toks := t }) : wpAny (model prog w) A (Builtin.SmallTypes.nextOf (.ref i2)) Q E s :=
  D2.item j2 s Q E l q.s2 fun x h' t p st sb => k x h' t p (q.two S D1 D2 sb st)
/-- whether the pair is free: no one can tell, and only the record may change -/
theorem Zs.ask {s : Shared} {Q : Bool → Shared → Prop} (q : Zs z TI TO i1 i2 St1 St2 h0 m o f j1 j2 a b s.heap) (ho : Out o)
    (k : ∀ y h' f', Zs z TI TO i1 i2 St1 St2 h0 m o f' j1 j2 a b h' → Q y { s with heap := h' }) : wpAny (model prog w) A (Builtin.SmallTypes.ownedTupleIsFree (.ref z)) Q E s := by
  unfold Builtin.SmallTypes.ownedTupleIsFree
  refine wpAny_bind (wpAny_field q.rcd rfl (x := o) rfl ?_)
  cases ho with
  | no => exact wpAny_pure (k true s.heap f q)
  | num T =>
    refine wpAny_bind (lives ?_)
    generalize s.heap.get? _ = al
    cases al with
    | none => exact wpAny_pure (k true s.heap f q)
    | some u =>
      refine wpAny_bind (wpAny_field q.rcd rfl (x := .bool f) rfl ?_)
      cases f with
      | true => exact wpAny_pure (k false s.heap true q)
      | false => exact wpAny_bind (wpAny_setField_rec q.rcd (by simp) fun h' r sb => wpAny_pure (k false h' true (q.note S D1 D2 sb r)))
/-- one place of the kept pair is written -/
theorem Zs.put {s : Shared} {β : Type} {r : Sem β} {Q : β → Shared → Prop} {x : Value} (q : Zs z TI TO i1 i2 St1 St2 h0 m o f j1 j2 a b s.heap) (n : Nat) (e : (#[a, b] : Array Value).setIfInBounds n x = #[a', b'])
    (k : ∀ h', Zs z TI TO i1 i2 St1 St2 h0 m o f j1 j2 a' b' h' → wpAny (model prog w) A r Q E { s with heap := h' }) :
    wpAny (model prog w) A (do let some kept ← seqItems? (.ref TO) | unsupported "internal:zip.__next__"
                               updateSeq TO (·.setIfInBounds n x)
                               letGo [kept.getD n .none]
                               r) Q E s := by
  refine wpAny_bind (wpAny_seqItems q.out rfl (wpAny_bind (wpAny_updateSeq q.out rfl (wpAny_bind (wpAny_letGo (k _ (q.write S D1 D2 (Heap.SameBut.update ..) ?_)))))))
  show Heap.get? _ _ = _
  rw [Heap.get?_update_self _ q.out rfl, ← e]
  simp [Obj.mapSeq]
/-- the next pair, free or held -/
theorem Zs.next {s : Shared} {Q : Value → Shared → Prop} {j : Nat} (q : Zs z TI TO i1 i2 St1 St2 s.heap s.heap.objs.size o f j j a b s.heap) (ho : Out o) (l1 : j < n1) (l2 : j < n2)
    (k : ∀ x y h' t o' f' a' b', P1 j x → P2 j y → Out o' → IsPair h' s.heap.objs.size x y → Zs z TI TO i1 i2 St1 St2 s.heap (s.heap.objs.size + 1) o' f' (j + 1) (j + 1) a' b' h' → Q (.ref s.heap.objs.size) { s with heap := h', toks := t }) :
    wpAny (model prog w) A (Builtin.«zip.__next__» ⟨[.ref z], []⟩) (fun v s' => ∃ u, v = .done (.ret u) ∧ Q u s') E s := by
  have lz : z < s.heap.objs.size := Heap.lt_size q.rcd
  show wpAny _ _ (field (.ref z) 2 >>= _) _ _ _
  refine wpAny_bind (wpAny_field q.rcd rfl (x := .bool false) rfl (wpAny_bind (wpAny_field q.rcd rfl (x := .ref TI) rfl (wpAny_bind (wpAny_seqItems q.ins rfl ?_)))))
  refine wpAny_bind (q.ask S D1 D2 ho fun y h1 f1 q1 => ?_)
  cases y
  · refine wpAny_bind ?_
    rw [← Array.forIn_toList]
    simp only [List.forIn_cons, List.forIn_nil]
    refine wpAny_bind (wpAny_bind (wpAny_holding (wpAny_bind (Zs.draw1 S D1 D2 (s := { s with heap := h1 }) q1 l1 fun x h2 t2 px q2 => wpAny_pure (wpAny_pure ?_)))))
    refine wpAny_bind (wpAny_bind (wpAny_holding (wpAny_bind (Zs.draw2 S D1 D2 (s := { s with heap := h2, toks := t2 }) q2 l2 fun y h3 t3 py q3 => wpAny_pure (wpAny_pure (wpAny_pure ?_))))))
    refine wpAny_bind (wpAny_newTuple (hsz := by show 2 ≤ sizeLine; decide) (wpAny_pure ⟨_, rfl, ?_⟩))
    have e := Heap.get?_push_size h3 (o := { cls := .type "tuple", data := .seq #[x, y] }) rfl
    rw [q3.num] at e
    have g := k x y _ t3 o f1 a b px py ho e (q3.more S D1 D2 _)
    rw [← q3.num] at g
    exact g
  · refine wpAny_bind (wpAny_rule (wpAny_bind (wpAny_field q1.rcd rfl (x := .ref TO) rfl (wpAny_bind (wpAny_setField_rec q1.rcd (by simp) fun h2 r2 k2 => ?_)))))
    have q2 : Zs z TI TO i1 i2 St1 St2 s.heap s.heap.objs.size .ellipsis f1 j j a b h2 := q1.note S D1 D2 k2 r2
    refine wpAny_bind ?_
    simp only [List.zipIdx_cons, List.zipIdx_nil, List.forIn_cons, List.forIn_nil]
    refine wpAny_bind (wpAny_bind (wpAny_onRaise (wpAny_bind (Zs.draw1 S D1 D2 (s := { s with heap := h2 }) q2 l1 fun x h3 t3 px q3 => wpAny_pure ?_))))
    refine Zs.put S D1 D2 (s := { s with heap := h3, toks := t3 }) q3 0 (a' := x) (b' := b) rfl fun h4 q4 => wpAny_pure ?_
    refine wpAny_bind (wpAny_bind (wpAny_onRaise (wpAny_bind (Zs.draw2 S D1 D2 (s := { s with heap := h4, toks := t3 }) q4 l2 fun y h5 t5 py q5 => wpAny_pure ?_))))
    refine Zs.put S D1 D2 (s := { s with heap := h5, toks := t5 }) q5 1 (a' := x) (b' := y) rfl fun h6 q6 => wpAny_pure (wpAny_pure ?_)
    refine wpAny_bind (wpAny_seqItems q6.out rfl (wpAny_bind (wpAny_newTuple (hsz := by show 2 ≤ sizeLine; decide) ?_)))
    have e := Heap.get?_push_size h6 (o := { cls := .type "tuple", data := .seq #[x, y] }) rfl
    have q7 := q6.more S D1 D2 { cls := .type "tuple", data := .seq #[x, y] }
    refine wpAny_bind (wpAny_bind (wpAny_setField_rec q7.rcd (by simp) fun h8 r8 k8 => ?_))
    refine wpAny_setField_rec r8 (by simp) fun h9 r9 k9 => wpAny_pure ⟨_, rfl, ?_⟩
    have q9 : Zs z TI TO i1 i2 St1 St2 s.heap (s.heap.objs.size + 1) (rawInt h6.objs.size) false (j + 1) (j + 1) x y h9 := (q7.note S D1 D2 (o' := rawInt h6.objs.size) (f' := f1) k8 r8).note S D1 D2 k9 r9
    have e9 : IsPair h9 h6.objs.size x y := by
      have ne : h6.objs.size ≠ z := by rw [q6.num]; exact Nat.ne_of_gt lz
      exact k9.extBut _ _ ne (k8.extBut _ _ ne e)
    rw [q6.num] at e9
    have g := k x y _ t5 _ false x y px py (.num _) e9 q9
    rw [← q6.num] at g
    exact g
/-- one of the two is at its end -/
theorem Zs.over {s : Shared} {Q : Fin → Shared → Prop} {j : Nat} (q : Zs z TI TO i1 i2 St1 St2 s.heap s.heap.objs.size o f j j a b s.heap) (ho : Out o) (l : j = n1 ∨ (j < n1 ∧ j = n2))
    (k : ∀ h' t e, (∀ c u, c ≠ z → c ≠ TO → c ≠ i1 → c ≠ i2 → s.heap.get? c = some u → h'.get? c = some u) → (∃ u, h'.get? e = some u ∧ u.cls = .type "StopIteration") → E (.ref e) { s with heap := h', toks := t }) :
    wpAny (model prog w) A (Builtin.«zip.__next__» ⟨[.ref z], []⟩) Q E s := by
  show wpAny _ _ (field (.ref z) 2 >>= _) _ _ _
  refine wpAny_bind (wpAny_field q.rcd rfl (x := .bool false) rfl (wpAny_bind (wpAny_field q.rcd rfl (x := .ref TI) rfl (wpAny_bind (wpAny_seqItems q.ins rfl ?_)))))
  refine wpAny_bind (q.ask S D1 D2 ho fun y h1 f1 q1 => ?_)
  cases y
  · refine wpAny_bind ?_
    rw [← Array.forIn_toList]
    simp only [List.forIn_cons, List.forIn_nil]
    refine wpAny_bind (wpAny_bind (wpAny_holding (wpAny_bind ?_)))
    rcases l with rfl | ⟨l1, rfl⟩
    · exact D1.done { s with heap := h1 } _ _ q1.s1 fun h2 e k2 x => k h2 s.toks e (fun c u e1 e2 e3 e4 y => k2 _ _ e3 (q1.rest c u e1 e2 e3 e4 y)) x
    · refine Zs.draw1 S D1 D2 (s := { s with heap := h1 }) q1 l1 fun x h2 t2 px q2 => wpAny_pure (wpAny_pure ?_)
      refine wpAny_bind (wpAny_bind (wpAny_holding (wpAny_bind ?_)))
      exact D2.done { s with heap := h2, toks := t2 } _ _ q2.s2 fun h3 e k3 x => k h3 t2 e (fun c u e1 e2 e3 e4 y => k3 _ _ e4 (q2.rest c u e1 e2 e3 e4 y)) x
  · refine wpAny_bind (wpAny_rule (wpAny_bind (wpAny_field q1.rcd rfl (x := .ref TO) rfl (wpAny_bind (wpAny_setField_rec q1.rcd (by simp) fun h2 r2 k2 => ?_)))))
    have q2 : Zs z TI TO i1 i2 St1 St2 s.heap s.heap.objs.size .ellipsis f1 j j a b h2 := q1.note S D1 D2 k2 r2
    refine wpAny_bind ?_
    simp only [List.zipIdx_cons, List.zipIdx_nil, List.forIn_cons, List.forIn_nil]
    refine wpAny_bind (wpAny_bind (wpAny_onRaise (wpAny_bind ?_)))
    rcases l with rfl | ⟨l1, rfl⟩
    · exact D1.done { s with heap := h2 } _ _ q2.s1 fun h3 e k3 x => raised (s := { s with heap := h3 }) (k3 _ _ S.zi1 q2.rcd) x fun h4 k4 y => k h4 s.toks e (fun c u e1 e2 e3 e4 y => k4.extBut _ _ e1 (k3 _ _ e3 (q2.rest c u e1 e2 e3 e4 y))) y
    · refine Zs.draw1 S D1 D2 (s := { s with heap := h2 }) q2 l1 fun x h3 t3 px q3 => wpAny_pure ?_
      refine Zs.put S D1 D2 (s := { s with heap := h3, toks := t3 }) q3 0 (a' := x) (b' := b) rfl fun h4 q4 => wpAny_pure ?_
      refine wpAny_bind (wpAny_bind (wpAny_onRaise (wpAny_bind ?_)))
      exact D2.done { s with heap := h4, toks := t3 } _ _ q4.s2 fun h5 e k5 x => raised (s := { s with heap := h5, toks := t3 }) (k5 _ _ S.zi2 q4.rcd) x fun h6 k6 y => k h6 t3 e (fun c u e1 e2 e3 e4 y => k6.extBut _ _ e1 (k5 _ _ e4 (q4.rest c u e1 e2 e3 e4 y))) y
end
section
variable {prog : Program} {w : World} {A : Around} {E : Value → Shared → Prop} {z TI TO i1 i2 : Addr} {fp1 fp2 : List Addr} {n1 n2 : Nat} {P1 P2 : Nat → Value → Prop} {St1 St2 : Nat → Heap → Prop} {o : Value} {f : Bool} {a b : Value}
theorem zip_next (S : ZipSep2 z TI TO i1 i2 fp1 fp2) (D1 : Draws prog w A.in1 i1 fp1 n1 P1 St1) (D2 : Draws prog w A.in1 i2 fp2 n2 P2 St2) {s : Shared} {Q : Option Value → Shared → Prop} {j : Nat} (q : Zs z TI TO i1 i2 St1 St2 s.heap s.heap.objs.size o f j j a b s.heap) (ho : Out o) (l1 : j < n1) (l2 : j < n2)
    (k : ∀ x y h' t o' f' a' b', P1 j x → P2 j y → Out o' → IsPair h' s.heap.objs.size x y → Zs z TI TO i1 i2 St1 St2 s.heap (s.heap.objs.size + 1) o' f' (j + 1) (j + 1) a' b' h' → Q (some (.ref s.heap.objs.size)) { s with heap := h', toks := t }) :
    wpAny (model prog w) A (pyNext (.ref z)) Q E s := by
  have ty : s.TypeIs (.ref z) "zip" := ⟨_, q.rcd, rfl⟩
  unfold pyNext
  refine wpAny_bind (wpAny_attempt (wpAny_callSpecial?_slot (name := Str.ofString "__next__") ty F.slot_zip_next (wpAny_call_entry F.slot_zip_next ty F.entry_zip_next ?_ (F.args_zip_next_1 _))))
  exact q.next S D1 D2 ho l1 l2 fun x y h' t o' f' a' b' p1 p2 p3 p4 p5 => wpAny_pure (k x y h' t o' f' a' b' p1 p2 p3 p4 p5)
theorem zip_over (S : ZipSep2 z TI TO i1 i2 fp1 fp2) (D1 : Draws prog w A.in1 i1 fp1 n1 P1 St1) (D2 : Draws prog w A.in1 i2 fp2 n2 P2 St2) {s : Shared} {Q : Option Value → Shared → Prop} {j : Nat} (q : Zs z TI TO i1 i2 St1 St2 s.heap s.heap.objs.size o f j j a b s.heap) (ho : Out o) (l : j = n1 ∨ (j < n1 ∧ j = n2))
    (k : ∀ h' t, (∀ c u, c ≠ z → c ≠ TO → c ≠ i1 → c ≠ i2 → s.heap.get? c = some u → h'.get? c = some u) → Q none { s with heap := h', toks := t }) :
    wpAny (model prog w) A (pyNext (.ref z)) Q E s := by
  have ty : s.TypeIs (.ref z) "zip" := ⟨_, q.rcd, rfl⟩
  unfold pyNext
  refine wpAny_bind (wpAny_attempt (wpAny_callSpecial?_slot (name := Str.ofString "__next__") ty F.slot_zip_next (wpAny_call_entry F.slot_zip_next ty F.entry_zip_next ?_ (F.args_zip_next_1 _))))
  refine q.over S D1 D2 ho l fun h' t e r x => ?_
  obtain ⟨u, x1, x2⟩ := x
  exact wpAny_bind (wpAny_isInstance (T := "StopIteration") (b := true) ⟨u, x1, x2⟩ isSubtype_stop (wpAny_pure (k h' t r)))
end
/-- what lists and tuples have in common: their items, and an iterator over them -/
structure Kin (Sq : PySem.W.Frag → Hp → Addr → List V → Prop) (Has : Heap → Addr → Array Value → Prop) (Itr : Heap → Addr → Addr → Nat → Prop) : Prop where
  stay : ∀ {h h' : Heap} {i l : Addr} {k : Nat}, Itr h i l k → (∀ u, h.get? i = some u → h'.get? i = some u) → Itr h' i l k
  live : ∀ {h : Heap} {i l : Addr} {k : Nat}, Itr h i l k → ∃ u, h.get? i = some u ∧ ∀ v, u.data ≠ .cell v
  lt : ∀ {h : Heap} {l : Addr} {xs : Array Value}, Has h l xs → l < h.objs.size
  items : ∀ {X : Cx} {pins : List (Addr × Obj)} {σ : L2.St} {H : Hp} {s : Shared} {l : Addr} {xs : List V}, Inv X pins σ H s → Sq X.K H l xs → ∃ its : List Value, Vals xs its ∧ Has s.heap l its.toArray
  inj : ∀ {X : Cx} {pins : List (Addr × Obj)} {σ : L2.St} {H : Hp} {s : Shared} {l : Addr} {xs ys : List V}, Inv X pins σ H s → Sq X.K H l xs → Sq X.K H l ys → xs = ys
  goes : ∀ {prog : Program} {w : World} {A : Around}, A.handled = none → ∀ (i l : Addr) (xs : Array Value), l ≠ i → Draws prog w A i [i, l] xs.size (fun k v => xs[k]? = some v) (fun k h => Itr h i l k ∧ Has h l xs)
  ends : ∀ {prog : Program} {w : World} {A : Around}, A.handled = none → ∀ (i l : Addr) (xs : Array Value) (n : Nat), l ≠ i → xs.size ≤ n → Draws prog w A i [i, l] n (fun _ _ => False) (fun k h => k = n ∧ Itr h i l n ∧ Has h l xs)
theorem kin_lst : Kin SqL (fun h l xs => h.IsList l xs) (fun h i l k => h.IsListIter i l k) where
  stay := fun t k => t.at k
  live := fun ⟨u, e, _, d⟩ => ⟨u, e, fun v q => by rw [d] at q; cases q⟩
  lt := fun ⟨u, e, _⟩ => Heap.lt_size e
  items := fun I q => let ⟨its, r, p, _⟩ := I.list q; ⟨its, r, p.isList⟩
  inj := fun I => I.list_inj
  goes := fun hh i l xs ne => Draws.list hh i l ne xs
  ends := fun hh i l xs n ne le => {
    live := fun _ _ st => let ⟨u, e, _⟩ := st.2.1; ⟨u, e⟩
    frame := fun _ _ _ st k => ⟨st.1, st.2.1.at fun u e => k i (by simp) u e, st.2.2.at fun u e => k l (by simp) u e⟩
    item := fun k s Q E lt st _ => absurd st.1 (Nat.ne_of_lt lt)
    done := fun s Q E st k => wpAny_nextOf_list_end hh st.2.1 st.2.2 (by simp; exact le) k }
theorem kin_tup : Kin SqT (fun h l xs => h.IsTuple l xs) (fun h i l k => h.IsTupleIter i l k) where
  stay := fun t k => t.at k
  live := fun ⟨u, e, _, d⟩ => ⟨u, e, fun v q => by rw [d] at q; cases q⟩
  lt := fun ⟨u, e, _⟩ => Heap.lt_size e
  items := fun I q => let ⟨its, r, p, _⟩ := I.tuple q; ⟨its, r, p⟩
  inj := fun I => I.tuple_inj
  goes := fun hh i l xs ne => Draws.tuple hh i l ne xs
  ends := fun hh i l xs n ne le => {
    live := fun _ _ st => let ⟨u, e, _⟩ := st.2.1; ⟨u, e⟩
    frame := fun _ _ _ st k => ⟨st.1, st.2.1.at fun u e => k i (by simp) u e, st.2.2.at fun u e => k l (by simp) u e⟩
    item := fun k s Q E lt st _ => absurd st.1 (Nat.ne_of_lt lt)
    done := fun s Q E st k => wpAny_nextOf_tuple_end hh st.2.1 st.2.2 (by simp; exact le) k }
section
variable {Sq : PySem.W.Frag → Hp → Addr → List V → Prop} {Has : Heap → Addr → Array Value → Prop} {Itr : Heap → Addr → Addr → Nat → Prop}
/-- the zip over l1 and l2 at its i-th turn -/
def ZipAt (Itr : Heap → Addr → Addr → Nat → Prop) (z TI TO i1 i2 l1 l2 : Addr) (i : Nat) (h : Heap) : Prop :=
  ∃ o f a b, Out o ∧ ZR h z o (.bool f) TI TO ∧ IsPair h TI (.ref i1) (.ref i2) ∧ IsPair h TO a b ∧ Itr h i1 l1 i ∧ Itr h i2 l2 i
/-- five cells in one row, the two lists before them -/
theorem sep5 {n l1 l2 : Addr} (e1 : l1 < n) (e2 : l2 < n) : ZipSep2 (n + 4) (n + 2) (n + 3) n (n + 1) [n, l1] [n + 1, l2] := by
  replace e1 : @LT.lt Nat _ l1 n := e1
  replace e2 : @LT.lt Nat _ l2 n := e2
  constructor
  all_goals first
    | exact fun h => absurd (show @Eq Nat _ _ from h) (by omega)
    | exact List.mem_cons_self
    | (intro h
       simp only [List.mem_cons, List.not_mem_nil, or_false] at h
       exact h.elim (fun h => absurd (show @Eq Nat _ _ from h) (by omega)) fun h => absurd (show @Eq Nat _ _ from h) (by omega))
theorem turn_named {P : Program} {w : World} {K : PySem.W.Frag} {x : String} {px : Pos} {J : It} {z TI TO i1 i2 l1 l2 : Addr} (kin : Kin Sq Has Itr) (S : ZipSep2 z TI TO i1 i2 [i1, l1] [i2, l2]) (n1 : l1 ≠ i1) (n2 : l2 ≠ i2)
    (hgo : ∀ i H, J.go i H → ∃ xs ys x y, Sq K H l1 xs ∧ Sq K H l2 ys ∧ xs[i]? = some x ∧ ys[i]? = some y)
    (hyld : ∀ i H T x y, H T = none → (∀ xs, Sq K H l1 xs → xs[i]? = some x) → (∀ ys, Sq K H l2 ys → ys[i]? = some y) → J.yld i H (.ref T) (upd H T (.tup [x, y])))
    (hstop : ∀ i H, J.stop i H → ∃ xs ys, Sq K H l1 xs ∧ Sq K H l2 ys ∧ (xs.length ≤ i ∨ ys.length ≤ i)) :
    Turn P w K (.Name x px) J [z, TI, TO, i1, i2] z (ZipAt Itr z TI TO i1 i2 l1 l2) where
  mem := List.mem_cons_self
  obj := by
    rintro i h ⟨o, f, a, b, -, r1, r2, r3, r4, r5⟩ c hc
    simp only [List.mem_cons, List.not_mem_nil, or_false] at hc
    rcases hc with rfl | rfl | rfl | rfl | rfl
    · exact ⟨_, r1, fun _ y => nomatch y⟩
    · exact ⟨_, r2, fun _ y => nomatch y⟩
    · exact ⟨_, r3, fun _ y => nomatch y⟩
    · exact kin.live r4
    · exact kin.live r5
  keep := by
    rintro i h h' ⟨o, f, a, b, ho, r1, r2, r3, r4, r5⟩ k
    exact ⟨o, f, a, b, ho, k z (by simp) _ r1, k TI (by simp) _ r2, k TO (by simp) _ r3, kin.stay r4 (k i1 (by simp)), kin.stay r5 (k i2 (by simp))⟩
  item := by
    rintro X rfl rfl rfl hc i pins s σ H E I hf ⟨o, f, a, b, ho, r1, r2, r3, r4, r5⟩ go
    obtain ⟨xs, ys, x, y, q1, q2, e1, e2⟩ := hgo i H go
    obtain ⟨us, v1, t1⟩ := kin.items I q1
    obtain ⟨ws, v2, t2⟩ := kin.items I q2
    obtain ⟨u, g1, w1⟩ := v1.get e1
    obtain ⟨v, g2, w2⟩ := v2.get e2
    have q : Zs z TI TO i1 i2 (fun k h => Itr h i1 l1 k ∧ Has h l1 us.toArray) (fun k h => Itr h i2 l2 k ∧ Has h l2 ws.toArray) s.heap s.heap.objs.size o f i i a b s.heap := ⟨r1, r2, r3, ⟨r4, t1⟩, ⟨r5, t2⟩, rfl, fun _ _ _ _ _ _ e => e⟩
    have hh : X.A.in1.handled = none := I.ok.hd hc
    refine zip_next S (kin.goes hh i1 l1 us.toArray n1) (kin.goes hh i2 l2 ws.toArray n2) q ho (by simpa using (List.getElem?_eq_some_iff.mp g1).1) (by simpa using (List.getElem?_eq_some_iff.mp g2).1) fun u' v' h' t o' f' a' b' p1 p2 ho' pr q' => ⟨_, rfl, ?_⟩
    have eu : u' = u := by simpa [g1] using p1.symm
    have ev : v' = v := by simpa [g2] using p2.symm
    subst eu ev
    have new : ObjOk X.prog X.w (upd H s.heap.objs.size (.tup [x, y])) h' s.heap.objs.size (.tup [x, y]) := ⟨(by show 2 ≤ sizeLine; decide), [u', v'], .cons w1 (.cons w2 .nil), ⟨_, pr, rfl, _, rfl⟩⟩
    have I1 : Inv X pins σ (upd H s.heap.objs.size (.tup [x, y])) { s with heap := h', toks := t } :=
      I.turnedNew (ch := [z, TI, TO, i1, i2]) (fun c u hc e => by
        simp only [List.mem_cons, List.not_mem_nil, or_false, not_or] at hc
        exact q'.rest c u hc.1 hc.2.2.1 hc.2.2.2.1 hc.2.2.2.2 e) hf (Nat.le_refl _) new
    refine wpAny_pure ⟨.ref s.heap.objs.size, _, I1, rfl, hyld i H _ x y (I.hok.fresh (Nat.le_refl _)) (fun l hl => by rw [kin.inj I hl q1]; exact e1) (fun l hl => by rw [kin.inj I hl q2]; exact e2), ⟨o', f', a', b', ho', q'.rcd, q'.ins, q'.out, q'.s1.1, q'.s2.1⟩, fun c hcm => ?_⟩
    have old : c < s.heap.objs.size := by
      simp only [List.mem_cons, List.not_mem_nil, or_false] at hcm
      rcases hcm with rfl | rfl | rfl | rfl | rfl
      · exact Heap.lt_size r1
      · exact Heap.lt_size r2
      · exact Heap.lt_size r3
      · exact let ⟨_, e, _⟩ := kin.live r4; Heap.lt_size e
      · exact let ⟨_, e, _⟩ := kin.live r5; Heap.lt_size e
    rw [upd_ne (Nat.ne_of_lt old)]
    exact (hf c hcm).1
  done := by
    rintro X rfl rfl rfl hc i pins s σ H E I hf ⟨o, f, a, b, ho, r1, r2, r3, r4, r5⟩ stop
    obtain ⟨xs, ys, q1, q2, le⟩ := hstop i H stop
    obtain ⟨us, v1, t1⟩ := kin.items I q1
    obtain ⟨ws, v2, t2⟩ := kin.items I q2
    have z1 := v1.length
    have z2 := v2.length
    have hh : X.A.in1.handled = none := I.ok.hd hc
    have fin : ∀ (h' : Heap) (t : Nat), (∀ c u, c ≠ z → c ≠ TO → c ≠ i1 → c ≠ i2 → s.heap.get? c = some u → h'.get? c = some u) → none = (none : Option Value) ∧ Inv X pins σ H { s with heap := h', toks := t } := fun h' t r =>
      ⟨rfl, I.turnedL (ch := [z, TI, TO, i1, i2]) (fun c u hc e => by
        simp only [List.mem_cons, List.not_mem_nil, or_false, not_or] at hc
        exact r c u hc.1 hc.2.2.1 hc.2.2.2.1 hc.2.2.2.2 e) hf⟩
    by_cases l1 : xs.length ≤ i
    · exact zip_over S (kin.ends hh i1 _ us.toArray i n1 (by simp; omega)) (kin.goes hh i2 _ ws.toArray n2) ⟨r1, r2, r3, ⟨rfl, r4, t1⟩, ⟨r5, t2⟩, rfl, fun _ _ _ _ _ _ e => e⟩ ho (.inl rfl) fin
    · exact zip_over S (kin.goes hh i1 _ us.toArray n1) (kin.ends hh i2 _ ws.toArray i n2 (by simp; omega)) ⟨r1, r2, r3, ⟨r4, t1⟩, ⟨rfl, r5, t2⟩, rfl, fun _ _ _ _ _ _ e => e⟩ ho (.inr ⟨by simp; omega, rfl⟩) fin
  self := by
    rintro A i s Q E ⟨o, f, a, b, ho, r1, -⟩ h
    have ty : s.TypeIs (.ref z) "zip" := ⟨_, r1, rfl⟩
    exact wpAny_pyIter_slot ty F.slot_zip_iter (wpAny_call_entry F.slot_zip_iter ty F.entry_zip_iter (show wpAny _ _ (ret (.ref z)) _ _ s from wpAny_pure ⟨_, rfl, "zip", _, ty, F.slot_zip_next.lookup, h⟩) (F.args_zip_iter_1 _))
/-- the zip has just been made -/
theorem made {X : Cx} {pins : List (Addr × Obj)} {σ : L2.St} {H : Hp} {s : Shared} {h' : Heap} {l1 l2 : Addr} {x : String} {px : Pos} {J : It} {R : It → Hp → Prop} (kin : Kin Sq Has Itr) (I : Inv X pins σ H s) (e1 : l1 < s.heap.objs.size) (e2 : l2 < s.heap.objs.size)
    (k : ∀ c u, s.heap.get? c = some u → h'.get? c = some u) (at0 : ZipAt Itr (s.heap.objs.size + 4) (s.heap.objs.size + 2) (s.heap.objs.size + 3) s.heap.objs.size (s.heap.objs.size + 1) l1 l2 0 h')
    (t : Turn X.prog X.w X.K (.Name x px) J [s.heap.objs.size + 4, s.heap.objs.size + 2, s.heap.objs.size + 3, s.heap.objs.size, s.heap.objs.size + 1] (s.heap.objs.size + 4) (ZipAt Itr (s.heap.objs.size + 4) (s.heap.objs.size + 2) (s.heap.objs.size + 3) s.heap.objs.size (s.heap.objs.size + 1) l1 l2)) (q : R J H) :
    PIE X pins σ (.Name x px) R (.ref (s.heap.objs.size + 4)) { s with heap := h' } := by
  refine ⟨_, _, _, J, H, rfl, I.kept (t' := s.toks) k, t, at0, fun c hc => ?_, q⟩
  have le : s.heap.objs.size ≤ c := by
    simp only [List.mem_cons, List.not_mem_nil, or_false] at hc
    rcases hc with rfl | rfl | rfl | rfl | rfl
    all_goals first | exact Nat.le_add_right _ _ | exact Nat.le_refl _
  exact I.fpOk le (I.hok.fresh le)
theorem turn_lst {P : Program} {w : World} {K : PySem.W.Frag} {x : String} {px : Pos} {n l1 l2 : Addr} (e1 : l1 < n) (e2 : l2 < n) : Turn P w K (.Name x px) (Itz K l1 l2) [n + 4, n + 2, n + 3, n, n + 1] (n + 4) (ZipAt (fun h i l k => h.IsListIter i l k) (n + 4) (n + 2) (n + 3) n (n + 1) l1 l2) :=
  turn_named kin_lst (sep5 e1 e2) (Nat.ne_of_lt e1) (Nat.ne_of_lt (Nat.lt_succ_of_lt e2)) (fun _ _ h => h) (fun i H T x y hT h1 h2 => ⟨T, x, y, rfl, hT, rfl, h1, h2⟩) fun _ _ h => h
theorem turn_tup {P : Program} {w : World} {K : PySem.W.Frag} {x : String} {px : Pos} {n l1 l2 : Addr} (e1 : l1 < n) (e2 : l2 < n) : Turn P w K (.Name x px) (RZ.ItzT K l1 l2) [n + 4, n + 2, n + 3, n, n + 1] (n + 4) (ZipAt (fun h i l k => h.IsTupleIter i l k) (n + 4) (n + 2) (n + 3) n (n + 1) l1 l2) :=
  turn_named kin_tup (sep5 e1 e2) (Nat.ne_of_lt e1) (Nat.ne_of_lt (Nat.lt_succ_of_lt e2)) (fun _ _ h => h) (fun i H T x y hT h1 h2 => ⟨T, x, y, rfl, hT, rfl, h1, h2⟩) fun _ _ h => h
/-- for x in zip(e, e2) -/
theorem pi_zipN {X : Cx} {e e2 : Expr} {ta : TA} {p pos : Pos} {x : String} {px : Pos} (hg : Gl X "zip") (hm : X.mg "zip" = none) (ha : PA X [e, e2] ta)
    (hs : starEach [e, e2] X.env = (false, eval e X.env) :: starEach [e2] X.env := by rfl) (hpl : (backTo pos (starEach [e2] X.env)).any (·.1) = false := by rfl) :
    PI X (.Name x px) (.Call (.Name "zip" p) [e, e2] [] pos) (RZ.iZipA X.K ta) := ⟨fun pins s σ H R I h => by
  refine Call_ (ld_blt I hg hm PyProof.Rows.boot_zip (PyProof.Rows.callWith_type1 (thn (ha.run pos pins s σ H _ I h) fun us s1 ⟨vs, H1, I1, r1, q1⟩ => ?_) hs hpl))
  obtain ⟨l1, l2, xs, ys, rfl, q1⟩ := q1
  obtain ⟨u1, u2, rfl, w1, w2⟩ : ∃ u1 u2, us = [u1, u2] ∧ RelV (.ref l1) u1 ∧ RelV (.ref l2) u2 := by
    rcases r1 with _ | ⟨w1, _ | ⟨w2, _ | _⟩⟩
    exact ⟨_, _, rfl, w1, w2⟩
  cases w1
  cases w2
  rcases q1 with ⟨t1, t2, q⟩ | ⟨t1, t2, q⟩
  · obtain ⟨_, -, g1⟩ := kin_lst.items I1 t1
    obtain ⟨_, -, g2⟩ := kin_lst.items I1 t2
    refine call_zip_2 g1 g2 fun h' hz hTI hTO a1 a2 _ hk => wpAny_pyIter_zip hz (made kin_lst I1 (kin_lst.lt g1) (kin_lst.lt g2) hk ⟨_, _, _, _, .no, hz, hTI, hTO, a1, a2⟩ (turn_lst (kin_lst.lt g1) (kin_lst.lt g2)) q)
  · obtain ⟨_, -, g1⟩ := kin_tup.items I1 t1
    obtain ⟨_, -, g2⟩ := kin_tup.items I1 t2
    refine RZ.call_zipT g1 g2 fun h' hz hTI hTO a1 a2 _ hk => wpAny_pyIter_zip hz (made kin_tup I1 (kin_tup.lt g1) (kin_tup.lt g2) hk ⟨_, _, _, _, .no, hz, hTI, hTO, a1, a2⟩ (turn_tup (kin_tup.lt g1) (kin_tup.lt g2)) q)⟩
end
end RK

/-! A comprehension's block, in parts that any comprehension may use: how it is left, how its iterator ends, how it gives the next value. With them a dict comprehension whose keys are tuples. -/
namespace RK
open PySem PySem.Spec PyProof.Rows L2
section
variable {X : Cx} {pins : List (Addr × Obj)} {σ τ : L2.St} {s0 s : Shared} {H0 H : Hp} {sco : Scope} {own : List (Str × Nat)} {tg : Expr} {J : It} {fp : List Addr} {it : Addr} {tn : Nat → Heap → Prop} {i : Nat}
/-- the block's names -/
abbrev bEnv (X : Cx) (sco : Scope) (s0 : Shared) : Env := compEnvC sco (cellsFrom (s0.heap.objs.size + 1) sco.names (cloFrom X.env.cells sco.names [])) s0.heap.objs.size X.env
abbrev bCx (X : Cx) (sco : Scope) (fp : List Addr) (s0 : Shared) (H0 : Hp) : Cx := X.blk s0 H0 sco (bEnv X sco s0) fp
/-- what stands outside while the block runs -/
structure Outer (X : Cx) (pins : List (Addr × Obj)) (σ : L2.St) (s0 : Shared) (H0 : Hp) (fp : List Addr) : Prop where
  inv : Inv X pins σ H0 s0
  cells : ∀ b ∈ fp, FpOk X pins H0 b ∧ b < s0.heap.objs.size
/-- what stands inside between two turns -/
structure Inner (X : Cx) (sco : Scope) (fp : List Addr) (s0 : Shared) (H0 : Hp) (tn : Nat → Heap → Prop) (τ : L2.St) (i : Nat) (H : Hp) (s : Shared) : Prop where
  inv : Inv (bCx X sco fp s0 H0) [] τ H s
  at_ : tn i s.heap
  out : ∀ b ∈ fp, H b = none
theorem Inner.cells (B : Inner X sco fp s0 H0 tn τ i H s) : ∀ b ∈ fp, FpOk (bCx X sco fp s0 H0) [] H b := fun b hb =>
  ⟨B.out b hb, (B.inv.ok.exf b hb).1, B.inv.ok.exfs b hb, .inl hb, (B.inv.ok.exf b hb).2, fun _ h => nomatch h⟩
/-- the block is left -/
theorem Outer.back (O : Outer X pins σ s0 H0 fp) (I : Inv (bCx X sco fp s0 H0) [] τ H s) : Inv X pins σ H s ∧ FpOk X pins H s0.heap.objs.size ∧ ∃ m, s.heap.Ns s0.heap.objs.size m :=
  ⟨O.inv.call' (ch := fp) I.os I.base I.hok I.bare fun b hb => let ⟨_, f1, _, f3, f4, f5⟩ := (O.cells b hb).1; ⟨f3, f1, f4, f5⟩, O.inv.fpOk (Nat.le_refl _) I.free, let ⟨m, h, _⟩ := I.loc; ⟨m, h⟩⟩
theorem Inner.stop (B : Inner X sco fp s0 H0 tn τ i H s) (O : Outer X pins σ s0 H0 fp) (calm : X.calm = true) (T : Turn X.prog X.w X.K tg J fp it tn) (e : J.stop i H) {E : Value → Shared → Prop} :
    wpAny (model X.prog X.w) X.A (pyNext (.ref it)) (fun r s1 => r = none ∧ Inv X pins σ H s1 ∧ FpOk X pins H s0.heap.objs.size ∧ ∃ m, s1.heap.Ns s0.heap.objs.size m) E s :=
  thn (T.done (bCx X sco fp s0 H0) rfl rfl rfl calm i [] s τ H E B.inv B.cells B.at_ e) fun _ _ h => ⟨h.1, O.back h.2⟩
/-- the next value; what comes of it may do as it likes, while the iterator's cells are pinned -/
theorem Inner.take (B : Inner X sco fp s0 H0 tn τ i H s) (calm : X.calm = true) (T : Turn X.prog X.w X.K tg J fp it tn) (e : J.go i H) {E : Value → Shared → Prop} :
    wpAny (model X.prog X.w) X.A (pyNext (.ref it)) (fun r s1 => ∃ u, r = some u ∧ wpAny (model X.prog X.w) X.A (letOwnedTupleGo tg (.ref it) u) (fun _ s2 =>
      ∃ x H2, RelV x u ∧ J.yld i H x H2 ∧ Inv (bCx X sco fp s0 H0) ([] ++ pinsAt fp s2.heap) τ H2 s2 ∧
        ∀ τ3 H3 s3, Inv (bCx X sco fp s0 H0) ([] ++ pinsAt fp s2.heap) τ3 H3 s3 → Inner X sco fp s0 H0 tn τ3 (i + 1) H3 s3) E s1) E s := by
  refine thn (T.item (bCx X sco fp s0 H0) rfl rfl rfl calm i [] s τ H E B.inv B.cells B.at_ e) fun r s1 ⟨u, hr, h⟩ => ⟨u, hr, thn h fun _ s2 ⟨x, H2, I2, rx, y, t2, n2⟩ => ?_⟩
  have B2 : Inner X sco fp s0 H0 tn τ (i + 1) H2 s2 := ⟨I2, t2, n2⟩
  refine ⟨x, H2, rx, y, I2.pinned B2.cells (T.obj _ _ t2), fun τ3 H3 s3 I3 => ?_⟩
  have pin : ∀ b ∈ fp, ∀ o, s2.heap.get? b = some o → s3.heap.get? b = some o ∧ H3 b = none := fun b hb o e =>
    let p := I3.pin (b, o) (List.mem_append_right _ (List.mem_append_right _ (mem_pinsAt hb e)))
    ⟨p.1, p.2.1⟩
  exact ⟨I3.unpinned, T.keep _ _ _ t2 fun b hb o e => (pin b hb o e).1, fun b hb => let ⟨o, e, _⟩ := T.obj _ _ t2 b hb; (pin b hb o e).2⟩
/-- a block's own names are forgotten at the end of a turn -/
theorem Inner.wiped {vs : List Nat} (B : Inner X sco fp s0 H0 tn τ i H s) (e : wipe τ vs = wipe σ vs) : Inner X sco fp s0 H0 tn (wipe σ vs) i H s :=
  ⟨B.inv.weak (by rw [← e, wipe_length]) fun j v h => by rw [← e] at h; exact (wipe_some h).1, B.at_, B.out⟩
/-! ### {k: v for ..} with tuples as keys -/
/-- d[k] = v, k a tuple -/
theorem put_tup {A : Around} {E : Value → Shared → Prop} {D b : Addr} {kvs : List (List Key × V)} {k : List Key} {v : V} {r : Value} {Q : Unit → Shared → Prop} (hu : A.units < cLine) (I : Inv X pins σ H s) (hD : H D = some (.dT kvs)) (hb : H b = some (.tup (k.map kV))) (hl : kvs.length < sizeLine) (rv : RelV v r)
    (q : ∀ s', Inv X pins σ (upd H D (.dT (putK kvs k v))) s' → Q () s') : wpAny (model X.prog X.w) A (dictSet D (.ref b) r) Q E s := by
  obtain ⟨z, nm, xs, rel, dd⟩ := dt_of I.hok hD
  have zx : xs.length ≤ sizeLine := by rw [← Paired.length rel]; exact z
  have zl : (putK kvs k v).length ≤ sizeLine := by have := length_putK kvs k v; omega
  refine wpAny_dictSet_heap (hsz := zx) (show (tupleKind _).room A from hu) (key_of I.hok hb) dd fun h' ⟨o, es, ep, g1, g2, g3, g4, _, g5⟩ sb => q _ (d_write I (by rw [hD]; exact True.intro) sb ⟨o, g1⟩ ⟨zl, nm, _, (rel.put k hb rv).keeps fun c ys e => ?_, o, es, ep, g1, g2, g3, g4, g5⟩)
  rw [upd_ne (ne_of e hD fun z => nomatch z)]
  exact e
def tDct (wi : TI) (g : TG) (tt : TT) (tk tv : TE) (vs : List Nat) : TE := fun σ H Q => wi σ H fun J H1 => ∀ D, H1 D = none → ∃ W : Nat → Nat → Hp → Prop, (∃ m, W 0 m (upd H1 D (.dT []))) ∧ ∀ i m H, W i m H →
  (J.stop i H ∧ Q (.ref D) H) ∨ (J.go i H ∧ ∃ N : Hp → Prop, (∀ H', N H' → ∃ m', m' < m ∧ W (i + 1) m' H') ∧ ∀ x H', J.yld i H x H' → g x (wipe σ vs) H' fun σ2 H2 => wipe σ2 vs = wipe σ vs ∧ tt σ2 H2 fun y H3 =>
    if y = true then tk σ2 H3 fun a H4 => tv σ2 H4 fun z H5 => ∃ b kvs k, a = .ref b ∧ H5 b = some (.tup (k.map kV)) ∧ H5 D = some (.dT kvs) ∧ kvs.length < sizeLine ∧ N (upd H5 D (.dT (putK kvs k z))) else N H3)
theorem dct_loop {D : Addr} {Q : VK} {kx vx tg iter : Expr} {ifs : List Expr} {pos : Pos} {g : TG} {tt : TT} {tk tv : TE} {use : Option (Value → Sem Unit)} {Qf : Value → Shared → Prop} {vs : List Nat} {H4 : Hp} {s4 : Shared} {m0 : Nat} (hu : X.A.units < cLine) (calm : X.calm = true) (T : Turn X.prog X.w X.K tg J fp it tn) (O : Outer X pins σ s0 H0 fp)
    (pg : PG (bCx X sco fp s0 H0) tg g) (pt : PTs (bCx X sco fp s0 H0) ifs tt) (pk : PE (bCx X sco fp s0 H0) kx tk) (pv : PE (bCx X sco fp s0 H0) vx tv) (W : Nat → Nat → Hp → Prop)
    (turn : ∀ i m H, W i m H → (J.stop i H ∧ Q (.ref D) H) ∨ (J.go i H ∧ ∃ N : Hp → Prop, (∀ H', N H' → ∃ m', m' < m ∧ W (i + 1) m' H') ∧ ∀ x H', J.yld i H x H' → g x (wipe σ vs) H' fun σ2 H2 => wipe σ2 vs = wipe σ vs ∧ tt σ2 H2 fun y H3 =>
      if y = true then tk σ2 H3 fun a H4 => tv σ2 H4 fun z H5 => ∃ b kvs k, a = .ref b ∧ H5 b = some (.tup (k.map kV)) ∧ H5 D = some (.dT kvs) ∧ kvs.length < sizeLine ∧ N (upd H5 D (.dT (putK kvs k z))) else N H3))
    (k : ∀ D C s' m H', Inv X pins σ H' s' → Q (.ref D) H' → s'.heap.Ns C m → FpOk X pins H' C → compPost (model X.prog X.w) X.A X.xe use Qf (.ref D) C (.ok .next) s') (B : Inner X sco fp s0 H0 tn (wipe σ vs) 0 H4 s4) (w0 : W 0 m0 H4) :
    codeAny (model X.prog X.w) X.A (.compLoop (.DictComp kx vx [⟨tg, iter, ifs, 0⟩] sco pos) 0 (.ref it) (.ref D) (bEnv X sco s0)) (compPost (model X.prog X.w) X.A X.xe use Qf (.ref D) s0.heap.objs.size) s4 := by
  refine compLoop_anyD (fun n s' => ∃ i H', Inner X sco fp s0 H0 tn (wipe σ vs) i H' s' ∧ W i n H') (fun n s5 ⟨i, H5, B5, w5⟩ => ?_) m0 ⟨0, H4, B, w0⟩
  rcases turn i n H5 w5 with ⟨e, q⟩ | ⟨e, N, less, each⟩
  · exact thn (B5.stop O calm T e) fun r s6 ⟨hr, I6, f6, m, n6⟩ => by
      subst hr
      exact k D _ s6 m H5 I6 q n6 f6
  · refine thn (B5.take calm T e) fun r s6 ⟨u, hr, h6⟩ => ?_
    subst hr
    refine thn h6 fun _ s7 ⟨x, H7, rx, y, I7, stay⟩ => ?_
    have next : ∀ {τ' : L2.St} {H' : Hp} {s' : Shared}, wipe τ' vs = wipe σ vs → Inv (bCx X sco fp s0 H0) ([] ++ pinsAt fp s7.heap) τ' H' s' → N H' → ∃ m, m < n ∧ ∃ i H', Inner X sco fp s0 H0 tn (wipe σ vs) i H' s' ∧ W i m H' := fun e I' hN =>
      let ⟨m, lm, w⟩ := less _ hN
      ⟨m, lm, i + 1, _, (stay _ _ _ I').wiped e, w⟩
    refine thnF (pg.run _ s7 _ H7 x u _ I7 rx (each x H7 y)) fun _ s8 ⟨τ8, H8, I8, e8, q8⟩ => ?_
    refine thnF (pt.run _ s8 τ8 H8 _ I8 q8) fun b s9 ⟨H9, I9, q9⟩ => ?_
    cases b with
    | false => exact next e8 I9 (by simpa using q9)
    | true =>
      rw [if_pos rfl] at q9 ⊢
      refine thnF (pk.run _ s9 τ8 H9 _ I9 q9) fun ku s10 ⟨kv, H10, I10, r10, q10⟩ => thnF (pv.run _ s10 τ8 H10 _ I10 q10) fun vu s11 ⟨vv, H11, I11, r11, b, kvs, key, ek, hb, hD, hl, hN⟩ => ?_
      subst ek
      cases r10
      exact put_tup (X := bCx X sco fp s0 H0) hu I11 hD hb hl r11 fun s12 I12 => next e8 I12 hN
theorem dct_core {Q : VK} {kx vx tg iter : Expr} {ifs : List Expr} {pos pos' : Pos} {wi : TI} {g : TG} {tt : TT} {tk tv : TE} {use : Option (Value → Sem Unit)} {Qf : Value → Shared → Prop} (hu : X.A.units < cLine) (calm : X.calm = true) (nd : X.N.Nodup) (I : Inv X pins σ H s) (pi : PI X tg iter wi) (blk : BlkOk X.N X.env.scope sco own)
    (pg : ∀ (s : Shared) (H : Hp) (C : Addr) (cl : List (Str × Addr)) (fp : List Addr), PG (X.blk s H sco (compEnvC sco cl C X.env) fp) tg g)
    (pt : ∀ (s : Shared) (H : Hp) (C : Addr) (cl : List (Str × Addr)) (fp : List Addr), PTs (X.blk s H sco (compEnvC sco cl C X.env) fp) ifs tt)
    (pk : ∀ (s : Shared) (H : Hp) (C : Addr) (cl : List (Str × Addr)) (fp : List Addr), PE (X.blk s H sco (compEnvC sco cl C X.env) fp) kx tk)
    (pv : ∀ (s : Shared) (H : Hp) (C : Addr) (cl : List (Str × Addr)) (fp : List Addr), PE (X.blk s H sco (compEnvC sco cl C X.env) fp) vx tv) (fs : ∀ z, foldedSetIterable iter X.env z = pure z)
    (h : tDct wi g tt tk tv (own.map (·.2)) σ H Q)
    (k : ∀ D C s' m H', Inv X pins σ H' s' → Q (.ref D) H' → s'.heap.Ns C m → FpOk X pins H' C → compPost (model X.prog X.w) X.A X.xe use Qf (.ref D) C (.ok .next) s') :
    wpAny (model X.prog X.w) X.A (comprehension (.DictComp kx vx [⟨tg, iter, ifs, 0⟩] sco pos) sco X.env pos' newDict false (eval iter X.env) use) Qf X.xe s := by
  refine wpAny_comprehension_free (use := use) rfl fs (closure_ok fun y hy e => (blk.free y hy e).elim (fun z => I.ok.has _ (.inl z)) fun z => I.ok.has _ (.inr z)) blk.kind (fun y hy e => by rw [blk.uniq y hy, e]) (thn (pi.run pins s σ H _ I h) fun _ _ hx => thn hx fun _ s2 hy => ?_)
  obtain ⟨it, fp, tn, J, H2, rfl, I2, T, t2, f2, q⟩ := hy
  refine wpAny_newObj_type (newEnv_comp ?_)
  obtain ⟨W, ⟨m0, w0⟩, turn⟩ := q s2.heap.objs.size (I2.hok.fresh (Nat.le_refl _))
  have lt : ∀ b ∈ fp, b < s2.heap.objs.size := fun b hb => let ⟨_, e, _⟩ := T.obj _ _ t2 b hb; Heap.lt_size e
  have O : Outer X pins σ { s2 with heap := s2.heap.push { cls := .type "dict", data := .dict #[] } } (upd H2 s2.heap.objs.size (.dT [])) fp :=
    ⟨I2.laid (t' := s2.toks) (fun b o e => Heap.get?_push_of_some _ e) (Nat.le_refl _) (dt_empty s2.heap I2.big), fun b hb => ⟨⟨by rw [upd_ne (Nat.ne_of_lt (lt b hb))]; exact (f2 b hb).1, (f2 b hb).2⟩, by rw [Heap.size_push]; exact Nat.lt_succ_of_lt (lt b hb)⟩⟩
  have t3 : tn 0 (s2.heap.push { cls := .type "dict", data := .dict #[] }) := T.keep _ _ _ t2 fun b _ o e => Heap.get?_push_of_some _ e
  have B : Inner X sco fp _ _ tn (wipe σ (own.map (·.2))) 0 _ _ := ⟨block_start O.inv blk nd O.cells, T.keep _ _ _ t3 fun b _ o e => pushCells_keeps _ _ _ _ (Heap.get?_push_of_some _ e), fun b hb => (O.cells b hb).1.1⟩
  have loop := dct_loop (iter := iter) (pos := pos) (use := use) (Qf := Qf) (Q := Q) hu calm T O (pg _ _ _ _ _) (pt _ _ _ _ _) (pk _ _ _ _ _) (pv _ _ _ _ _) W turn k B w0
  exact codeAny_compStart_dict loop (T.self X.A 0 _ _ _ B.at_ loop)
theorem pe_dct {kx vx tg iter : Expr} {ifs : List Expr} {pos : Pos} {wi : TI} {g : TG} {tt : TT} {tk tv : TE} (hu : X.A.units < cLine) (calm : X.calm = true) (nd : X.N.Nodup) (pi : PI X tg iter wi) (blk : BlkOk X.N X.env.scope sco own)
    (pg : ∀ (s : Shared) (H : Hp) (C : Addr) (cl : List (Str × Addr)) (fp : List Addr), PG (X.blk s H sco (compEnvC sco cl C X.env) fp) tg g)
    (pt : ∀ (s : Shared) (H : Hp) (C : Addr) (cl : List (Str × Addr)) (fp : List Addr), PTs (X.blk s H sco (compEnvC sco cl C X.env) fp) ifs tt)
    (pk : ∀ (s : Shared) (H : Hp) (C : Addr) (cl : List (Str × Addr)) (fp : List Addr), PE (X.blk s H sco (compEnvC sco cl C X.env) fp) kx tk)
    (pv : ∀ (s : Shared) (H : Hp) (C : Addr) (cl : List (Str × Addr)) (fp : List Addr), PE (X.blk s H sco (compEnvC sco cl C X.env) fp) vx tv) (fs : ∀ z, foldedSetIterable iter X.env z = pure z := by intro _; rfl) :
    PE X (.DictComp kx vx [⟨tg, iter, ifs, 0⟩] sco pos) (tDct wi g tt tk tv (own.map (·.2))) := ⟨fun pins s σ H Q I h => by
  rw [arm_eval_DictComp]
  exact dct_core hu calm nd I pi blk pg pt pk pv fs h fun D C s' m H' I' q hn f => ⟨m, hn, fun h'' sb => ⟨.ref D, H', I'.turned (t' := s'.toks) (fun b o hb e => (sb.2 b hb).trans e) f.1 f.2.1 f.2.2.2.1 f.2.2.2.2.1 f.2.2.2.2.2, rfl, q⟩⟩⟩
end
end RK

namespace DL
open PySem PySem.Spec PyProof.Rows L2 RK
section
variable {X : Cx} {F : Fx} {e a b c tg iter : Expr} {es : List Expr} {d da db dc : TDE} {ds : TDA} {pos p : Pos} {i j l : Nat}
/-! ### zip with a name as target -/
theorem di_zipN {x : String} {px : Pos} (hg : Gl X "zip") (hm : X.mg "zip" = none) (ha : PE X a (lC F da)) (hb : PE X b (lC F db)) (hs : starEach [a, b] X.env = (false, eval a X.env) :: starEach [b] X.env := by rfl) (hs2 : starEach [b] X.env = (false, eval b X.env) :: starEach [] X.env := by rfl) (hpl : (backTo pos (starEach [b] X.env)).any (·.1) = false := by rfl) (hK : F.K = X.K := by rfl) :
    PI X (.Name x px) (.Call (.Name "zip" p) [a, b] [] pos) (lI F (iZp da db)) := PI.mono (pi_zipN hg hm (pa_cons ha (pa_cons hb pa_nil hs2) hs) hs hpl) (zip_I hK)
theorem db_zipN {x : String} {px : Pos} (hg : Gl X "zip") (hm : X.mg "zip" = none) (ha : PE X a (lC F da)) (hb : PE X b (lC F db)) (hs : starEach [a, b] X.env = (false, eval a X.env) :: starEach [b] X.env := by rfl) (hs2 : starEach [b] X.env = (false, eval b X.env) :: starEach [] X.env := by rfl) (hpl : (backTo pos (starEach [b] X.env)).any (·.1) = false := by rfl) (hK : F.K = X.K := by rfl) :
    PI X (.Name x px) (.Call (.Name "zip" p) [a, b] [] pos) (lIb F (iZp da db)) := PI.mono (pi_zipN hg hm (pa_cons ha (pa_cons hb pa_nil hs2) hs) hs hpl) (zip_Ib hK)
theorem room_lt {k : Nat} {A : Around} (hr : Room k A) : A.units < cLine := by have := hr.un; omega
/-! ### {k: v for ..}, the keys tuples -/
def tupK : D → Option (List Key)
  | .tup ys => keysD ys
  | _ => none
theorem tupK_v {K : PySem.W.Frag} {N : Addr → Prop} {W : Wd} {H : Hp} {v : V} {x : D} {k : List Key} (e : tupK x = some k) (h : Dd K N W H v x) : ∃ q ws, v = .ref q ∧ H q = some (.tup (k.map kV)) ∧ ¬ N q ∧ DdAll K N W H (k.map kV) ws := by
  cases x with
  | tup ys =>
    obtain ⟨q, vs, rfl, g3, g5, g4⟩ := dd_tupE h
    have hu := keysD_v g4 e
    subst hu
    exact ⟨q, _, rfl, g3, g5, g4⟩
  | _ => cases e
def dDctomp (g : TDG) (tt : TDT) (tk tv : TDE) (P : D → Prop) (env : De) : List D → List (List Key × D) → Prop
  | [], acc => P (.dct acc)
  | x :: xs, acc => g x env fun env' => tt env' fun b => if b = true then tk env' fun k => tv env' fun y => ob (tupK k) fun k => acc.length < sizeLine ∧ dDctomp g tt tk tv P env xs (putD acc k y) else dDctomp g tt tk tv P env xs acc
def dDct (it : TDI) (g : TDG) (tt : TDT) (tk tv : TDE) (vs : List Nat) : TDE := fun env P => it env fun xs => dDctomp g tt tk tv P (wipeE env vs) xs []
theorem l_dct {S vs : List Nat} {it : TDI} {g : TDG} {tt : TDT} {tk tv : TDE} (hS : ∀ i ∈ S, i ∈ vs) : ∀ σ H Q, lN F (dDct it g tt tk tv vs) σ H Q → RK.tDct (lIb F it) (lG F S g) (lT F tt) (lC F tk) (lC F tv) vs σ H Q := fun σ H Q ⟨env, L, P, A, pp, q⟩ =>
  ⟨env, L, _, A, pp, fun xs J H1 px k1 o1 ok D nD => by
    have A1 := A.step k1 o1
    have lo : Lone (wipeE env vs) (wipe σ vs) D := (A1.wipe vs).lone nD
    have B0 : Abs F (wipeE env vs) (wipe σ vs) (D :: L) (upd H1 D (.dT [])) := (A1.wipe vs).hold (x := .dct []) (.new nD) (ok_new o1 nD) nD ⟨[], upd_same, rfl, .nil⟩
    refine ⟨fun i m H' => ∃ acc us, Abs F (wipeE env vs) (wipe σ vs) (D :: L) H' ∧ (∀ a o, ¬ F.W.own a → H1 a = some o → H' a = some o) ∧ H' D = some (.dT us) ∧ us.map (·.1) = acc.map (·.1) ∧ DdAll F.K (F.N (D :: L)) F.W H' (us.map (·.2)) (acc.map (·.2)) ∧ dDctomp g tt tk tv P (wipeE env vs) (xs.drop i) acc ∧ i ≤ xs.length ∧ m = xs.length - i,
      ⟨_, [], [], B0, fun a o _ h => by rw [upd_ne (ne_of_none h nD)]; exact h, upd_same, rfl, .nil, px, Nat.zero_le _, rfl⟩, ?_⟩
    rintro i m H' ⟨acc, us, B, kk, hD, hk, hu, lp, hi, rfl⟩
    obtain ⟨st, go⟩ := ok (F.N (D :: L)) H' (fun a o n h => ⟨fun nn z => by
      rcases z with z | z
      · exact nn (.inl z)
      · rcases List.mem_cons.mp z with z | z
        · rw [z, nD] at h
          cases h
        · exact nn (.inr z), kk a o n h⟩) (fun a h => B.alN h) i
    by_cases hlt : i < xs.length
    · obtain ⟨g1, g2⟩ := go xs[i] (List.getElem?_eq_getElem hlt)
      rw [List.drop_eq_getElem_cons hlt] at lp
      refine .inr ⟨g1, fun H2 => ∃ acc us, Abs F (wipeE env vs) (wipe σ vs) (D :: L) H2 ∧ (∀ a o, ¬ F.W.own a → H1 a = some o → H2 a = some o) ∧ H2 D = some (.dT us) ∧ us.map (·.1) = acc.map (·.1) ∧ DdAll F.K (F.N (D :: L)) F.W H2 (us.map (·.2)) (acc.map (·.2)) ∧ dDctomp g tt tk tv P (wipeE env vs) (xs.drop (i + 1)) acc,
        fun H2 ⟨acc, us, a1, a2, a3, a6, a4, a5⟩ => ⟨xs.length - (i + 1), by omega, acc, us, a1, a2, a3, a6, a4, a5, hlt, rfl⟩, fun v H2 hy => ?_⟩
      obtain ⟨sm, dd⟩ := g2 v H2 hy
      have B2 := B.step (same_keep sm) (same_ok B.ok sm)
      refine ⟨_, _, _, _, B2, dd, lp, fun env3 σ3 p3 B3 w3 _ => ⟨?_, env3, _, _, B3, p3, fun bb H3 p4 k4 o4 => ?_⟩⟩
      · rw [w3 vs hS]
        exact wipe_wipe σ vs
      · have B4 := B3.step k4 o4
        have W4 : Abs F (wipeE env vs) (wipe σ vs) (D :: L) H3 := B2.step k4 o4
        have nD0 : ¬ F.W.own D := fun z => B.out List.mem_cons_self (B.wn D z)
        cases bb with
        | true =>
          refine iteT ⟨env3, _, _, B4, p4, fun kx vk H4 p5 k5 o5 d5 => ⟨env3, _, _, B4.step k5 o5, p5, fun y v' H6 p6 k6 o6 d6 => ?_⟩⟩
          obtain ⟨k, ek, p7⟩ := ob_elim p6
          obtain ⟨q5, ws, rfl, g3, _, g4⟩ := tupK_v ek ((B4.step k5 o5).kd k6 d5)
          have kt := k5.trans k6
          have hD5 : H6 D = some (.dT us) := kt D _ nD0 (k4 D _ nD0 (sm D _ hD))
          have hu5 : DdAll F.K (F.N (D :: L)) F.W H6 (us.map (·.2)) (acc.map (·.2)) := W4.kda kt (B2.kda k4 (B.kda (same_keep sm) hu))
          have W5 := W4.step kt o6
          obtain ⟨r1, r2⟩ := put_rel (k := k) hk hu5 d6
          refine ⟨q5, us, k, rfl, g3, hD5, by rw [kd_len hk]; exact p7.1, putD acc k y, putK us k v', W5.poke List.mem_cons_self lo, fun a o n h => ?_, upd_same, r1, r2.keep (fun x u q h => ?_) (fun _ z => z), p7.2⟩
          · rw [upd_ne (ne_of_none h nD)]
            exact kt a o n (k4 a o n (sm a o (kk a o n h)))
          · have ne : x ≠ D := fun z => q (.inr (by rw [z]; exact List.mem_cons_self))
            rw [upd_ne ne]
            exact h
        | false => exact iteF ⟨acc, us, W4, fun a o n h => k4 a o n (sm a o (kk a o n h)), k4 D _ nD0 (sm D _ hD), hk, B2.kda k4 (B.kda (same_keep sm) hu), p4⟩
    · have e : xs.drop i = [] := List.drop_eq_nil_of_le (by omega)
      rw [e] at lp
      refine .inl ⟨st (by omega), q _ D H' lp (k1.trans fun a o n h => kk a o n h) B.ok (free_of k1 o1 nD) ⟨us, hD, hk, hu⟩⟩⟩
end
end DL

namespace DL
open PySem PySem.Spec PyProof.Rows L2 RK
/-! ### how readings are walked -/
theorem bIx_l {xs : List D} {j : Nat} {x : D} (h : xs[j]? = some x) : bIx (.lst xs) (.int (j : Nat)) = some x := by
  show (atI xs (j : Int)).or _ = some x
  rw [atI_nat h]
  rfl
theorem bIx_tp {xs : List D} {j : Nat} {x : D} (h : xs[j]? = some x) : bIx (.tup xs) (.int (j : Nat)) = some x := by
  show (atI xs (j : Int)).or _ = some x
  rw [atI_nat h]
  rfl
theorem bIx_s {z : Str} (hz : z.length ≤ sizeLine) {j : Nat} {c : Nat} (h : z.cps.toList[j]? = some c) : bIx (.str z) (.int (j : Nat)) = some (.str ⟨#[c]⟩) := by
  show (none : Option D).or ((if z.length ≤ sizeLine then (atI z.cps.toList (j : Int)).map (fun c => D.str ⟨#[c]⟩) else none).or _) = _
  rw [if_pos hz, atI_nat h]
  rfl
theorem allD_map (bs : List Bool) : allD [.lst (bs.map D.bl)] = some (.bl (bs.all id)) := by
  show (blsD (bs.map D.bl)).map _ = _
  rw [blsD_map]
  rfl
theorem anyD_map (bs : List Bool) : anyD [.lst (bs.map D.bl)] = some (.bl (bs.any id)) := by
  show (blsD (bs.map D.bl)).map _ = _
  rw [blsD_map]
  rfl
theorem sumD_map (bs : List Int) : sumD [.lst (bs.map D.int)] = some (.int bs.sum) := by
  show (intsD (bs.map D.int)).map _ = _
  rw [intsD_map]
  rfl
theorem allD_f {α : Type} (l : List α) (f : α → Bool) : allD [.lst (l.map fun a => D.bl (f a))] = some (.bl (l.all f)) := by
  have : (l.map fun a => D.bl (f a)) = (l.map f).map D.bl := by rw [List.map_map]; rfl
  rw [this, allD_map, List.all_map]
  rfl
theorem anyD_f {α : Type} (l : List α) (f : α → Bool) : anyD [.lst (l.map fun a => D.bl (f a))] = some (.bl (l.any f)) := by
  have : (l.map fun a => D.bl (f a)) = (l.map f).map D.bl := by rw [List.map_map]; rfl
  rw [this, anyD_map, List.any_map]
  rfl
theorem szM {n : Nat} (h : n ≤ 1000000) : n < sizeLine := Nat.lt_of_le_of_lt h (by rw [sizeLine_eq]; decide)
/-- a comprehension without a test, each answer one of many -/
theorem comp_all {α : Type} {g : TDG} {tt : TDT} {te : TDE} {P : D → Prop} {env : De} (enc : α → D) (R : α → D → Prop) : ∀ (l : List α) (acc : List D), (∀ a ∈ l, ∀ (Q : D → Prop) (Z : Prop), (∀ y, R a y → Q y) → g (enc a) env fun env' => tt env' fun b => if b = true then te env' Q else Z) → acc.length + l.length ≤ 1000000 →
    (∀ ys, Paired R l ys → P (.lst (acc ++ ys))) → dComp g tt te P env (l.map enc) acc
  | [], acc, _, _, q => by
    have := q [] .nil
    rw [List.append_nil] at this
    exact this
  | a :: l, acc, h, hl, q => h a List.mem_cons_self _ _ fun y hy => by
      refine ⟨szM (by simp at hl; omega), comp_all enc R l (acc ++ [y]) (fun b hb => h b (List.mem_cons_of_mem _ hb)) (by simp at hl ⊢; omega) fun ys hys => ?_⟩
      rw [List.append_assoc]
      exact q (y :: ys) (.cons hy hys)
/-- .. with one answer for each -/
theorem comp_map {α : Type} {g : TDG} {tt : TDT} {te : TDE} {P : D → Prop} {env : De} (enc f : α → D) : ∀ (l : List α) (acc : List D), (∀ a ∈ l, ∀ (Q : D → Prop) (Z : Prop), Q (f a) → g (enc a) env fun env' => tt env' fun b => if b = true then te env' Q else Z) → acc.length + l.length ≤ 1000000 →
    P (.lst (acc ++ l.map f)) → dComp g tt te P env (l.map enc) acc
  | [], acc, _, _, q => by
    rw [List.map_nil, List.append_nil] at q
    exact q
  | a :: l, acc, h, hl, q => h a List.mem_cons_self _ _ (by
      refine ⟨szM (by simp at hl; omega), comp_map enc f l (acc ++ [f a]) (fun b hb => h b (List.mem_cons_of_mem _ hb)) (by simp at hl ⊢; omega) ?_⟩
      rw [List.append_assoc]
      exact q)
/-- .. with a test -/
theorem comp_filter {α : Type} {g : TDG} {tt : TDT} {te : TDE} {P : D → Prop} {env : De} (enc f : α → D) (p : α → Bool) : ∀ (l : List α) (acc : List D), (∀ a ∈ l, ∀ (Q : D → Prop) (Z : Prop), (p a = true → Q (f a)) → (p a = false → Z) → g (enc a) env fun env' => tt env' fun b => if b = true then te env' Q else Z) → acc.length + l.length ≤ 1000000 →
    P (.lst (acc ++ (l.filter p).map f)) → dComp g tt te P env (l.map enc) acc
  | [], acc, _, _, q => by
    rw [List.filter_nil, List.map_nil, List.append_nil] at q
    exact q
  | a :: l, acc, h, hl, q => by
    refine h a List.mem_cons_self _ _ (fun hp => ⟨szM (by simp at hl; omega), comp_filter enc f p l (acc ++ [f a]) (fun b hb => h b (List.mem_cons_of_mem _ hb)) (by simp at hl ⊢; omega) ?_⟩) (fun hp => comp_filter enc f p l acc (fun b hb => h b (List.mem_cons_of_mem _ hb)) (by simp at hl ⊢; omega) ?_)
    · rw [List.filter_cons_of_pos hp, List.map_cons] at q
      rw [List.append_assoc]
      exact q
    · rw [List.filter_cons_of_neg (by rw [hp]; exact Bool.false_ne_true)] at q
      exact q
/-- a loop by what holds of the part that is walked -/
theorem loop_inv {α : Type} {g : TDG} {body : TDS} {P : DEnds} (enc : α → D) (l : List α) (I : List α → De → Prop)
    (step : ∀ (pre : List α) (a : α) (post : List α) (env : De), l = pre ++ a :: post → I pre env → ∀ k : De → Prop, (∀ env', I (pre ++ [a]) env' → k env') → g (enc a) env fun env' => body { nx := k, rt := P.rt, bk := P.nx, ct := k } env') (done : ∀ env, I l env → P.nx env) :
    ∀ (post pre : List α) (env : De), l = pre ++ post → I pre env → sLoop g body P (post.map enc) env
  | [], pre, env, e, h => by
    rw [List.append_nil] at e
    exact done env (e ▸ h)
  | a :: post, pre, env, e, h => step pre a post env e h _ fun env' h' => loop_inv enc l I step done post (pre ++ [a]) env' (by rw [List.append_assoc]; exact e) h'
theorem loop_all {α : Type} {g : TDG} {body : TDS} {P : DEnds} {env : De} (enc : α → D) (l : List α) (I : List α → De → Prop) (h0 : I [] env)
    (step : ∀ (pre : List α) (a : α) (post : List α) (env : De), l = pre ++ a :: post → I pre env → ∀ k : De → Prop, (∀ env', I (pre ++ [a]) env' → k env') → g (enc a) env fun env' => body { nx := k, rt := P.rt, bk := P.nx, ct := k } env') (done : ∀ env, I l env → P.nx env) :
    sLoop g body P (l.map enc) env := loop_inv enc l I step done l [] env rfl h0
/-- a range by the number of turns -/
theorem loop_rng {g : TDG} {body : TDS} {P : DEnds} {env : De} {lo : Int} {n : Nat} (I : Nat → De → Prop) (h0 : I 0 env)
    (step : ∀ (i : Nat) (env : De), i < n → I i env → ∀ k : De → Prop, (∀ env', I (i + 1) env' → k env') → g (.int (lo + (i : Nat))) env fun env' => body { nx := k, rt := P.rt, bk := P.nx, ct := k } env') (done : ∀ env, I n env → P.nx env) :
    sLoop g body P (rngD lo n) env := by
  unfold rngD
  refine loop_all (fun k : Nat => D.int (lo + (k : Nat))) (List.range n) (fun pre env => I pre.length env) h0 (fun pre a post env e h k hk => ?_) (fun env h => done env (by rw [List.length_range] at h; exact h))
  have hl : pre.length < n := by
    have := congrArg List.length e
    simp at this
    omega
  have ha : a = pre.length := by
    have h1 : (List.range n)[pre.length]? = some a := by rw [e]; simp
    rw [List.getElem?_range hl] at h1
    exact (Option.some.inj h1).symm
  rw [ha]
  exact step pre.length env hl h k fun env' h' => hk env' (by rw [List.length_append]; exact h')
/-! ### the helpers of the laws -/
def sp_of : DSp := fun ds P => (∃ xs, (ds = [.bag, .lst xs] ∨ ds = [.bag, .tup xs]) ∧ 1 ≤ xs.length ∧ xs.length ≤ 1000000 ∧ ∀ x ∈ xs, P x) ∨ (∃ z : Str, ds = [.bag, .str z] ∧ 1 ≤ z.length ∧ z.length ≤ 1000000 ∧ ∀ c ∈ z.cps.toList, P (.str ⟨#[c]⟩))
def d_of : TDS := (sRet (dO2 bIx (dV 1) (dCall sp_pull (aCons (dV 0) (aCons (dCa lenD (aCons (dV 1) aNil)) aNil)))))
theorem rd_of {ds : List D} {P : D → Prop} (h : sp_of ds P) : d_of (fin false P) (st 2 ds) := by
  rcases h with ⟨xs, h | h, l1, l2, q⟩ | ⟨z, rfl, l1, l2, q⟩
  · subst h
    simp only [d_of, dC, dV, dB, dO2, ob_some, dT, dAndT, dOrT, dNotT, dIf, dAndV, dOrV, dNotV, dChain, aNil, aCons, dTup, dLst, dCut, oNone, oSome, dRev, dNeg, dTru, dCa, dIs, dIsA, dCall, dCallK, sNil, sSeq, sNever, sBrk, sCont, sIf, sRet, sRetO, sRetE, sSet, sSetO, sDrop, sPar, sPar3, kn, enOf, owD, sAsg, gNm, gsNil, gsCons, gTp, sApp, sIns, sExt, sClr, sRev, sPut, sFrz, owAt, fin, st, iRng, iRngB, iSeq, lstD, tupD, sFor, dLc, dDc, wipeE, tYesD, dIndex, dSort, dDictZip, dMeth, dFld, dMk, List.map_cons, List.map_nil, List.length_cons, List.length_nil, List.replicate_succ, List.replicate_zero, List.cons_append, List.nil_append, List.append_nil, List.getElem?_cons_zero, List.getElem?_cons_succ, List.set_cons_zero, List.set_cons_succ, Option.bind_some, Option.map_some, Nat.reduceSub, Nat.reduceAdd, kwP, List.getD_cons_zero, List.getD_cons_succ, lenD]
    refine ⟨_, rfl, by omega, by omega, fun r r0 r1 => ?_⟩
    obtain ⟨j, rfl⟩ : ∃ j : Nat, r = (j : Int) := ⟨r.toNat, by omega⟩
    show ob (bIx (.lst xs) (.int (j : Nat))) P
    rw [bIx_l (List.getElem?_eq_getElem (by omega))]
    exact q _ (List.getElem_mem _)
  · subst h
    simp only [d_of, dC, dV, dB, dO2, ob_some, dT, dAndT, dOrT, dNotT, dIf, dAndV, dOrV, dNotV, dChain, aNil, aCons, dTup, dLst, dCut, oNone, oSome, dRev, dNeg, dTru, dCa, dIs, dIsA, dCall, dCallK, sNil, sSeq, sNever, sBrk, sCont, sIf, sRet, sRetO, sRetE, sSet, sSetO, sDrop, sPar, sPar3, kn, enOf, owD, sAsg, gNm, gsNil, gsCons, gTp, sApp, sIns, sExt, sClr, sRev, sPut, sFrz, owAt, fin, st, iRng, iRngB, iSeq, lstD, tupD, sFor, dLc, dDc, wipeE, tYesD, dIndex, dSort, dDictZip, dMeth, dFld, dMk, List.map_cons, List.map_nil, List.length_cons, List.length_nil, List.replicate_succ, List.replicate_zero, List.cons_append, List.nil_append, List.append_nil, List.getElem?_cons_zero, List.getElem?_cons_succ, List.set_cons_zero, List.set_cons_succ, Option.bind_some, Option.map_some, Nat.reduceSub, Nat.reduceAdd, kwP, List.getD_cons_zero, List.getD_cons_succ, lenD]
    refine ⟨_, rfl, by omega, by omega, fun r r0 r1 => ?_⟩
    obtain ⟨j, rfl⟩ : ∃ j : Nat, r = (j : Int) := ⟨r.toNat, by omega⟩
    show ob (bIx (.tup xs) (.int (j : Nat))) P
    rw [bIx_tp (List.getElem?_eq_getElem (by omega))]
    exact q _ (List.getElem_mem _)
  · have hz : z.length ≤ sizeLine := Nat.le_of_lt (szM l2)
    simp only [d_of, dC, dV, dB, dO2, ob_some, dT, dAndT, dOrT, dNotT, dIf, dAndV, dOrV, dNotV, dChain, aNil, aCons, dTup, dLst, dCut, oNone, oSome, dRev, dNeg, dTru, dCa, dIs, dIsA, dCall, dCallK, sNil, sSeq, sNever, sBrk, sCont, sIf, sRet, sRetO, sRetE, sSet, sSetO, sDrop, sPar, sPar3, kn, enOf, owD, sAsg, gNm, gsNil, gsCons, gTp, sApp, sIns, sExt, sClr, sRev, sPut, sFrz, owAt, fin, st, iRng, iRngB, iSeq, lstD, tupD, sFor, dLc, dDc, wipeE, tYesD, dIndex, dSort, dDictZip, dMeth, dFld, dMk, List.map_cons, List.map_nil, List.length_cons, List.length_nil, List.replicate_succ, List.replicate_zero, List.cons_append, List.nil_append, List.append_nil, List.getElem?_cons_zero, List.getElem?_cons_succ, List.set_cons_zero, List.set_cons_succ, Option.bind_some, Option.map_some, Nat.reduceSub, Nat.reduceAdd, kwP, List.getD_cons_zero, List.getD_cons_succ, lenD, if_pos hz]
    refine ⟨_, rfl, by omega, by omega, fun r r0 r1 => ?_⟩
    obtain ⟨j, rfl⟩ : ∃ j : Nat, r = (j : Int) := ⟨r.toNat, by omega⟩
    have hj : j < z.cps.toList.length := by rw [← str_len]; omega
    show ob (bIx (.str z) (.int (j : Nat))) P
    rw [bIx_s hz (List.getElem?_eq_getElem hj)]
    exact q _ (List.getElem_mem _)
/-- a new list, the same items in any order -/
def sp_mixed : DSp := fun ds P => ∃ xs, (ds = [.bag, .lst xs] ∨ ds = [.bag, .tup xs]) ∧ xs.length ≤ 100000 ∧ ∀ ys : List D, ys.Perm xs → P (.lst ys)
def d_mixed : TDS := (sSeq (sSetO 2 (dLst aNil))
  (sSeq (sFor (iSeq (dV 1)) (gNm 3) (sIns 2 (dCall sp_pull (aCons (dV 0) (aCons (dO2 bAdd (dCa lenD (aCons (dB 2) aNil)) (dC (.int 1))) aNil))) (dV 3)))
  (sRetO 2)))
theorem rd_mixed {ds : List D} {P : D → Prop} (h : sp_mixed ds P) : d_mixed (fin true P) (st 4 ds) := by
  obtain ⟨xs, h, l2, q⟩ := h
  have loop : ∀ y : D, sLoop (gNm 3) (sIns 2 (dCall sp_pull (aCons (dV 0) (aCons (dO2 bAdd (dCa lenD (aCons (dB 2) aNil)) (dC (.int 1))) aNil))) (dV 3)) { fin true P with nx := sRetO 2 (fin true P) } xs [.fz .bag, .fz y, .ow [], .no] := fun y => by
    have := loop_all (g := gNm 3) (body := sIns 2 (dCall sp_pull (aCons (dV 0) (aCons (dO2 bAdd (dCa lenD (aCons (dB 2) aNil)) (dC (.int 1))) aNil))) (dV 3)) (P := { fin true P with nx := sRetO 2 (fin true P) }) (env := [.fz .bag, .fz y, .ow [], .no]) id xs (fun pre env => ∃ ys e, env = [.fz .bag, .fz y, .ow ys, e] ∧ ys.Perm pre) ⟨[], .no, rfl, .nil⟩ (fun pre a post env e h k hk => ?_) (fun env h => ?_)
    · rw [List.map_id] at this
      exact this
    · obtain ⟨ys, e2, rfl, hp⟩ := h
      have hl : ys.length < 100001 := by
        have h1 := hp.length_eq
        have h2 := congrArg List.length e
        simp at h2
        omega
      simp only [dC, dV, dB, dO2, ob_some, dT, dAndT, dOrT, dNotT, dIf, dAndV, dOrV, dNotV, dChain, aNil, aCons, dTup, dLst, dCut, oNone, oSome, dRev, dNeg, dTru, dCa, dIs, dIsA, dCall, dCallK, sNil, sSeq, sNever, sBrk, sCont, sIf, sRet, sRetO, sRetE, sSet, sSetO, sDrop, sPar, sPar3, kn, enOf, owD, sAsg, gNm, gsNil, gsCons, gTp, sApp, sIns, sExt, sClr, sRev, sPut, sFrz, owAt, fin, st, iRng, iRngB, iSeq, lstD, tupD, sFor, dLc, dDc, wipeE, tYesD, dIndex, dSort, dDictZip, dMeth, dFld, dMk, List.map_cons, List.map_nil, List.length_cons, List.length_nil, List.replicate_succ, List.replicate_zero, List.cons_append, List.nil_append, List.append_nil, List.getElem?_cons_zero, List.getElem?_cons_succ, List.set_cons_zero, List.set_cons_succ, Option.bind_some, Option.map_some, Nat.reduceSub, Nat.reduceAdd, kwP, List.getD_cons_zero, List.getD_cons_succ, lenD, bAdd, iI0, Option.some_or]
      refine ⟨_, rfl, by omega, by omega, fun r r0 r1 => ⟨szM (by omega), r0, by omega, hk _ ⟨_, _, rfl, ?_⟩⟩⟩
      have e3 : ys = ys.take r.toNat ++ ys.drop r.toNat := (List.take_append_drop _ _).symm
      rw [List.append_assoc]
      refine (List.perm_middle).trans ?_
      show (a :: (ys.take r.toNat ++ ys.drop r.toNat)).Perm (pre ++ [a])
      rw [← e3]
      exact (List.Perm.cons a hp).trans (List.perm_append_singleton a pre).symm
    · obtain ⟨ys, e2, rfl, hp⟩ := h
      simp only [dC, dV, dB, dO2, ob_some, dT, dAndT, dOrT, dNotT, dIf, dAndV, dOrV, dNotV, dChain, aNil, aCons, dTup, dLst, dCut, oNone, oSome, dRev, dNeg, dTru, dCa, dIs, dIsA, dCall, dCallK, sNil, sSeq, sNever, sBrk, sCont, sIf, sRet, sRetO, sRetE, sSet, sSetO, sDrop, sPar, sPar3, kn, enOf, owD, sAsg, gNm, gsNil, gsCons, gTp, sApp, sIns, sExt, sClr, sRev, sPut, sFrz, owAt, fin, st, iRng, iRngB, iSeq, lstD, tupD, sFor, dLc, dDc, wipeE, tYesD, dIndex, dSort, dDictZip, dMeth, dFld, dMk, List.map_cons, List.map_nil, List.length_cons, List.length_nil, List.replicate_succ, List.replicate_zero, List.cons_append, List.nil_append, List.append_nil, List.getElem?_cons_zero, List.getElem?_cons_succ, List.set_cons_zero, List.set_cons_succ, Option.bind_some, Option.map_some, Nat.reduceSub, Nat.reduceAdd, kwP, List.getD_cons_zero, List.getD_cons_succ]
      exact q ys hp
  rcases h with h | h
  · subst h
    simp only [d_mixed, dC, dV, dB, dO2, ob_some, dT, dAndT, dOrT, dNotT, dIf, dAndV, dOrV, dNotV, dChain, aNil, aCons, dTup, dLst, dCut, oNone, oSome, dRev, dNeg, dTru, dCa, dIs, dIsA, dCall, dCallK, sNil, sSeq, sNever, sBrk, sCont, sIf, sRet, sRetO, sRetE, sSet, sSetO, sDrop, sPar, sPar3, kn, enOf, owD, sAsg, gNm, gsNil, gsCons, gTp, sApp, sIns, sExt, sClr, sRev, sPut, sFrz, owAt, fin, st, iRng, iRngB, iSeq, lstD, tupD, sFor, dLc, dDc, wipeE, tYesD, dIndex, dSort, dDictZip, dMeth, dFld, dMk, List.map_cons, List.map_nil, List.length_cons, List.length_nil, List.replicate_succ, List.replicate_zero, List.cons_append, List.nil_append, List.append_nil, List.getElem?_cons_zero, List.getElem?_cons_succ, List.set_cons_zero, List.set_cons_succ, Option.bind_some, Option.map_some, Nat.reduceSub, Nat.reduceAdd, kwP, List.getD_cons_zero, List.getD_cons_succ]
    exact ⟨Nat.zero_le _, .inl (loop _)⟩
  · subst h
    simp only [d_mixed, dC, dV, dB, dO2, ob_some, dT, dAndT, dOrT, dNotT, dIf, dAndV, dOrV, dNotV, dChain, aNil, aCons, dTup, dLst, dCut, oNone, oSome, dRev, dNeg, dTru, dCa, dIs, dIsA, dCall, dCallK, sNil, sSeq, sNever, sBrk, sCont, sIf, sRet, sRetO, sRetE, sSet, sSetO, sDrop, sPar, sPar3, kn, enOf, owD, sAsg, gNm, gsNil, gsCons, gTp, sApp, sIns, sExt, sClr, sRev, sPut, sFrz, owAt, fin, st, iRng, iRngB, iSeq, lstD, tupD, sFor, dLc, dDc, wipeE, tYesD, dIndex, dSort, dDictZip, dMeth, dFld, dMk, List.map_cons, List.map_nil, List.length_cons, List.length_nil, List.replicate_succ, List.replicate_zero, List.cons_append, List.nil_append, List.append_nil, List.getElem?_cons_zero, List.getElem?_cons_succ, List.set_cons_zero, List.set_cons_succ, Option.bind_some, Option.map_some, Nat.reduceSub, Nat.reduceAdd, kwP, List.getD_cons_zero, List.getD_cons_succ]
    exact ⟨Nat.zero_le _, .inr (.inl (loop _))⟩
end DL

namespace DL
open PySem PySem.Spec PyProof.Rows L2 RK
/-! ### rectangles -/
def rectD (p : R) : D := .tup [.int p.l, .int p.t, .int p.r, .int p.b]
def sp_rectangle : DSp := fun ds P => ∃ c : Int, ds = [.bag, .int c] ∧ 1 ≤ c ∧ c ≤ 100000000 ∧ ∀ x y x2 y2 : Int, -4 ≤ x → x ≤ 4 → -4 ≤ y → y ≤ 4 → x < x2 → x2 ≤ x + 4 → y < y2 → y2 ≤ y + 4 → P (rectD ⟨c * x, c * y, c * x2, c * y2⟩)
def d_rectangle : TDS := (sSeq (sPar 2 3 false false (dO2 bSub (dCall sp_pull (aCons (dV 0) (aCons (dC (.int 9)) aNil))) (dC (.int 4))) (dO2 bSub (dCall sp_pull (aCons (dV 0) (aCons (dC (.int 9)) aNil))) (dC (.int 4))))
  (sSeq (sPar 4 5 false false (dO2 bAdd (dO2 bAdd (dV 2) (dC (.int 1))) (dCall sp_pull (aCons (dV 0) (aCons (dC (.int 4)) aNil)))) (dO2 bAdd (dO2 bAdd (dV 3) (dC (.int 1))) (dCall sp_pull (aCons (dV 0) (aCons (dC (.int 4)) aNil)))))
  (sRet (dTup (aCons (dO2 bMul (dV 1) (dV 2)) (aCons (dO2 bMul (dV 1) (dV 3)) (aCons (dO2 bMul (dV 1) (dV 4)) (aCons (dO2 bMul (dV 1) (dV 5)) aNil))))))))
theorem rd_rectangle {ds : List D} {P : D → Prop} (h : sp_rectangle ds P) : d_rectangle (fin true P) (st 6 ds) := by
  obtain ⟨c, rfl, c1, c2, q⟩ := h
  simp only [d_rectangle, dC, dV, dB, dO2, ob_some, dT, dAndT, dOrT, dNotT, dIf, dAndV, dOrV, dNotV, dChain, aNil, aCons, dTup, dLst, dCut, oNone, oSome, dRev, dNeg, dTru, dCa, dIs, dIsA, dCall, dCallK, sNil, sSeq, sNever, sBrk, sCont, sIf, sRet, sRetO, sRetE, sSet, sSetO, sDrop, sPar, sPar3, kn, enOf, owD, sAsg, gNm, gsNil, gsCons, gTp, sApp, sIns, sExt, sClr, sRev, sPut, sFrz, owAt, fin, st, iRng, iRngB, iSeq, lstD, tupD, sFor, dLc, dDc, wipeE, tYesD, dIndex, dSort, dDictZip, dMeth, dFld, dMk, List.map_cons, List.map_nil, List.length_cons, List.length_nil, List.replicate_succ, List.replicate_zero, List.cons_append, List.nil_append, List.append_nil, List.getElem?_cons_zero, List.getElem?_cons_succ, List.set_cons_zero, List.set_cons_succ, Option.bind_some, Option.map_some, Nat.reduceSub, Nat.reduceAdd, kwP, List.getD_cons_zero, List.getD_cons_succ, bSub, bAdd, iI0, Option.some_or]
  refine ⟨_, rfl, by decide, by decide, fun r r0 r1 => ⟨_, rfl, by decide, by decide, fun s s0 s1 => ?_⟩⟩
  refine ⟨_, rfl, by decide, by decide, fun u u0 u1 => ⟨_, rfl, by decide, by decide, fun v v0 v1 => ?_⟩⟩
  have e : ∀ z : Int, bMul (.int c) (.int z) = some (.int (c * z)) := fun z => by
    show (if decide _ = true then some (D.int (c * z)) else none).or _ = _
    rw [if_pos (decide_eq_true (.inl ⟨by omega, by omega⟩))]
    rfl
  simp only [dC, dV, dB, dO2, ob_some, dT, dAndT, dOrT, dNotT, dIf, dAndV, dOrV, dNotV, dChain, aNil, aCons, dTup, dLst, dCut, oNone, oSome, dRev, dNeg, dTru, dCa, dIs, dIsA, dCall, dCallK, sNil, sSeq, sNever, sBrk, sCont, sIf, sRet, sRetO, sRetE, sSet, sSetO, sDrop, sPar, sPar3, kn, enOf, owD, sAsg, gNm, gsNil, gsCons, gTp, sApp, sIns, sExt, sClr, sRev, sPut, sFrz, owAt, fin, st, iRng, iRngB, iSeq, lstD, tupD, sFor, dLc, dDc, wipeE, tYesD, dIndex, dSort, dDictZip, dMeth, dFld, dMk, List.map_cons, List.map_nil, List.length_cons, List.length_nil, List.replicate_succ, List.replicate_zero, List.cons_append, List.nil_append, List.append_nil, List.getElem?_cons_zero, List.getElem?_cons_succ, List.set_cons_zero, List.set_cons_succ, Option.bind_some, Option.map_some, Nat.reduceSub, Nat.reduceAdd, kwP, List.getD_cons_zero, List.getD_cons_succ, e, bSub, bAdd, iI0, Option.some_or]
  exact ⟨by decide, q (r - 4) (s - 4) (r - 4 + 1 + u) (s - 4 + 1 + v) (by omega) (by omega) (by omega) (by omega) (by omega) (by omega) (by omega) (by omega)⟩
/-! ### names -/
theorem abc_get {j : Nat} (h : j < 26) : abc.cps.toList[j]? = some (97 + j) := by
  rw [abc_codes, List.getElem?_range' h, Nat.one_mul]
def sp_names : DSp := fun ds P => ∃ n : Int, ds = [.bag, .int n] ∧ 0 ≤ n ∧ n ≤ 26 ∧ ∀ zs : List Str, zs.length = n.toNat → (∀ z ∈ zs, NameOk z) → zs.Nodup → P (.lst (zs.map D.str))
def d_names : TDS := (sSeq (sAsg (dTup (aCons (dC (.str "abcdefghijklmnopqrstuvwxyz")) (aCons (dC (.str "")) aNil))) (gTp 2 (gsCons (gNm 2) (gsCons (gNm 3) gsNil))))
  (sSeq (sFor (iRng (aCons (dCall sp_pull (aCons (dV 0) (aCons (dC (.int 6)) aNil))) aNil)) (gNm 4) (sSet 3 (dO2 bAdd (dV 3) (dCall sp_of (aCons (dV 0) (aCons (dV 2) aNil))))))
  (sSeq (sIf (dT (dO2 (bEqN false) (dCall sp_pull (aCons (dV 0) (aCons (dC (.int 4)) aNil))) (dC (.int 0)))) (sRet (dLc (iRng (aCons (dV 1) aNil)) (gNm 4) tYesD (dO2 bMul (dO2 bIx (dV 2) (dO2 bMod (dO2 bAdd (dCa lenD (aCons (dV 3) aNil)) (dO2 bMul (dC (.int 7)) (dV 4))) (dC (.int 26)))) (dO2 bAdd (dC (.int 1)) (dO2 bMod (dO2 bAdd (dCa lenD (aCons (dV 3) aNil)) (dO2 bMul (dC (.int 5)) (dV 4))) (dC (.int 4))))) [4])) sNil)
  (sSeq (sAsg (dTup (aCons (dCall sp_pull (aCons (dV 0) (aCons (dO2 bAdd (dCa lenD (aCons (dV 3) aNil)) (dC (.int 1))) aNil))) (aCons (dCall sp_pull (aCons (dV 0) (aCons (dC (.int 26)) aNil))) (aCons (dCall sp_of (aCons (dV 0) (aCons (dLst (aCons (dC (.int 1)) (aCons (dC (.int 3)) (aCons (dC (.int 5)) (aCons (dC (.int 7)) (aCons (dC (.int 9)) aNil)))))) aNil))) aNil)))) (gTp 3 (gsCons (gNm 5) (gsCons (gNm 6) (gsCons (gNm 7) gsNil)))))
  (sRet (dLc (iRng (aCons (dV 1) aNil)) (gNm 4) tYesD (dO2 bAdd (dO2 bAdd (dCut cutA (dV 3) oNone (oSome (dV 5))) (dO2 bIx (dV 2) (dO2 bMod (dO2 bAdd (dV 6) (dO2 bMul (dV 7) (dV 4))) (dC (.int 26))))) (dCut cutA (dV 3) (oSome (dV 5)) oNone)) [4]))))))
theorem nodup_map_range {β : Type} {n : Nat} {f : Nat → β} (h : ∀ i j, i < n → j < n → f i = f j → i = j) : ((List.range n).map f).Nodup := by
  rw [List.nodup_iff_pairwise_ne, List.pairwise_map]
  refine List.Pairwise.imp_of_mem (fun {a b} ha hb hab e => ?_) (List.nodup_iff_pairwise_ne.mp List.nodup_range)
  exact hab (h a b (List.mem_range.mp ha) (List.mem_range.mp hb) e)
theorem bMul_i {i j : Int} (h : -(2 ^ 64) < i) (h' : i < 2 ^ 64) : bMul (.int i) (.int j) = some (.int (i * j)) := by
  show (if decide _ = true then some (D.int (i * j)) else none).or _ = _
  rw [if_pos (decide_eq_true (.inl ⟨h, h'⟩))]
  rfl
theorem bMod_i {i j : Int} (h : 0 < j) : bMod (.int i) (.int j) = some (.int (i % j)) := by
  show (if decide _ = true then some (D.int (i % j)) else none) = _
  rw [if_pos (decide_eq_true h)]
theorem bAdd_i (i j : Int) : bAdd (.int i) (.int j) = some (.int (i + j)) := rfl
theorem bAdd_s {x y : Str} (h : x.length + y.length ≤ sizeLine) : bAdd (.str x) (.str y) = some (.str (x ++ y)) := by
  show (none : Option D).or ((if x.length + y.length ≤ sizeLine then some (D.str (x ++ y)) else none).or _) = _
  rw [if_pos h]
  rfl
theorem bEq_i (i j : Int) : bEqN false (.int i) (.int j) = some (.bl (decide (i = j))) := by
  show (some (D.bl (false ^^ decide (i = j)))).or _ = _
  rw [Bool.false_xor]
  rfl
theorem bIx_abc {j : Nat} (h : j < 26) : bIx (.str abc) (.int (j : Nat)) = some (.str ⟨#[97 + j]⟩) := bIx_s (by rw [abc_len]; exact Nat.le_of_lt (szM (by decide))) (abc_get h)
theorem rd_names {ds : List D} {P : D → Prop} (h : sp_names ds P) : d_names (fin true P) (st 8 ds) := by
  obtain ⟨n, rfl, n0, n1, q⟩ := h
  simp only [d_names, dC, dV, dB, dO2, ob_some, dT, dAndT, dOrT, dNotT, dIf, dAndV, dOrV, dNotV, dChain, aNil, aCons, dTup, dLst, dCut, oNone, oSome, dRev, dNeg, dTru, dCa, dIs, dIsA, dCall, dCallK, sNil, sSeq, sNever, sBrk, sCont, sIf, sRet, sRetO, sRetE, sSet, sSetO, sDrop, sPar, sPar3, kn, enOf, owD, sAsg, gNm, gsNil, gsCons, gTp, sApp, sIns, sExt, sClr, sRev, sPut, sFrz, owAt, fin, st, iRng, iRngB, iSeq, lstD, tupD, sFor, dLc, dDc, wipeE, tYesD, dIndex, dSort, dDictZip, dMeth, dFld, dMk, List.map_cons, List.map_nil, List.length_cons, List.length_nil, List.replicate_succ, List.replicate_zero, List.cons_append, List.nil_append, List.append_nil, List.getElem?_cons_zero, List.getElem?_cons_succ, List.set_cons_zero, List.set_cons_succ, Option.bind_some, Option.map_some, Nat.reduceSub, Nat.reduceAdd, kwP, List.getD_cons_zero, List.getD_cons_succ]
  refine ⟨by decide, trivial, trivial, ⟨_, rfl, by decide, by decide, fun r r0 r1 => ⟨by omega, by omega, ?_⟩⟩⟩
  refine loop_rng (fun i env => ∃ e4 bs, env = [.fz .bag, .fz (.int n), .fz (.str abc), .fz (.str bs), e4, .no, .no, .no] ∧ bs.length = i ∧ ∀ c ∈ bs.cps.toList, Low c) ⟨.no, "", rfl, by decide +kernel, by intro c hc; exact absurd hc (by decide +kernel +revert)⟩ (fun i env hi h k hk => ?_) (fun env h => ?_)
  · obtain ⟨e4, bs, rfl, hl, hc⟩ := h
    simp only [dC, dV, dB, dO2, ob_some, dT, dAndT, dOrT, dNotT, dIf, dAndV, dOrV, dNotV, dChain, aNil, aCons, dTup, dLst, dCut, oNone, oSome, dRev, dNeg, dTru, dCa, dIs, dIsA, dCall, dCallK, sNil, sSeq, sNever, sBrk, sCont, sIf, sRet, sRetO, sRetE, sSet, sSetO, sDrop, sPar, sPar3, kn, enOf, owD, sAsg, gNm, gsNil, gsCons, gTp, sApp, sIns, sExt, sClr, sRev, sPut, sFrz, owAt, fin, st, iRng, iRngB, iSeq, lstD, tupD, sFor, dLc, dDc, wipeE, tYesD, dIndex, dSort, dDictZip, dMeth, dFld, dMk, List.map_cons, List.map_nil, List.length_cons, List.length_nil, List.replicate_succ, List.replicate_zero, List.cons_append, List.nil_append, List.append_nil, List.getElem?_cons_zero, List.getElem?_cons_succ, List.set_cons_zero, List.set_cons_succ, Option.bind_some, Option.map_some, Nat.reduceSub, Nat.reduceAdd, kwP, List.getD_cons_zero, List.getD_cons_succ]
    refine .inr ⟨abc, rfl, by rw [abc_len]; decide, by rw [abc_len]; decide, fun c hm => ?_⟩
    dsimp only
    rw [bAdd_s (by rw [one_len, hl]; exact Nat.le_of_lt (szM (by omega)))]
    refine hk _ ⟨_, _, rfl, ?_, fun c' hc' => ?_⟩
    · rw [str_len, app_codes, List.length_append, ← str_len, hl]
      rfl
    · rw [app_codes] at hc'
      rcases List.mem_append.mp hc' with h | h
      · exact hc c' h
      · have h := List.mem_singleton.mp h
        subst h
        exact abc_mem.mp hm
  · obtain ⟨e4, bs, rfl, hl, hc⟩ := h
    have hb5 : bs.length ≤ 5 := by omega
    have hbs : bs.length ≤ sizeLine := Nat.le_of_lt (szM (by omega))
    simp only [dC, dV, dB, dO2, ob_some, dT, dAndT, dOrT, dNotT, dIf, dAndV, dOrV, dNotV, dChain, aNil, aCons, dTup, dLst, dCut, oNone, oSome, dRev, dNeg, dTru, dCa, dIs, dIsA, dCall, dCallK, sNil, sSeq, sNever, sBrk, sCont, sIf, sRet, sRetO, sRetE, sSet, sSetO, sDrop, sPar, sPar3, kn, enOf, owD, sAsg, gNm, gsNil, gsCons, gTp, sApp, sIns, sExt, sClr, sRev, sPut, sFrz, owAt, fin, st, iRng, iRngB, iSeq, lstD, tupD, sFor, dLc, dDc, wipeE, tYesD, dIndex, dSort, dDictZip, dMeth, dFld, dMk, List.map_cons, List.map_nil, List.length_cons, List.length_nil, List.replicate_succ, List.replicate_zero, List.cons_append, List.nil_append, List.append_nil, List.getElem?_cons_zero, List.getElem?_cons_succ, List.set_cons_zero, List.set_cons_succ, Option.bind_some, Option.map_some, Nat.reduceSub, Nat.reduceAdd, kwP, List.getD_cons_zero, List.getD_cons_succ, lenD, if_pos hbs, bEq_i, bAdd_i]
    refine ⟨_, rfl, by decide, by decide, fun r2 _ _ => ite2 (fun c4 => ?_) (fun c4 => ?_)⟩
    · -- one letter, again and again
      refine ⟨by omega, by omega, ?_⟩
      have hm : ∀ k : Nat, ((bs.length : Int) + 7 * (0 + (k : Nat))) % 26 = ((bs.length + 7 * k) % 26 : Nat) := fun k => by omega
      have hm2 : ∀ k : Nat, 1 + ((bs.length : Int) + 5 * (0 + (k : Nat))) % 4 = ((1 + (bs.length + 5 * k) % 4 : Nat) : Int) := fun k => by omega
      refine comp_map (fun k : Nat => D.int (0 + (k : Nat))) (fun k => D.str (PySem.Txt.mul ⟨#[97 + (bs.length + 7 * k) % 26]⟩ ((1 + (bs.length + 5 * k) % 4 : Nat) : Int))) (List.range n.toNat) [] (fun k hk Q Z hQ => ?_) (by simp; omega) ?_
      · simp only [dC, dV, dB, dO2, ob_some, dT, dAndT, dOrT, dNotT, dIf, dAndV, dOrV, dNotV, dChain, aNil, aCons, dTup, dLst, dCut, oNone, oSome, dRev, dNeg, dTru, dCa, dIs, dIsA, dCall, dCallK, sNil, sSeq, sNever, sBrk, sCont, sIf, sRet, sRetO, sRetE, sSet, sSetO, sDrop, sPar, sPar3, kn, enOf, owD, sAsg, gNm, gsNil, gsCons, gTp, sApp, sIns, sExt, sClr, sRev, sPut, sFrz, owAt, fin, st, iRng, iRngB, iSeq, lstD, tupD, sFor, dLc, dDc, wipeE, tYesD, dIndex, dSort, dDictZip, dMeth, dFld, dMk, List.map_cons, List.map_nil, List.length_cons, List.length_nil, List.replicate_succ, List.replicate_zero, List.cons_append, List.nil_append, List.append_nil, List.getElem?_cons_zero, List.getElem?_cons_succ, List.set_cons_zero, List.set_cons_succ, Option.bind_some, Option.map_some, Nat.reduceSub, Nat.reduceAdd, kwP, List.getD_cons_zero, List.getD_cons_succ, lenD, if_pos hbs, bAdd_i, bMod_i (show (0 : Int) < 26 by decide), bMod_i (show (0 : Int) < 4 by decide), bMul_i (show (-(2 ^ 64) : Int) < 7 by decide) (by decide), bMul_i (show (-(2 ^ 64) : Int) < 5 by decide) (by decide), hm, hm2, bIx_abc (Nat.mod_lt _ (by decide)), if_true]
        have e : bMul (.str ⟨#[97 + (bs.length + 7 * k) % 26]⟩) (.int ((1 + (bs.length + 5 * k) % 4 : Nat) : Int)) = some (.str (PySem.Txt.mul ⟨#[97 + (bs.length + 7 * k) % 26]⟩ ((1 + (bs.length + 5 * k) % 4 : Nat) : Int))) := by
          show (none : Option D).or ((none : Option D).or (if 1 ≤ ((1 + (bs.length + 5 * k) % 4 : Nat) : Int) ∧ ((1 + (bs.length + 5 * k) % 4 : Nat) : Int) ≤ 1000 then some _ else none)) = _
          rw [if_pos ⟨by omega, by omega⟩]
          rfl
        rw [e]
        exact hQ
      · rw [List.nil_append, show (fun k => D.str (PySem.Txt.mul ⟨#[97 + (bs.length + 7 * k) % 26]⟩ ((1 + (bs.length + 5 * k) % 4 : Nat) : Int))) = D.str ∘ fun k => PySem.Txt.mul ⟨#[97 + (bs.length + 7 * k) % 26]⟩ ((1 + (bs.length + 5 * k) % 4 : Nat) : Int) from rfl, ← List.map_map]
        refine q _ (by simp) (fun z hz => ?_) (nodup_map_range fun i j hi hj e => ?_)
        · obtain ⟨k, _, rfl⟩ := List.mem_map.mp hz
          obtain ⟨m, h1, h2⟩ := mul_codes (97 + (bs.length + 7 * k) % 26) (1 + (bs.length + 5 * k) % 4) (by omega)
          have hl2 : (PySem.Txt.mul ⟨#[97 + (bs.length + 7 * k) % 26]⟩ ((1 + (bs.length + 5 * k) % 4 : Nat) : Int)).length = m := by rw [str_len, h1, List.length_replicate]
          refine ⟨by omega, by omega, fun c hc => ?_⟩
          rw [h1] at hc
          have := (List.mem_replicate.mp hc).2
          unfold Low
          omega
        · obtain ⟨m, h1, h2⟩ := mul_codes (97 + (bs.length + 7 * i) % 26) (1 + (bs.length + 5 * i) % 4) (by omega)
          obtain ⟨m2, h3, h4⟩ := mul_codes (97 + (bs.length + 7 * j) % 26) (1 + (bs.length + 5 * j) % 4) (by omega)
          have e2 : List.replicate m (97 + (bs.length + 7 * i) % 26) = List.replicate m2 (97 + (bs.length + 7 * j) % 26) := by rw [← h1, ← h3, e]
          have e3 : (97 + (bs.length + 7 * i) % 26) ∈ List.replicate m2 (97 + (bs.length + 7 * j) % 26) := by rw [← e2]; exact List.mem_replicate.mpr ⟨by omega, rfl⟩
          have := (List.mem_replicate.mp e3).2
          omega
    · refine ⟨_, rfl, by omega, by omega, fun sp s0 s1 => ⟨_, rfl, by decide, by decide, fun fi f0 f1 => ⟨by decide, .inl ⟨_, .inl rfl, by decide, by decide, fun x hx => ?_⟩⟩⟩⟩
      obtain ⟨w, rfl, hw⟩ : ∃ w : Nat, x = .int (w : Int) ∧ (w = 1 ∨ w = 3 ∨ w = 5 ∨ w = 7 ∨ w = 9) := by
        simp only [List.mem_cons, List.not_mem_nil, or_false] at hx
        rcases hx with rfl | rfl | rfl | rfl | rfl
        · exact ⟨1, rfl, by omega⟩
        · exact ⟨3, rfl, by omega⟩
        · exact ⟨5, rfl, by omega⟩
        · exact ⟨7, rfl, by omega⟩
        · exact ⟨9, rfl, by omega⟩
      obtain ⟨sp, rfl⟩ : ∃ j : Nat, sp = (j : Int) := ⟨sp.toNat, by omega⟩
      obtain ⟨fi, rfl⟩ : ∃ j : Nat, fi = (j : Int) := ⟨fi.toNat, by omega⟩
      refine ⟨by decide, trivial, trivial, by omega, by omega, ?_⟩
      have hm : ∀ k : Nat, ((fi : Int) + (w : Int) * (0 + (k : Nat))) % 26 = ((fi + w * k) % 26 : Nat) := fun k => by
        rw [Int.zero_add]
        norm_cast
      have c1 : cutA (.str bs) none (some (sp : Int)) = some (.str (cutS bs none (some (sp : Int)))) := if_pos hbs
      have c2 : cutA (.str bs) (some (sp : Int)) none = some (.str (cutS bs (some (sp : Int)) none)) := if_pos hbs
      have k1 : (cutS bs none (some (sp : Int))).cps.toList = bs.cps.toList.take sp := by
        rw [cut_codes, HT.sIx_none, HT.sIx_nat, List.drop_zero, Nat.sub_zero]
        exact congrArg (fun m => List.take m bs.cps.toList) (by omega)
      have k2 : (cutS bs (some (sp : Int)) none).cps.toList = bs.cps.toList.drop sp := by
        rw [cut_codes, HT.sIx_none, HT.sIx_nat]
        have : min sp bs.length = sp := by omega
        rw [this]
        exact List.take_of_length_le (by rw [List.length_drop, ← str_len]; exact Nat.le_refl _)
      have l1 : (cutS bs none (some (sp : Int))).length = sp := by rw [str_len, k1, List.length_take, ← str_len]; omega
      have l2 : (cutS bs (some (sp : Int)) none).length = bs.length - sp := by rw [str_len, k2, List.length_drop, ← str_len]
      have codes : ∀ k : Nat, (cutS bs none (some (sp : Int)) ++ ⟨#[97 + (fi + w * k) % 26]⟩ ++ cutS bs (some (sp : Int)) none).cps.toList = bs.cps.toList.take sp ++ [97 + (fi + w * k) % 26] ++ bs.cps.toList.drop sp := fun k => by
        rw [app_codes, app_codes, k1, k2]
      refine comp_map (fun k : Nat => D.int (0 + (k : Nat))) (fun k => D.str (cutS bs none (some (sp : Int)) ++ ⟨#[97 + (fi + w * k) % 26]⟩ ++ cutS bs (some (sp : Int)) none)) (List.range n.toNat) [] (fun k hk Q Z hQ => ?_) (by simp; omega) ?_
      · simp only [dC, dV, dB, dO2, ob_some, dT, dAndT, dOrT, dNotT, dIf, dAndV, dOrV, dNotV, dChain, aNil, aCons, dTup, dLst, dCut, oNone, oSome, dRev, dNeg, dTru, dCa, dIs, dIsA, dCall, dCallK, sNil, sSeq, sNever, sBrk, sCont, sIf, sRet, sRetO, sRetE, sSet, sSetO, sDrop, sPar, sPar3, kn, enOf, owD, sAsg, gNm, gsNil, gsCons, gTp, sApp, sIns, sExt, sClr, sRev, sPut, sFrz, owAt, fin, st, iRng, iRngB, iSeq, lstD, tupD, sFor, dLc, dDc, wipeE, tYesD, dIndex, dSort, dDictZip, dMeth, dFld, dMk, List.map_cons, List.map_nil, List.length_cons, List.length_nil, List.replicate_succ, List.replicate_zero, List.cons_append, List.nil_append, List.append_nil, List.getElem?_cons_zero, List.getElem?_cons_succ, List.set_cons_zero, List.set_cons_succ, Option.bind_some, Option.map_some, Nat.reduceSub, Nat.reduceAdd, kwP, List.getD_cons_zero, List.getD_cons_succ, c1, c2, bMul_i (show (-(2 ^ 64) : Int) < (w : Int) by omega) (show (w : Int) < 2 ^ 64 by omega), bAdd_i, bMod_i (show (0 : Int) < 26 by decide), hm, bIx_abc (Nat.mod_lt _ (by decide)), if_true]
        rw [bAdd_s (by rw [one_len, l1]; exact Nat.le_of_lt (szM (by omega))), ob_some, bAdd_s (by rw [str_len, app_codes, List.length_append, ← str_len, l1, l2]; exact Nat.le_of_lt (szM (by show sp + 1 + (bs.length - sp) ≤ _; omega)))]
        exact hQ
      · rw [List.nil_append, show (fun k => D.str (cutS bs none (some (sp : Int)) ++ ⟨#[97 + (fi + w * k) % 26]⟩ ++ cutS bs (some (sp : Int)) none)) = D.str ∘ fun k => cutS bs none (some (sp : Int)) ++ ⟨#[97 + (fi + w * k) % 26]⟩ ++ cutS bs (some (sp : Int)) none from rfl, ← List.map_map]
        refine q _ (by simp) (fun z hz => ?_) (nodup_map_range fun i j hi hj e => ?_)
        · obtain ⟨k, _, rfl⟩ := List.mem_map.mp hz
          have hl2 : (cutS bs none (some (sp : Int)) ++ ⟨#[97 + (fi + w * k) % 26]⟩ ++ cutS bs (some (sp : Int)) none).length = bs.length + 1 := by
            rw [str_len, codes, List.length_append, List.length_append, List.length_take, List.length_drop, ← str_len]
            simp
            omega
          refine ⟨by omega, by omega, fun c hc' => ?_⟩
          rw [codes, List.append_assoc] at hc'
          rcases List.mem_append.mp hc' with h | h
          · exact hc c (List.mem_of_mem_take h)
          · rcases List.mem_append.mp h with h | h
            · have := List.mem_singleton.mp h
              unfold Low
              omega
            · exact hc c (List.mem_of_mem_drop h)
        · have e2 : bs.cps.toList.take sp ++ [97 + (fi + w * i) % 26] ++ bs.cps.toList.drop sp = bs.cps.toList.take sp ++ [97 + (fi + w * j) % 26] ++ bs.cps.toList.drop sp := by rw [← codes, ← codes, e]
          rw [List.append_assoc, List.append_assoc] at e2
          have e3 := (List.cons.inj (List.append_cancel_left e2)).1
          rcases hw with rfl | rfl | rfl | rfl | rfl <;> omega
end DL

namespace DL
open PySem PySem.Spec PyProof.Rows L2 RK
/-! ### == of data -/
mutual
def toP : D → PyData
  | .non => .none
  | .bl b => .bool b
  | .int i => .int i
  | .str x => .str x
  | .lst xs => .list (toPA xs)
  | .tup xs => .tuple (toPA xs)
  | _ => .none
def toPA : List D → List PyData
  | [] => []
  | x :: xs => toP x :: toPA xs
end
/-- data of lists, tuples, ints, texts and None, n deep at most -/
def sh : Nat → D → Bool
  | _, .non => true
  | _, .int _ => true
  | _, .str x => PyData.strOk x
  | n + 1, .lst xs => xs.all (sh n)
  | n + 1, .tup xs => xs.all (sh n)
  | _, _ => false
theorem sh_py : ∀ (n : Nat) (x : D), sh n x = true → toPy x = some (toP x) ∧ (toP x).canLay0 = true ∧ (toP x).depth ≤ n := by
  have lists : ∀ (n : Nat), (∀ x : D, sh n x = true → toPy x = some (toP x) ∧ (toP x).canLay0 = true ∧ (toP x).depth ≤ n) → ∀ xs : List D, xs.all (sh n) = true → toPyA xs = some (toPA xs) ∧ PyData.canLayAll0 (toPA xs) = true ∧ PyData.depthAll (toPA xs) ≤ n := by
    intro n ih xs
    induction xs with
    | nil => intro _; exact ⟨rfl, rfl, Nat.zero_le _⟩
    | cons x xs ihx =>
      intro h
      rw [List.all_cons, Bool.and_eq_true] at h
      obtain ⟨h1, h2, h3⟩ := ih x h.1
      obtain ⟨g1, g2, g3⟩ := ihx h.2
      refine ⟨?_, ?_, ?_⟩
      · show (toPy x).bind _ = _
        rw [h1]
        show (toPyA xs).map _ = _
        rw [g1]
        rfl
      · show (PyData.canLay0 (toP x) && PyData.canLayAll0 (toPA xs)) = true
        rw [h2, g2]
        rfl
      · show max (PyData.depth (toP x)) (PyData.depthAll (toPA xs)) ≤ n
        omega
  intro n
  induction n with
  | zero =>
    intro x h
    cases x with
    | non => exact ⟨rfl, rfl, Nat.le_refl _⟩
    | int i => exact ⟨rfl, rfl, Nat.le_refl _⟩
    | str z => exact ⟨rfl, h, Nat.le_refl _⟩
    | _ => cases h
  | succ n ih =>
    intro x h
    cases x with
    | non => exact ⟨rfl, rfl, Nat.zero_le _⟩
    | int i => exact ⟨rfl, rfl, Nat.zero_le _⟩
    | str z => exact ⟨rfl, h, Nat.zero_le _⟩
    | lst xs =>
      obtain ⟨h1, h2, h3⟩ := lists n ih xs h
      refine ⟨?_, h2, ?_⟩
      · show (toPyA xs).map _ = _
        rw [h1]
        rfl
      · show PyData.depthAll (toPA xs) + 1 ≤ n + 1
        omega
    | tup xs =>
      obtain ⟨h1, h2, h3⟩ := lists n ih xs h
      refine ⟨?_, h2, ?_⟩
      · show (toPyA xs).map _ = _
        rw [h1]
        rfl
      · show PyData.depthAll (toPA xs) + 1 ≤ n + 1
        omega
    | _ => cases h
theorem eqv_iff : ∀ (n : Nat) (x y : D), sh n x = true → sh n y = true → (PyData.eqv (toP x) (toP y) = true ↔ x = y) := by
  have lists : ∀ (n : Nat), (∀ x y : D, sh n x = true → sh n y = true → (PyData.eqv (toP x) (toP y) = true ↔ x = y)) → ∀ xs ys : List D, xs.all (sh n) = true → ys.all (sh n) = true → (PyData.eqvAll (toPA xs) (toPA ys) = true ↔ xs = ys) := by
    intro n ih xs
    induction xs with
    | nil =>
      intro ys _ _
      cases ys with
      | nil => exact ⟨fun _ => rfl, fun _ => rfl⟩
      | cons y ys => exact ⟨fun h => (by cases h), fun h => (by cases h)⟩
    | cons x xs ihx =>
      intro ys hx hy
      cases ys with
      | nil => exact ⟨fun h => (by cases h), fun h => (by cases h)⟩
      | cons y ys =>
        rw [List.all_cons, Bool.and_eq_true] at hx hy
        have h1 := ih x y hx.1 hy.1
        have h2 := ihx ys hx.2 hy.2
        show (PyData.eqv (toP x) (toP y) && PyData.eqvAll (toPA xs) (toPA ys)) = true ↔ _
        rw [Bool.and_eq_true, h1, h2]
        exact ⟨fun ⟨a, b⟩ => by rw [a, b], fun h => ⟨(List.cons.inj h).1, (List.cons.inj h).2⟩⟩
  intro n
  induction n with
  | zero =>
    intro x y hx hy
    cases x <;> try cases hx
    all_goals cases y <;> try cases hy
    all_goals simp [toP, PyData.eqv]
  | succ n ih =>
    intro x y hx hy
    cases x <;> try cases hx
    all_goals cases y <;> try cases hy
    any_goals (simp [toP, PyData.eqv]; done)
    · rename_i xs ys
      have := lists n ih xs ys hx hy
      simp only [toP, PyData.eqv, D.lst.injEq]
      exact this
    · rename_i xs ys
      have := lists n ih xs ys hx hy
      simp only [toP, PyData.eqv, D.tup.injEq]
      exact this
theorem shaped_of {n : Nat} {x : D} (hn : n ≤ 64) (h : sh n x = true) : SeqAt.shaped (toP x) = true := by
  obtain ⟨_, h2, h3⟩ := sh_py n x h
  unfold SeqAt.shaped
  rw [h2, Bool.true_and]
  exact decide_eq_true (by omega)
theorem eqS_iff {neg : Bool} {x y z : D} (h : eqS neg x y = some z) : ∃ b, z = .bl (neg ^^ b) ∧ (b = true ↔ x = y) := by
  cases x <;> try cases h
  all_goals cases y <;> try cases h
  · exact ⟨_, rfl, by rw [decide_eq_true_eq]; exact ⟨fun h => by rw [h], fun h => by cases h; rfl⟩⟩
  · exact ⟨_, rfl, by rw [decide_eq_true_eq]; exact ⟨fun h => by rw [h], fun h => by cases h; rfl⟩⟩
  · exact ⟨_, rfl, by rw [decide_eq_true_eq]; exact ⟨fun h => by rw [h], fun h => by cases h; rfl⟩⟩
theorem beq_iff {neg : Bool} {n : Nat} {x y : D} (hn : n ≤ 64) (hx : sh n x = true) (hy : sh n y = true) : ∃ b, bEqN neg x y = some (.bl (neg ^^ b)) ∧ (b = true ↔ x = y) := by
  cases e : eqS neg x y with
  | some z =>
    obtain ⟨b, rfl, h⟩ := eqS_iff e
    exact ⟨b, by unfold bEqN; rw [e]; rfl, h⟩
  | none =>
    refine ⟨PyData.eqv (toP x) (toP y), ?_, eqv_iff n x y hx hy⟩
    unfold bEqN
    rw [e]
    show eqP neg x y = _
    unfold eqP
    rw [(sh_py n x hx).1, (sh_py n y hy).1]
    exact if_pos ⟨shaped_of hn hx, shaped_of hn hy⟩
/-- == with both ways told -/
theorem beq_ob {neg : Bool} {n : Nat} {x y : D} {P : D → Prop} (hn : n ≤ 64) (hx : sh n x = true) (hy : sh n y = true) (h1 : x = y → P (.bl (!neg))) (h2 : x ≠ y → P (.bl neg)) : ob (bEqN neg x y) P := by
  obtain ⟨b, e, h⟩ := beq_iff (neg := neg) hn hx hy
  rw [e]
  cases b with
  | true => have := h1 (h.mp rfl); cases neg <;> exact this
  | false => have := h2 (fun z => by have := h.mpr z; cases this); cases neg <;> exact this
theorem name_ok {z : Str} (h : NameOk z) : PyData.strOk z = true := by
  unfold PyData.strOk
  rw [← Array.all_toList, List.all_eq_true]
  intro c hc
  have := h.2.2 c hc
  unfold Low at this
  exact decide_eq_true (by omega)
theorem sh_names {n : Nat} {zs : List Str} (h : ∀ z ∈ zs, NameOk z) : sh (n + 1) (.lst (zs.map D.str)) = true := by
  show (zs.map D.str).all (sh n) = true
  rw [List.all_eq_true]
  intro d hd
  obtain ⟨z, hz, rfl⟩ := List.mem_map.mp hd
  have := name_ok (h z hz)
  cases n <;> exact this
/-! ### like -/
def likeD : Nat → D → Bool
  | n + 1, .lst xs => decide (xs.length ≤ 100000) && xs.all (likeD n)
  | n + 1, .tup xs => decide (xs.length ≤ 100000) && xs.all (likeD n)
  | _, .non => true
  | _, .bl _ => true
  | _, .int _ => true
  | _, .str x => PyData.strOk x
  | _, _ => false
def sp_like : Nat → DSp
  | 0 => fun _ _ => False
  | n + 1 => fun ds P => ∃ x, ds = [x, x] ∧ likeD n x = true ∧ P (.bl true)
def d_like (sp_like : DSp) : TDS := (sSeq (sIf (dOrT (dT (dO2 (bEqN true) (dIs "tuple" (dV 1)) (dIs "tuple" (dV 0)))) (dT (dO2 (bEqN true) (dIs "list" (dV 1)) (dIs "list" (dV 0))))) (sRet (dC (.bl false))) sNil)
  (sSeq (sIf (dNotT (dT (dIsA ["tuple", "list"] (dV 1)))) (sRet (dAndV (dO2 (bEqN false) (dIs "bool" (dV 0)) (dIs "bool" (dV 1))) (dO2 (bEqN false) (dV 0) (dV 1)))) sNil)
  (sRet (dAndV (dO2 (bEqN false) (dCa lenD (aCons (dV 0) aNil)) (dCa lenD (aCons (dV 1) aNil))) (dCa allD (aCons (dLc (iRng (aCons (dCa lenD (aCons (dV 1) aNil)) aNil)) (gNm 2) tYesD (dCall sp_like (aCons (dO2 bIx (dV 0) (dV 2)) (aCons (dO2 bIx (dV 1) (dV 2)) aNil))) [2]) aNil))))))
theorem beq_self {x : D} (h : likeD 0 x = true) : bEqN false x x = some (.bl true) := by
  cases x <;> try cases h
  · rfl
  · simp [bEqN, eqS]
  · simp [bEqN, eqS]
  · simp [bEqN, eqS]
theorem rng_map (n : Nat) : rngD 0 n = (List.range n).map fun k => D.int ((k : Nat) : Int) := by
  unfold rngD
  exact List.map_congr_left fun k _ => by rw [Int.zero_add]
theorem rd_like {n : Nat} {ds : List D} {P : D → Prop} (h : sp_like (n + 1) ds P) : d_like (sp_like n) (fin false P) (st 3 ds) := by
  obtain ⟨x, rfl, hx, q⟩ := h
  have isb : ∀ b : Bool, bEqN true (.bl b) (.bl b) = some (.bl false) := fun b => by simp [bEqN, eqS]
  have isc : ∀ b : Bool, bEqN false (.bl b) (.bl b) = some (.bl true) := fun b => by simp [bEqN, eqS]
  have ty : ∀ T, T = "tuple" ∨ T = "list" ∨ T = "bool" → ∃ b, isD T x = some b := by
    intro T hT
    have key : ∀ t, t ∈ ["NoneType", "bool", "int", "str", "list", "tuple"] → ∃ b, kitB t T = some b := by
      intro t ht
      simp only [List.mem_cons, List.not_mem_nil, or_false] at ht
      rcases ht with rfl | rfl | rfl | rfl | rfl | rfl <;> rcases hT with rfl | rfl | rfl <;> first | exact ⟨true, by decide +kernel⟩ | exact ⟨false, by decide +kernel⟩
    unfold isD
    cases n <;> cases x <;> first | (cases hx; done) | exact key _ (by simp)
  obtain ⟨b1, h1⟩ := ty "tuple" (.inl rfl)
  obtain ⟨b2, h2⟩ := ty "list" (.inr (.inl rfl))
  obtain ⟨b3, h3⟩ := ty "bool" (.inr (.inr rfl))
  have hany : isAnyD x ["tuple", "list"] = some (b1 || b2) := by
    unfold isAnyD isAnyD isAnyD
    rw [h1, h2]
    cases b1 <;> cases b2 <;> rfl
  have seqs : ∀ (xs : List D), (x = .lst xs ∨ x = .tup xs) → xs.length ≤ 100000 → (∀ y ∈ xs, likeD (n - 1) y = true) → 1 ≤ n → lenD [x] = some (.int xs.length) → (∀ k : Nat, ∀ y, xs[k]? = some y → bIx x (.int ((k : Nat) : Int)) = some y) → (b1 || b2) = true → d_like (sp_like n) (fin false P) (st 3 [x, x]) := by
    intro xs _ hl hall hn hlen hix hb
    simp only [d_like, dC, dV, dB, dO2, ob_some, dT, dAndT, dOrT, dNotT, dIf, dAndV, dOrV, dNotV, dChain, aNil, aCons, dTup, dLst, dCut, oNone, oSome, dRev, dNeg, dTru, dCa, dIs, dIsA, dCall, dCallK, sNil, sSeq, sNever, sBrk, sCont, sIf, sRet, sRetO, sRetE, sSet, sSetO, sDrop, sPar, sPar3, kn, enOf, owD, sAsg, gNm, gsNil, gsCons, gTp, sApp, sIns, sExt, sClr, sRev, sPut, sFrz, owAt, fin, st, iRng, iRngB, iSeq, lstD, tupD, sFor, dLc, dDc, wipeE, tYesD, dIndex, dSort, dDictZip, dMeth, dFld, dMk, List.map_cons, List.map_nil, List.length_cons, List.length_nil, List.replicate_succ, List.replicate_zero, List.cons_append, List.nil_append, List.append_nil, List.getElem?_cons_zero, List.getElem?_cons_succ, List.set_cons_zero, List.set_cons_succ, Option.bind_some, Option.map_some, Nat.reduceSub, Nat.reduceAdd, kwP, List.getD_cons_zero, List.getD_cons_succ, h1, h2, isb, hany, hb, hlen, bEq_i, decide_true, if_true, Bool.not_true, Bool.false_eq_true, if_false]
    refine ⟨by omega, by omega, ?_⟩
    rw [Int.toNat_natCast, rng_map]
    refine comp_map (fun k : Nat => D.int ((k : Nat) : Int)) (fun _ => D.bl true) (List.range xs.length) [] (fun k hk Q Z hQ => ?_) (by simp; omega) ?_
    · have hk' : k < xs.length := List.mem_range.mp hk
      simp only [dC, dV, dB, dO2, ob_some, dT, dAndT, dOrT, dNotT, dIf, dAndV, dOrV, dNotV, dChain, aNil, aCons, dTup, dLst, dCut, oNone, oSome, dRev, dNeg, dTru, dCa, dIs, dIsA, dCall, dCallK, sNil, sSeq, sNever, sBrk, sCont, sIf, sRet, sRetO, sRetE, sSet, sSetO, sDrop, sPar, sPar3, kn, enOf, owD, sAsg, gNm, gsNil, gsCons, gTp, sApp, sIns, sExt, sClr, sRev, sPut, sFrz, owAt, fin, st, iRng, iRngB, iSeq, lstD, tupD, sFor, dLc, dDc, wipeE, tYesD, dIndex, dSort, dDictZip, dMeth, dFld, dMk, List.map_cons, List.map_nil, List.length_cons, List.length_nil, List.replicate_succ, List.replicate_zero, List.cons_append, List.nil_append, List.append_nil, List.getElem?_cons_zero, List.getElem?_cons_succ, List.set_cons_zero, List.set_cons_succ, Option.bind_some, Option.map_some, Nat.reduceSub, Nat.reduceAdd, kwP, List.getD_cons_zero, List.getD_cons_succ, hix k _ (List.getElem?_eq_getElem hk'), if_true]
      obtain ⟨m, rfl⟩ : ∃ m, n = m + 1 := ⟨n - 1, by omega⟩
      exact ⟨_, rfl, hall _ (List.getElem_mem hk'), hQ⟩
    · have e : ((List.range xs.length).map fun _ => D.bl true) = (List.replicate xs.length true).map D.bl := by
        rw [List.map_replicate, List.map_const', List.length_range]
      rw [List.nil_append, e]
      show ob (allD [.lst ((List.replicate xs.length true).map D.bl)]) P
      rw [allD_map]
      show P (.bl ((List.replicate xs.length true).all id))
      have : (List.replicate xs.length true).all id = true := by
        rw [List.all_eq_true]
        intro b hb
        exact (List.mem_replicate.mp hb).2
      rw [this]
      exact q
  have leafs : likeD 0 x = true → isD "tuple" x = some false → isD "list" x = some false → d_like (sp_like n) (fin false P) (st 3 [x, x]) := by
    intro hl e1 e2
    have hany : isAnyD x ["tuple", "list"] = some false := by
      unfold isAnyD isAnyD isAnyD
      rw [e1, e2]
      rfl
    simp only [d_like, dC, dV, dB, dO2, ob_some, dT, dAndT, dOrT, dNotT, dIf, dAndV, dOrV, dNotV, dChain, aNil, aCons, dTup, dLst, dCut, oNone, oSome, dRev, dNeg, dTru, dCa, dIs, dIsA, dCall, dCallK, sNil, sSeq, sNever, sBrk, sCont, sIf, sRet, sRetO, sRetE, sSet, sSetO, sDrop, sPar, sPar3, kn, enOf, owD, sAsg, gNm, gsNil, gsCons, gTp, sApp, sIns, sExt, sClr, sRev, sPut, sFrz, owAt, fin, st, iRng, iRngB, iSeq, lstD, tupD, sFor, dLc, dDc, wipeE, tYesD, dIndex, dSort, dDictZip, dMeth, dFld, dMk, List.map_cons, List.map_nil, List.length_cons, List.length_nil, List.replicate_succ, List.replicate_zero, List.cons_append, List.nil_append, List.append_nil, List.getElem?_cons_zero, List.getElem?_cons_succ, List.set_cons_zero, List.set_cons_succ, Option.bind_some, Option.map_some, Nat.reduceSub, Nat.reduceAdd, kwP, List.getD_cons_zero, List.getD_cons_succ, e1, e2, h3, isb, isc, hany, beq_self hl, if_true, Bool.not_false, Bool.false_eq_true, if_false]
    exact q
  cases x with
  | lst xs =>
    cases n with
    | zero => cases hx
    | succ n =>
      have hx' : (decide (xs.length ≤ 100000) && xs.all (likeD n)) = true := hx
      rw [Bool.and_eq_true] at hx'
      refine seqs xs (.inl rfl) (of_decide_eq_true hx'.1) (fun y hy => List.all_eq_true.mp hx'.2 y hy) (by omega) rfl (fun k y h => bIx_l h) ?_
      have : b2 = true := by
        have : isD "list" (.lst xs) = some true := (by decide +kernel : kitB "list" "list" = some true)
        rw [h2] at this
        exact Option.some.inj this
      rw [this]
      simp
  | tup xs =>
    cases n with
    | zero => cases hx
    | succ n =>
      have hx' : (decide (xs.length ≤ 100000) && xs.all (likeD n)) = true := hx
      rw [Bool.and_eq_true] at hx'
      refine seqs xs (.inr rfl) (of_decide_eq_true hx'.1) (fun y hy => List.all_eq_true.mp hx'.2 y hy) (by omega) rfl (fun k y h => bIx_tp h) ?_
      have : b1 = true := by
        have : isD "tuple" (.tup xs) = some true := (by decide +kernel : kitB "tuple" "tuple" = some true)
        rw [h1] at this
        exact Option.some.inj this
      rw [this]
      simp
  | non => exact leafs rfl (by decide +kernel) (by decide +kernel)
  | bl b => exact leafs rfl (by show kitB "bool" "tuple" = some false; decide +kernel) (by show kitB "bool" "list" = some false; decide +kernel)
  | int i => exact leafs rfl (by show kitB "int" "tuple" = some false; decide +kernel) (by show kitB "int" "list" = some false; decide +kernel)
  | str z => exact leafs (by cases n <;> exact hx) (by show kitB "str" "tuple" = some false; decide +kernel) (by show kitB "str" "list" = some false; decide +kernel)
  | _ => cases n <;> cases hx
end DL

namespace DL
open PySem PySem.Spec PyProof.Rows L2 RK
/-! ### windows -/
abbrev Win := Str × R
def wk (w : Win) : Key × D := (Sum.inr w.1, rectD w.2)
def winD (ws : List Win) : D := .dic (ws.map wk)
def nms (ws : List Win) : List Str := ws.map (·.1)
structure WOk (ws : List Win) : Prop where
  nd : (nms ws).Nodup
  nm : ∀ w ∈ ws, NameOk w.1
  gd : ∀ w ∈ ws, w.2.good
def Sm (p : R) : Prop := p.good ∧ p.r - p.l ≤ 400000000 ∧ p.b - p.t ≤ 400000000
def WSm (ws : List Win) : Prop := ∀ w ∈ ws, Sm w.2
theorem sm_scaled {c x y x2 y2 : Int} (c0 : 1 ≤ c) (c1 : c ≤ 100000000) (a1 : -4 ≤ x) (a2 : x ≤ 4) (a3 : -4 ≤ y) (a4 : y ≤ 4) (a5 : x < x2) (a6 : x2 ≤ x + 4) (a7 : y < y2) (a8 : y2 ≤ y + 4) : Sm ⟨c * x, c * y, c * x2, c * y2⟩ := by
  refine ⟨good_scaled c0 c1 a1 a2 a3 a4 a5 a6 a7 a8, ?_, ?_⟩
  · show c * x2 - c * x ≤ 400000000
    rw [← Int.mul_sub]
    have h1 : c * (x2 - x) ≤ c * 4 := Int.mul_le_mul_of_nonneg_left (by omega) (by omega)
    omega
  · show c * y2 - c * y ≤ 400000000
    rw [← Int.mul_sub]
    have h1 : c * (y2 - y) ≤ c * 4 := Int.mul_le_mul_of_nonneg_left (by omega) (by omega)
    omega
theorem WOk.perm {ws us : List Win} (h : WOk ws) (p : us.Perm ws) : WOk us := ⟨(p.map _).nodup_iff.mpr h.nd, fun w hw => h.nm w (p.mem_iff.mp hw), fun w hw => h.gd w (p.mem_iff.mp hw)⟩
theorem nodup_inj {α β : Type} {f : α → β} {l : List α} (inj : ∀ a b, f a = f b → a = b) (h : l.Nodup) : (l.map f).Nodup := by
  rw [List.nodup_iff_pairwise_ne, List.pairwise_map]
  exact (List.nodup_iff_pairwise_ne.mp h).imp fun hab e => hab (inj _ _ e)
theorem keys_str : ∀ zs : List Str, keysD (zs.map D.str) = some (zs.map Sum.inr)
  | [] => rfl
  | z :: zs => by
    show (keyD (.str z)).bind (fun k => (keysD (zs.map D.str)).map fun ks => k :: ks) = _
    rw [keys_str zs]
    rfl
theorem perm_str {ys : List D} {zs : List Str} (h : ys.Perm (zs.map D.str)) : ∃ us : List Str, ys = us.map D.str ∧ us.Perm zs := by
  have key : ∀ (ys : List D), (∀ y ∈ ys, ∃ z, y = D.str z) → ∃ us : List Str, ys = us.map D.str := by
    intro ys
    induction ys with
    | nil => intro _; exact ⟨[], rfl⟩
    | cons y ys ih =>
      intro h
      obtain ⟨z, rfl⟩ := h y List.mem_cons_self
      obtain ⟨us, rfl⟩ := ih fun w hw => h w (List.mem_cons_of_mem _ hw)
      exact ⟨z :: us, rfl⟩
  obtain ⟨us, rfl⟩ := key ys fun y hy => by
    obtain ⟨z, _, e⟩ := List.mem_map.mp (h.mem_iff.mp hy)
    exact ⟨z, e.symm⟩
  refine ⟨us, rfl, ?_⟩
  have h2 := h.map fun d => match d with | D.str z => z | _ => Str.empty
  rw [List.map_map, List.map_map] at h2
  have e : ((fun d => match d with | D.str z => z | _ => Str.empty) ∘ D.str) = id := rfl
  rw [e, List.map_id, List.map_id] at h2
  exact h2
theorem bPow_i {i j : Int} (h : 0 ≤ j ∧ j ≤ 1000000 ∧ i.natAbs < 2 ^ 64) : bPow (.int i) (.int j) = some (.int (i ^ j.toNat)) := by
  show (if decide _ = true then some (D.int (i ^ j.toNat)) else none) = _
  rw [if_pos (decide_eq_true h)]
theorem rects_of {us : List Str} {rs : List D} (h : Paired (fun (_ : Str) d => ∃ p : R, d = rectD p ∧ Sm p) us rs) : ∃ ps : List R, rs = ps.map rectD ∧ ps.length = us.length ∧ ∀ p ∈ ps, Sm p := by
  induction h with
  | nil => exact ⟨[], rfl, rfl, fun p hp => by cases hp⟩
  | cons h t ih =>
    obtain ⟨p, rfl, gp⟩ := h
    obtain ⟨ps, rfl, h2, h3⟩ := ih
    refine ⟨p :: ps, rfl, by simp [h2], fun p' hp' => ?_⟩
    rcases List.mem_cons.mp hp' with rfl | h
    · exact gp
    · exact h3 p' h
def sp_windows : DSp := fun ds P => ∃ lo hi : Int, ds = [.bag, .int lo, .int hi] ∧ 1 ≤ lo ∧ lo ≤ hi ∧ hi ≤ 24 ∧ ∀ ws : List Win, WOk ws → WSm ws → lo ≤ ws.length → (ws.length : Int) ≤ hi → P (winD ws)
def d_windows : TDS := (sSeq (sSet 3 (dCall sp_mixed (aCons (dV 0) (aCons (dCall sp_names (aCons (dV 0) (aCons (dO2 bAdd (dV 1) (dCall sp_pull (aCons (dV 0) (aCons (dO2 bAdd (dO2 bSub (dV 2) (dV 1)) (dC (.int 1))) aNil)))) aNil))) aNil))))
  (sSeq (sAsg (dTup (aCons (dCall sp_of (aCons (dV 0) (aCons (dLst (aCons (dC (.int 1)) (aCons (dC (.int 1)) (aCons (dC (.int 3)) (aCons (dO2 bPow (dC (.int 10)) (dC (.int 8))) aNil))))) aNil))) (aCons (dCall sp_pull (aCons (dV 0) (aCons (dC (.int 4)) aNil))) aNil))) (gTp 2 (gsCons (gNm 4) (gsCons (gNm 5) gsNil))))
  (sSeq (sSet 6 (dCall sp_rectangle (aCons (dV 0) (aCons (dV 4) aNil))))
  (sSeq (sSet 7 (dLc (iSeq (dV 3)) (gNm 8) tYesD (dIf (dOrT (dT (dO2 (bEqN false) (dV 5) (dC (.int 0)))) (dAndT (dT (dO2 (bEqN false) (dV 5) (dC (.int 1)))) (dT (dO2 (bEqN false) (dCall sp_pull (aCons (dV 0) (aCons (dC (.int 2)) aNil))) (dC (.int 0)))))) (dV 6) (dCall sp_rectangle (aCons (dV 0) (aCons (dV 4) aNil)))) [8]))
  (sRet (dDictZip (aCons (dV 3) (aCons (dV 7) aNil))))))))
theorem rd_windows {ds : List D} {P : D → Prop} (h : sp_windows ds P) : d_windows (fin true P) (st 9 ds) := by
  obtain ⟨lo, hi, rfl, l0, l1, l2, q⟩ := h
  have ep : bPow (.int 10) (.int 8) = some (.int 100000000) := bPow_i (by decide)
  simp only [d_windows, dC, dV, dB, dO2, ob_some, dT, dAndT, dOrT, dNotT, dIf, dAndV, dOrV, dNotV, dChain, aNil, aCons, dTup, dLst, dCut, oNone, oSome, dRev, dNeg, dTru, dCa, dIs, dIsA, dCall, dCallK, sNil, sSeq, sNever, sBrk, sCont, sIf, sRet, sRetO, sRetE, sSet, sSetO, sDrop, sPar, sPar3, kn, enOf, owD, sAsg, gNm, gsNil, gsCons, gTp, sApp, sIns, sExt, sClr, sRev, sPut, sFrz, owAt, fin, st, iRng, iRngB, iSeq, lstD, tupD, sFor, dLc, dDc, wipeE, tYesD, dIndex, dSort, dDictZip, dMeth, dFld, dMk, List.map_cons, List.map_nil, List.length_cons, List.length_nil, List.replicate_succ, List.replicate_zero, List.cons_append, List.nil_append, List.append_nil, List.getElem?_cons_zero, List.getElem?_cons_succ, List.set_cons_zero, List.set_cons_succ, Option.bind_some, Option.map_some, Nat.reduceSub, Nat.reduceAdd, kwP, List.getD_cons_zero, List.getD_cons_succ, bAdd_i, bSub, iI0, ep]
  refine ⟨_, rfl, by omega, by omega, fun r r0 r1 => ⟨_, rfl, by omega, by omega, fun zs hl hz nd => ⟨_, .inl rfl, by rw [List.length_map]; omega, fun ys hp0 => ?_⟩⟩⟩
  obtain ⟨us, rfl, hp⟩ := perm_str hp0
  have hlu : us.length = (lo + r).toNat := by rw [hp.length_eq, hl]
  refine ⟨by decide, .inl ⟨_, .inl rfl, by decide, by decide, fun x hx => ?_⟩⟩
  obtain ⟨c, rfl, c1, c2⟩ : ∃ c : Int, x = .int c ∧ 1 ≤ c ∧ c ≤ 100000000 := by
    simp only [List.mem_cons, List.not_mem_nil, or_false] at hx
    rcases hx with rfl | rfl | rfl | rfl
    · exact ⟨1, rfl, by decide, by decide⟩
    · exact ⟨1, rfl, by decide, by decide⟩
    · exact ⟨3, rfl, by decide, by decide⟩
    · exact ⟨_, rfl, by decide, by decide⟩
  refine ⟨_, rfl, by decide, by decide, fun w w0 w1 => ⟨by decide, trivial, trivial, ?_⟩⟩
  have good : ∀ x y x2 y2 : Int, -4 ≤ x → x ≤ 4 → -4 ≤ y → y ≤ 4 → x < x2 → x2 ≤ x + 4 → y < y2 → y2 ≤ y + 4 → Sm ⟨c * x, c * y, c * x2, c * y2⟩ := fun x y x2 y2 a1 a2 a3 a4 a5 a6 a7 a8 => sm_scaled c1 c2 a1 a2 a3 a4 a5 a6 a7 a8
  refine ⟨c, rfl, c1, c2, fun x y x2 y2 a1 a2 a3 a4 a5 a6 a7 a8 => ?_⟩
  have g0 := good x y x2 y2 a1 a2 a3 a4 a5 a6 a7 a8
  refine .inl ?_
  refine comp_all D.str (fun _ d => ∃ p : R, d = rectD p ∧ Sm p) us [] (fun z hz Q Z hQ => ?_) (by simp; omega) (fun rs hrs => ?_)
  · simp only [dC, dV, dB, dO2, ob_some, dT, dAndT, dOrT, dNotT, dIf, dAndV, dOrV, dNotV, dChain, aNil, aCons, dTup, dLst, dCut, oNone, oSome, dRev, dNeg, dTru, dCa, dIs, dIsA, dCall, dCallK, sNil, sSeq, sNever, sBrk, sCont, sIf, sRet, sRetO, sRetE, sSet, sSetO, sDrop, sPar, sPar3, kn, enOf, owD, sAsg, gNm, gsNil, gsCons, gTp, sApp, sIns, sExt, sClr, sRev, sPut, sFrz, owAt, fin, st, iRng, iRngB, iSeq, lstD, tupD, sFor, dLc, dDc, wipeE, tYesD, dIndex, dSort, dDictZip, dMeth, dFld, dMk, List.map_cons, List.map_nil, List.length_cons, List.length_nil, List.replicate_succ, List.replicate_zero, List.cons_append, List.nil_append, List.append_nil, List.getElem?_cons_zero, List.getElem?_cons_succ, List.set_cons_zero, List.set_cons_succ, Option.bind_some, Option.map_some, Nat.reduceSub, Nat.reduceAdd, kwP, List.getD_cons_zero, List.getD_cons_succ, bEq_i, if_true]
    have yes : Q (rectD ⟨c * x, c * y, c * x2, c * y2⟩) := hQ _ ⟨_, rfl, g0⟩
    have no : sp_rectangle [.bag, .int c] Q := ⟨c, rfl, c1, c2, fun x y x2 y2 a1 a2 a3 a4 a5 a6 a7 a8 => hQ _ ⟨_, rfl, good x y x2 y2 a1 a2 a3 a4 a5 a6 a7 a8⟩⟩
    refine ite2 (fun _ => yes) (fun _ => ite2 (fun _ => ⟨_, rfl, by decide, by decide, fun v _ _ => ite2 (fun _ => yes) (fun _ => no)⟩) (fun _ => ?_))
    exact no
  · obtain ⟨ps, rfl, hps, hg⟩ := rects_of hrs
    simp only [dC, dV, dB, dO2, ob_some, dT, dAndT, dOrT, dNotT, dIf, dAndV, dOrV, dNotV, dChain, aNil, aCons, dTup, dLst, dCut, oNone, oSome, dRev, dNeg, dTru, dCa, dIs, dIsA, dCall, dCallK, sNil, sSeq, sNever, sBrk, sCont, sIf, sRet, sRetO, sRetE, sSet, sSetO, sDrop, sPar, sPar3, kn, enOf, owD, sAsg, gNm, gsNil, gsCons, gTp, sApp, sIns, sExt, sClr, sRev, sPut, sFrz, owAt, fin, st, iRng, iRngB, iSeq, lstD, tupD, sFor, dLc, dDc, wipeE, tYesD, dIndex, dSort, dDictZip, dMeth, dFld, dMk, List.map_cons, List.map_nil, List.length_cons, List.length_nil, List.replicate_succ, List.replicate_zero, List.cons_append, List.nil_append, List.append_nil, List.getElem?_cons_zero, List.getElem?_cons_succ, List.set_cons_zero, List.set_cons_succ, Option.bind_some, Option.map_some, Nat.reduceSub, Nat.reduceAdd, kwP, List.getD_cons_zero, List.getD_cons_succ, keys_str]
    refine ⟨by simp [hps], ?_⟩
    have e : (us.map (Sum.inr : Str → Key)).zip (ps.map rectD) = (us.zip ps).map wk := by
      rw [List.zip_map]
      rfl
    have nmz : nms (us.zip ps) = us := List.map_fst_zip (by omega)
    rw [e, mergeD_new _ [] (by
      rw [List.nil_append, List.map_map]
      have : ((fun kd : Key × D => kd.1) ∘ wk) = Sum.inr ∘ (fun w : Win => w.1) := rfl
      rw [this, ← List.map_map]
      refine nodup_inj (fun a b h => Sum.inr.inj h) ?_
      show (nms (us.zip ps)).Nodup
      rw [nmz]
      exact hp.nodup_iff.mpr nd), List.nil_append]
    refine q (us.zip ps) ⟨by rw [nmz]; exact hp.nodup_iff.mpr nd, fun v hv => hz _ (hp.mem_iff.mp (List.of_mem_zip hv).1), fun v hv => (hg _ (List.of_mem_zip hv).2).1⟩ (fun v hv => hg _ (List.of_mem_zip hv).2) ?_ ?_
    · rw [List.length_zip]
      omega
    · rw [List.length_zip]
      omega
end DL

namespace DL
open PySem PySem.Spec PyProof.Rows L2 RK
/-! ### rectangles and names -/
instance (p : R) : Decidable p.good := by unfold R.good; infer_instance
instance (p : R) (x y : Int) : Decidable (p.has x y) := by unfold R.has; infer_instance
instance (c : Nat) : Decidable (Low c) := by unfold Low; infer_instance
instance (z : Str) : Decidable (NameOk z) := by unfold NameOk; infer_instance
theorem is_tt {xs : List D} : isD "tuple" (.tup xs) = some true := (by decide +kernel : kitB "tuple" "tuple" = some true)
theorem is_ii {i : Int} : isD "int" (.int i) = some true := (by decide +kernel : kitB "int" "int" = some true)
theorem is_ss {z : Str} : isD "str" (.str z) = some true := (by decide +kernel : kitB "str" "str" = some true)
theorem bNe_i (i j : Int) : bEqN true (.int i) (.int j) = some (.bl (!decide (i = j))) := by
  show (some (D.bl (true ^^ decide (i = j)))).or _ = _
  rw [Bool.true_xor]
  rfl
theorem bLe_i (i j : Int) : bLe (.int i) (.int j) = some (.bl (decide (i ≤ j))) := rfl
theorem bLt_i (i j : Int) : bLt (.int i) (.int j) = some (.bl (decide (i < j))) := rfl
theorem iLt_i (i j : Int) : iI0 (fun i j => D.bl (decide (i < j))) (.int i) (.int j) = some (.bl (decide (i < j))) := rfl
def sp_has_four_numbers : DSp := fun ds P => ∃ r : R, ds = [rectD r] ∧ P (.bl true)
def d_has_four_numbers : TDS := (sSeq (sIf (dOrT (dNotT (dT (dIs "tuple" (dV 0)))) (dT (dO2 (bEqN true) (dCa lenD (aCons (dV 0) aNil)) (dC (.int 4))))) (sRet (dC (.bl false))) sNil)
  (sRet (dCa allD (aCons (dLc (iSeq (dV 0)) (gNm 1) tYesD (dIs "int" (dV 1)) [1]) aNil))))
theorem rd_has_four_numbers {ds : List D} {P : D → Prop} (h : sp_has_four_numbers ds P) : d_has_four_numbers (fin false P) (st 2 ds) := by
  obtain ⟨r, rfl, q⟩ := h
  simp only [d_has_four_numbers, dC, dV, dB, dO2, ob_some, dT, dAndT, dOrT, dNotT, dIf, dAndV, dOrV, dNotV, dChain, aNil, aCons, dTup, dLst, dCut, oNone, oSome, dRev, dNeg, dTru, dCa, dIs, dIsA, dCall, dCallK, sNil, sSeq, sNever, sBrk, sCont, sIf, sRet, sRetO, sRetE, sSet, sSetO, sDrop, sPar, sPar3, kn, enOf, owD, sAsg, gNm, gsNil, gsCons, gTp, sApp, sIns, sExt, sClr, sRev, sPut, sFrz, owAt, fin, st, iRng, iRngB, iSeq, lstD, tupD, sFor, dLc, dDc, wipeE, tYesD, dIndex, dSort, dDictZip, dMeth, dFld, dMk, List.map_cons, List.map_nil, List.length_cons, List.length_nil, List.replicate_succ, List.replicate_zero, List.cons_append, List.nil_append, List.append_nil, List.getElem?_cons_zero, List.getElem?_cons_succ, List.set_cons_zero, List.set_cons_succ, Option.bind_some, Option.map_some, Nat.reduceSub, Nat.reduceAdd, kwP, List.getD_cons_zero, List.getD_cons_succ, rectD, is_tt, lenD, bNe_i, Bool.not_true, Bool.false_eq_true, if_false]
  refine ite2 (fun h => by simp at h) (fun _ => .inr (.inl ?_))
  refine comp_map id (fun _ => D.bl true) [.int r.l, .int r.t, .int r.r, .int r.b] [] (fun x hx Q Z hQ => ?_) (by simp) ?_
  · obtain ⟨i, rfl⟩ : ∃ i, x = .int i := by
      simp only [List.mem_cons, List.not_mem_nil, or_false] at hx
      rcases hx with rfl | rfl | rfl | rfl <;> exact ⟨_, rfl⟩
    simp only [dC, dV, dB, dO2, ob_some, dT, dAndT, dOrT, dNotT, dIf, dAndV, dOrV, dNotV, dChain, aNil, aCons, dTup, dLst, dCut, oNone, oSome, dRev, dNeg, dTru, dCa, dIs, dIsA, dCall, dCallK, sNil, sSeq, sNever, sBrk, sCont, sIf, sRet, sRetO, sRetE, sSet, sSetO, sDrop, sPar, sPar3, kn, enOf, owD, sAsg, gNm, gsNil, gsCons, gTp, sApp, sIns, sExt, sClr, sRev, sPut, sFrz, owAt, fin, st, iRng, iRngB, iSeq, lstD, tupD, sFor, dLc, dDc, wipeE, tYesD, dIndex, dSort, dDictZip, dMeth, dFld, dMk, List.map_cons, List.map_nil, List.length_cons, List.length_nil, List.replicate_succ, List.replicate_zero, List.cons_append, List.nil_append, List.append_nil, List.getElem?_cons_zero, List.getElem?_cons_succ, List.set_cons_zero, List.set_cons_succ, Option.bind_some, Option.map_some, Nat.reduceSub, Nat.reduceAdd, kwP, List.getD_cons_zero, List.getD_cons_succ, id, is_ii, if_true]
    exact hQ
  · exact q
def sp_is_rectangle : DSp := fun ds P => ∃ r : R, ds = [rectD r] ∧ P (.bl (decide r.good))
def d_is_rectangle : TDS := (sSeq (sIf (dNotT (dT (dCall sp_has_four_numbers (aCons (dV 0) aNil)))) (sRet (dC (.bl false))) sNil)
  (sSeq (sAsg (dV 0) (gTp 4 (gsCons (gNm 1) (gsCons (gNm 2) (gsCons (gNm 3) (gsCons (gNm 4) gsNil))))))
  (sSeq (sIf (dNotT (dT (dCa allD (aCons (dLc (iSeq (dV 0)) (gNm 5) tYesD (dChain bLe bLe (dNeg (dC (.int 1000000000))) (dV 5) (dC (.int 1000000000))) [5]) aNil)))) (sRet (dC (.bl false))) sNil)
  (sRet (dAndV (dO2 bLt (dV 1) (dV 3)) (dO2 bLt (dV 2) (dV 4)))))))
theorem rd_is_rectangle {ds : List D} {P : D → Prop} (h : sp_is_rectangle ds P) : d_is_rectangle (fin false P) (st 6 ds) := by
  obtain ⟨r, rfl, q⟩ := h
  simp only [d_is_rectangle, dC, dV, dB, dO2, ob_some, dT, dAndT, dOrT, dNotT, dIf, dAndV, dOrV, dNotV, dChain, aNil, aCons, dTup, dLst, dCut, oNone, oSome, dRev, dNeg, dTru, dCa, dIs, dIsA, dCall, dCallK, sNil, sSeq, sNever, sBrk, sCont, sIf, sRet, sRetO, sRetE, sSet, sSetO, sDrop, sPar, sPar3, kn, enOf, owD, sAsg, gNm, gsNil, gsCons, gTp, sApp, sIns, sExt, sClr, sRev, sPut, sFrz, owAt, fin, st, iRng, iRngB, iSeq, lstD, tupD, sFor, dLc, dDc, wipeE, tYesD, dIndex, dSort, dDictZip, dMeth, dFld, dMk, List.map_cons, List.map_nil, List.length_cons, List.length_nil, List.replicate_succ, List.replicate_zero, List.cons_append, List.nil_append, List.append_nil, List.getElem?_cons_zero, List.getElem?_cons_succ, List.set_cons_zero, List.set_cons_succ, Option.bind_some, Option.map_some, Nat.reduceSub, Nat.reduceAdd, kwP, List.getD_cons_zero, List.getD_cons_succ, rectD]
  refine ⟨r, rfl, ?_⟩
  simp only [Bool.not_true, Bool.false_eq_true, if_false]
  refine ⟨trivial, trivial, .inr (.inl ?_)⟩
  refine comp_map id (fun x => match x with | .int i => D.bl (decide (-1000000000 ≤ i) && decide (i ≤ 1000000000)) | _ => .non) [.int r.l, .int r.t, .int r.r, .int r.b] [] (fun x hx Q Z hQ => ?_) (by simp) ?_
  · obtain ⟨i, rfl⟩ : ∃ i, x = .int i := by
      simp only [List.mem_cons, List.not_mem_nil, or_false] at hx
      rcases hx with rfl | rfl | rfl | rfl <;> exact ⟨_, rfl⟩
    simp only [dC, dV, dB, dO2, ob_some, dT, dAndT, dOrT, dNotT, dIf, dAndV, dOrV, dNotV, dChain, aNil, aCons, dTup, dLst, dCut, oNone, oSome, dRev, dNeg, dTru, dCa, dIs, dIsA, dCall, dCallK, sNil, sSeq, sNever, sBrk, sCont, sIf, sRet, sRetO, sRetE, sSet, sSetO, sDrop, sPar, sPar3, kn, enOf, owD, sAsg, gNm, gsNil, gsCons, gTp, sApp, sIns, sExt, sClr, sRev, sPut, sFrz, owAt, fin, st, iRng, iRngB, iSeq, lstD, tupD, sFor, dLc, dDc, wipeE, tYesD, dIndex, dSort, dDictZip, dMeth, dFld, dMk, List.map_cons, List.map_nil, List.length_cons, List.length_nil, List.replicate_succ, List.replicate_zero, List.cons_append, List.nil_append, List.append_nil, List.getElem?_cons_zero, List.getElem?_cons_succ, List.set_cons_zero, List.set_cons_succ, Option.bind_some, Option.map_some, Nat.reduceSub, Nat.reduceAdd, kwP, List.getD_cons_zero, List.getD_cons_succ, id, bLe_i, if_true]
    cases h1 : decide ((-1000000000 : Int) ≤ i) with
    | true => simp only [h1, Bool.true_and] at hQ; exact hQ
    | false => simp only [h1, Bool.false_and] at hQ; exact hQ
  · show ob (allD [.lst ([decide (-1000000000 ≤ r.l) && decide (r.l ≤ 1000000000), decide (-1000000000 ≤ r.t) && decide (r.t ≤ 1000000000), decide (-1000000000 ≤ r.r) && decide (r.r ≤ 1000000000), decide (-1000000000 ≤ r.b) && decide (r.b ≤ 1000000000)].map D.bl)]) _
    rw [allD_map]
    simp only [ob_some, List.all_cons, List.all_nil, id]
    refine ite2 (fun h => ?_) (fun h => ?_)
    · have : decide r.good = false := by
        rw [decide_eq_false_iff_not]
        rintro ⟨g1, g2, g3, g4, g5, g6, g7, g8, g9, g10⟩
        simp [g1, g2, g3, g4, g5, g6, g7, g8] at h
      rw [this] at q
      exact q
    · simp only [bLt_i, ob_some]
      have hb : -1000000000 ≤ r.l ∧ r.l ≤ 1000000000 ∧ -1000000000 ≤ r.t ∧ r.t ≤ 1000000000 ∧ -1000000000 ≤ r.r ∧ r.r ≤ 1000000000 ∧ -1000000000 ≤ r.b ∧ r.b ≤ 1000000000 := by
        simp at h
        omega
      have e : decide r.good = (decide (r.l < r.r) && decide (r.t < r.b)) := by
        rw [Bool.eq_iff_iff]
        simp only [decide_eq_true_eq, Bool.and_eq_true]
        exact ⟨fun g => ⟨g.2.2.2.2.2.2.2.2.1, g.2.2.2.2.2.2.2.2.2⟩, fun g => ⟨hb.1, hb.2.1, hb.2.2.1, hb.2.2.2.1, hb.2.2.2.2.1, hb.2.2.2.2.2.1, hb.2.2.2.2.2.2.1, hb.2.2.2.2.2.2.2, g.1, g.2⟩⟩
      rw [e] at q
      refine ite2 (fun h1 => ?_) (fun h1 => ?_)
      · rw [h1, Bool.true_and] at q
        exact q
      · rw [Bool.eq_false_iff.mpr h1, Bool.false_and] at q
        exact q
def sp_covers : DSp := fun ds P => ∃ (r : R) (x y : Int), ds = [rectD r, .int x, .int y] ∧ P (.bl (decide (r.has x y)))
def d_covers : TDS := (sSeq (sAsg (dV 0) (gTp 4 (gsCons (gNm 3) (gsCons (gNm 4) (gsCons (gNm 5) (gsCons (gNm 6) gsNil))))))
  (sRet (dAndV (dChain bLe (iI0 fun i j => .bl (decide (i < j))) (dV 3) (dV 1) (dV 5)) (dChain bLe (iI0 fun i j => .bl (decide (i < j))) (dV 4) (dV 2) (dV 6)))))
theorem and4 {a b c d : Prop} [Decidable a] [Decidable b] [Decidable c] [Decidable d] [Decidable (a ∧ b ∧ c ∧ d)] : decide (a ∧ b ∧ c ∧ d) = (decide a && (decide b && (decide c && decide d))) := by
  by_cases ha : a <;> by_cases hb : b <;> by_cases hc : c <;> by_cases hd : d <;> simp [ha, hb, hc, hd]
theorem rd_covers {ds : List D} {P : D → Prop} (h : sp_covers ds P) : d_covers (fin false P) (st 7 ds) := by
  obtain ⟨r, x, y, rfl, q⟩ := h
  have e : decide (r.has x y) = (decide (r.l ≤ x) && (decide (x < r.r) && (decide (r.t ≤ y) && decide (y < r.b)))) := and4
  rw [e] at q
  simp only [d_covers, dC, dV, dB, dO2, ob_some, dT, dAndT, dOrT, dNotT, dIf, dAndV, dOrV, dNotV, dChain, aNil, aCons, dTup, dLst, dCut, oNone, oSome, dRev, dNeg, dTru, dCa, dIs, dIsA, dCall, dCallK, sNil, sSeq, sNever, sBrk, sCont, sIf, sRet, sRetO, sRetE, sSet, sSetO, sDrop, sPar, sPar3, kn, enOf, owD, sAsg, gNm, gsNil, gsCons, gTp, sApp, sIns, sExt, sClr, sRev, sPut, sFrz, owAt, fin, st, iRng, iRngB, iSeq, lstD, tupD, sFor, dLc, dDc, wipeE, tYesD, dIndex, dSort, dDictZip, dMeth, dFld, dMk, List.map_cons, List.map_nil, List.length_cons, List.length_nil, List.replicate_succ, List.replicate_zero, List.cons_append, List.nil_append, List.append_nil, List.getElem?_cons_zero, List.getElem?_cons_succ, List.set_cons_zero, List.set_cons_succ, Option.bind_some, Option.map_some, Nat.reduceSub, Nat.reduceAdd, kwP, List.getD_cons_zero, List.getD_cons_succ, rectD, bLe_i, iLt_i]
  refine ⟨trivial, trivial, ?_⟩
  cases h1 : decide (r.l ≤ x) with
  | false => rw [h1, Bool.false_and] at q; exact q
  | true =>
    rw [h1, Bool.true_and] at q
    cases h2 : decide (x < r.r) with
    | false => rw [h2, Bool.false_and] at q; simpa using q
    | true =>
      rw [h2, Bool.true_and] at q
      simp only [if_true]
      cases h3 : decide (r.t ≤ y) with
      | false => rw [h3, Bool.false_and] at q; exact q
      | true => rw [h3, Bool.true_and] at q; exact q
def sp_is_name : DSp := fun ds P => ∃ z : Str, ds = [.str z] ∧ z.length ≤ 1000000 ∧ P (.bl (decide (NameOk z)))
def d_is_name : TDS := (sSeq (sIf (dOrT (dNotT (dT (dIs "str" (dV 0)))) (dNotT (dT (dChain bLe bLe (dC (.int 1)) (dCa lenD (aCons (dV 0) aNil)) (dC (.int 6)))))) (sRet (dC (.bl false))) sNil)
  (sRet (dCa allD (aCons (dLc (iSeq (dV 0)) (gNm 1) tYesD (dO2 (bIn false) (dV 1) (dC (.str "abcdefghijklmnopqrstuvwxyz"))) [1]) aNil))))
theorem rd_is_name {ds : List D} {P : D → Prop} (h : sp_is_name ds P) : d_is_name (fin false P) (st 2 ds) := by
  obtain ⟨z, rfl, hz, q⟩ := h
  have hs : z.length ≤ sizeLine := Nat.le_of_lt (szM hz)
  have e : decide (NameOk z) = (decide ((1 : Int) ≤ z.length) && (decide ((z.length : Int) ≤ 6) && z.cps.toList.all fun c => decide (Low c))) := by
    rw [Bool.eq_iff_iff, decide_eq_true_iff, Bool.and_eq_true, Bool.and_eq_true, decide_eq_true_iff, decide_eq_true_iff, List.all_eq_true]
    constructor
    · rintro ⟨g1, g2, g3⟩
      exact ⟨by omega, by omega, fun c hc => decide_eq_true (g3 c hc)⟩
    · rintro ⟨g1, g2, g3⟩
      exact ⟨by omega, by omega, fun c hc => of_decide_eq_true (g3 c hc)⟩
  rw [e] at q
  simp only [d_is_name, dC, dV, dB, dO2, ob_some, dT, dAndT, dOrT, dNotT, dIf, dAndV, dOrV, dNotV, dChain, aNil, aCons, dTup, dLst, dCut, oNone, oSome, dRev, dNeg, dTru, dCa, dIs, dIsA, dCall, dCallK, sNil, sSeq, sNever, sBrk, sCont, sIf, sRet, sRetO, sRetE, sSet, sSetO, sDrop, sPar, sPar3, kn, enOf, owD, sAsg, gNm, gsNil, gsCons, gTp, sApp, sIns, sExt, sClr, sRev, sPut, sFrz, owAt, fin, st, iRng, iRngB, iSeq, lstD, tupD, sFor, dLc, dDc, wipeE, tYesD, dIndex, dSort, dDictZip, dMeth, dFld, dMk, List.map_cons, List.map_nil, List.length_cons, List.length_nil, List.replicate_succ, List.replicate_zero, List.cons_append, List.nil_append, List.append_nil, List.getElem?_cons_zero, List.getElem?_cons_succ, List.set_cons_zero, List.set_cons_succ, Option.bind_some, Option.map_some, Nat.reduceSub, Nat.reduceAdd, kwP, List.getD_cons_zero, List.getD_cons_succ, is_ss, lenD, if_pos hs, bLe_i, Bool.not_true, Bool.false_eq_true, if_false]
  cases h1 : decide ((1 : Int) ≤ z.length) with
  | false => rw [h1, Bool.false_and] at q; simpa using q
  | true =>
    rw [h1, Bool.true_and] at q
    cases h2 : decide ((z.length : Int) ≤ 6) with
    | false => rw [h2, Bool.false_and] at q; simpa using q
    | true =>
      rw [h2, Bool.true_and] at q
      simp only [Bool.not_true, Bool.false_eq_true, if_false]
      refine .inr (.inr ?_)
      show dComp _ _ _ _ _ (z.cps.toList.map fun c => D.str ⟨#[c]⟩) []
      refine comp_map (fun c : Nat => D.str ⟨#[c]⟩) (fun c => D.bl (decide (Low c))) z.cps.toList [] (fun c hc Q Z hQ => ?_) (by rw [← str_len]; simp; omega) ?_
      · have e2 : bIn false (.str ⟨#[c]⟩) (.str "abcdefghijklmnopqrstuvwxyz") = some (.bl (decide (Low c))) := by
          show (none : Option D).or ((none : Option D).or ((some (D.bl (false ^^ decide (c ∈ abc.cps.toList)))).or _)) = _
          rw [Bool.false_xor, decide_eq_decide.mpr (abc_mem (c := c))]
          rfl
        simp only [dC, dV, dB, dO2, ob_some, dT, dAndT, dOrT, dNotT, dIf, dAndV, dOrV, dNotV, dChain, aNil, aCons, dTup, dLst, dCut, oNone, oSome, dRev, dNeg, dTru, dCa, dIs, dIsA, dCall, dCallK, sNil, sSeq, sNever, sBrk, sCont, sIf, sRet, sRetO, sRetE, sSet, sSetO, sDrop, sPar, sPar3, kn, enOf, owD, sAsg, gNm, gsNil, gsCons, gTp, sApp, sIns, sExt, sClr, sRev, sPut, sFrz, owAt, fin, st, iRng, iRngB, iSeq, lstD, tupD, sFor, dLc, dDc, wipeE, tYesD, dIndex, dSort, dDictZip, dMeth, dFld, dMk, List.map_cons, List.map_nil, List.length_cons, List.length_nil, List.replicate_succ, List.replicate_zero, List.cons_append, List.nil_append, List.append_nil, List.getElem?_cons_zero, List.getElem?_cons_succ, List.set_cons_zero, List.set_cons_succ, Option.bind_some, Option.map_some, Nat.reduceSub, Nat.reduceAdd, kwP, List.getD_cons_zero, List.getD_cons_succ, e2, if_true]
        exact hQ
      · rw [List.nil_append, allD_f]
        exact q
end DL

namespace DL
open PySem PySem.Spec PyProof.Rows L2 RK
/-! ### looking a window up -/
def look (us : List Win) (z : Str) : Option R := (us.find? fun w => decide (w.1 = z)).map (·.2)
theorem val_win (us : List Win) (z : Str) : valD (us.map wk) (Sum.inr z : Key) = (look us z).map rectD := by
  unfold valD look
  induction us with
  | nil => rfl
  | cons u us ih =>
    rw [List.map_cons, List.find?_cons, List.find?_cons]
    have e : decide ((wk u).1 = (Sum.inr z : Key)) = decide (u.1 = z) := decide_eq_decide.mpr inr_inj
    rw [e]
    cases decide (u.1 = z) with
    | true => rfl
    | false => exact ih
theorem look_mem {us : List Win} (nd : (nms us).Nodup) {w : Win} (h : w ∈ us) : look us w.1 = some w.2 := by
  unfold look
  induction us with
  | nil => cases h
  | cons u us ih =>
    rw [List.find?_cons]
    have nd' := List.nodup_cons.mp nd
    rcases List.mem_cons.mp h with rfl | h
    · rw [decide_eq_true rfl]
      rfl
    · have : u.1 ≠ w.1 := fun e => nd'.1 (by show u.1 ∈ _; rw [e]; exact List.mem_map.mpr ⟨w, h, rfl⟩)
      rw [decide_eq_false this]
      exact ih nd'.2 h
theorem look_some {us : List Win} {z : Str} {r : R} (h : look us z = some r) : (z, r) ∈ us := by
  unfold look at h
  obtain ⟨w, h1, h2⟩ := Option.map_eq_some_iff.mp h
  have h3 : w.1 = z := of_decide_eq_true (List.find?_some (p := fun w : Win => decide (w.1 = z)) h1)
  have h4 := List.mem_of_find?_eq_some h1
  rw [← h3, ← h2]
  exact h4
theorem look_ex {us : List Win} (nd : (nms us).Nodup) {z : Str} (h : z ∈ nms us) : ∃ r, look us z = some r ∧ (z, r) ∈ us := by
  obtain ⟨w, hw, rfl⟩ := List.mem_map.mp h
  exact ⟨w.2, look_mem nd hw, hw⟩
theorem look_perm {us ws : List Win} (nd : (nms ws).Nodup) (p : us.Perm ws) (z : Str) : look us z = look ws z := by
  have nd' : (nms us).Nodup := (p.map _).nodup_iff.mpr nd
  cases h : look ws z with
  | some r => exact look_mem nd' (w := (z, r)) (p.mem_iff.mpr (look_some h))
  | none =>
    cases g : look us z with
    | none => rfl
    | some r =>
      have := look_mem nd (w := (z, r)) (p.mem_iff.mp (look_some g))
      rw [h] at this
      cases this
theorem bIx_win {us : List Win} {z : Str} {r : R} (h : look us z = some r) : bIx (winD us) (.str z) = some (rectD r) := by
  show (none : Option D).or ((none : Option D).or ((some (valD (us.map wk) (Sum.inr z : Key))).bind fun r => r)) = _
  rw [val_win, h]
  rfl
theorem bIn_win {neg : Bool} (us : List Win) (z : Str) : bIn neg (.str z) (winD us) = some (.bl (neg ^^ (look us z).isSome)) := by
  show (none : Option D).or ((some (D.bl (neg ^^ (valD (us.map wk) (Sum.inr z : Key)).isSome))).or _) = _
  rw [val_win]
  cases look us z <;> rfl
theorem txtKeys_win (us : List Win) : txtKeys (us.map wk) = some (nms us) := by
  induction us with
  | nil => rfl
  | cons u us ih =>
    show (txtKeys (us.map wk)).map _ = _
    rw [ih]
    rfl
theorem any_str (zs : List Str) (n : Str) : ((zs.map D.str).any fun y => eqF y (.str n)) = decide (n ∈ zs) := by
  induction zs with
  | nil => rfl
  | cons z zs ih =>
    rw [List.map_cons, List.any_cons, ih]
    show ((z == n) || decide (n ∈ zs)) = _
    by_cases h : z = n
    · subst h
      simp
    · have : (z == n) = false := beq_eq_false_iff_ne.mpr h
      rw [this, Bool.false_or]
      exact decide_eq_decide.mpr ⟨fun h => List.mem_cons_of_mem _ h, fun h2 => (List.mem_cons.mp h2).elim (fun e => (h e.symm).elim) id⟩
theorem leaf_strs (zs : List Str) : (zs.map D.str).all D.leaf = true := by
  rw [List.all_eq_true]
  intro d hd
  obtain ⟨z, _, rfl⟩ := List.mem_map.mp hd
  rfl
/-- a list or a tuple of texts -/
def IsSeq (d : D) (zs : List Str) : Prop := d = .lst (zs.map D.str) ∨ d = .tup (zs.map D.str)
theorem bIn_strs {neg : Bool} {d : D} {zs : List Str} (h : IsSeq d zs) (n : Str) : bIn neg (.str n) d = some (.bl (neg ^^ decide (n ∈ zs))) := by
  rcases h with rfl | rfl
  · show ((if D.leaf (.str n) = true ∧ (zs.map D.str).all D.leaf = true then some (D.bl (neg ^^ (zs.map D.str).any fun y => eqF y (.str n))) else none)).or _ = _
    rw [if_pos ⟨rfl, leaf_strs zs⟩, any_str]
    rfl
  · show ((if D.leaf (.str n) = true ∧ (zs.map D.str).all D.leaf = true then some (D.bl (neg ^^ (zs.map D.str).any fun y => eqF y (.str n))) else none)).or _ = _
    rw [if_pos ⟨rfl, leaf_strs zs⟩, any_str]
    rfl
theorem len_strs {d : D} {zs : List Str} (h : IsSeq d zs) : lenD [d] = some (.int zs.length) := by
  rcases h with rfl | rfl
  · show some (D.int ((zs.map D.str).length : Int)) = _
    rw [List.length_map]
  · show some (D.int ((zs.map D.str).length : Int)) = _
    rw [List.length_map]
theorem seq_strs {d : D} {zs : List Str} (h : IsSeq d zs) {P : List D → Prop} (q : P (zs.map D.str)) : ob (lstD d) P ∨ ob (tupD d) P ∨ ob (sgnD d) P := by
  rcases h with rfl | rfl
  · exact .inl q
  · exact .inr (.inl q)
/-! ### desks -/
def sp_check_windows : DSp := fun ds P => ∃ ws, ds = [winD ws] ∧ WOk ws ∧ 1 ≤ ws.length ∧ ws.length ≤ 24 ∧ P .non
def d_check_windows : TDS := (sSeq (sIf (dNotT (dT (dChain bLe bLe (dC (.int 1)) (dCa lenD (aCons (dV 0) aNil)) (dC (.int 24))))) sNever sNil)
  (sSeq (sSet 1 (dSort (dV 0)))
  (sSeq (sFor (iSeq (dV 1)) (gNm 2) (sIf (dNotT (dT (dCall sp_is_name (aCons (dV 2) aNil)))) sNever sNil))
  (sFor (iSeq (dV 1)) (gNm 2) (sIf (dNotT (dT (dCall sp_is_rectangle (aCons (dO2 bIx (dV 0) (dV 2)) aNil)))) sNever sNil)))))
theorem sort_name {ws : List Win} {ys : List Str} (W : WOk ws) (h : SortS (nms ws) ys) : ∀ y ∈ ys, NameOk y ∧ ∃ r, look ws y = some r ∧ r.good := fun y hy => by
  obtain ⟨w, hw, rfl⟩ := List.mem_map.mp (h.1.mem_iff.mp hy)
  exact ⟨W.nm w hw, w.2, look_mem W.nd hw, W.gd w hw⟩
theorem rd_check_windows {ds : List D} {P : D → Prop} (h : sp_check_windows ds P) : d_check_windows (fin false P) (st 3 ds) := by
  obtain ⟨ws, rfl, W, l1, l2, q⟩ := h
  have e1 : decide ((1 : Int) ≤ (ws.map wk).length) = true := by rw [List.length_map]; exact decide_eq_true (by omega)
  have e2 : decide (((ws.map wk).length : Int) ≤ 24) = true := by rw [List.length_map]; exact decide_eq_true (by omega)
  simp only [d_check_windows, dC, dV, dB, dO2, ob_some, dT, dAndT, dOrT, dNotT, dIf, dAndV, dOrV, dNotV, dChain, aNil, aCons, dTup, dLst, dCut, oNone, oSome, dRev, dNeg, dTru, dCa, dIs, dIsA, dCall, dCallK, sNil, sSeq, sNever, sBrk, sCont, sIf, sRet, sRetO, sRetE, sSet, sSetO, sDrop, sPar, sPar3, kn, enOf, owD, sAsg, gNm, gsNil, gsCons, gTp, sApp, sIns, sExt, sClr, sRev, sPut, sFrz, owAt, fin, st, iRng, iRngB, iSeq, lstD, tupD, sFor, dLc, dDc, wipeE, tYesD, dIndex, dSort, dDictZip, dMeth, dFld, dMk, List.map_cons, List.map_nil, List.length_cons, List.length_nil, List.replicate_succ, List.replicate_zero, List.cons_append, List.nil_append, List.append_nil, List.getElem?_cons_zero, List.getElem?_cons_succ, List.set_cons_zero, List.set_cons_succ, Option.bind_some, Option.map_some, Nat.reduceSub, Nat.reduceAdd, kwP, List.getD_cons_zero, List.getD_cons_succ, winD, lenD, bLe_i, e1, e2, Bool.not_true, Bool.false_eq_true, if_false]
  refine ⟨_, txtKeys_win ws, by unfold nms; rw [List.length_map]; omega, fun ys hs => .inl ?_⟩
  have key := sort_name W hs
  refine loop_all D.str ys (fun _ env => ∃ e, env = [.fz (winD ws), .fz (.lst (ys.map D.str)), e]) ⟨.no, rfl⟩ (fun pre a post env e h k hk => ?_) (fun env h => ?_)
  · obtain ⟨e3, rfl⟩ := h
    have ha := key a (by rw [e]; simp)
    simp only [dC, dV, dB, dO2, ob_some, dT, dAndT, dOrT, dNotT, dIf, dAndV, dOrV, dNotV, dChain, aNil, aCons, dTup, dLst, dCut, oNone, oSome, dRev, dNeg, dTru, dCa, dIs, dIsA, dCall, dCallK, sNil, sSeq, sNever, sBrk, sCont, sIf, sRet, sRetO, sRetE, sSet, sSetO, sDrop, sPar, sPar3, kn, enOf, owD, sAsg, gNm, gsNil, gsCons, gTp, sApp, sIns, sExt, sClr, sRev, sPut, sFrz, owAt, fin, st, iRng, iRngB, iSeq, lstD, tupD, sFor, dLc, dDc, wipeE, tYesD, dIndex, dSort, dDictZip, dMeth, dFld, dMk, List.map_cons, List.map_nil, List.length_cons, List.length_nil, List.replicate_succ, List.replicate_zero, List.cons_append, List.nil_append, List.append_nil, List.getElem?_cons_zero, List.getElem?_cons_succ, List.set_cons_zero, List.set_cons_succ, Option.bind_some, Option.map_some, Nat.reduceSub, Nat.reduceAdd, kwP, List.getD_cons_zero, List.getD_cons_succ]
    refine ⟨a, rfl, by have := ha.1.2.1; omega, ?_⟩
    rw [decide_eq_true ha.1]
    simp only [Bool.not_true, Bool.false_eq_true, if_false]
    exact hk _ ⟨_, rfl⟩
  · obtain ⟨e3, rfl⟩ := h
    simp only [dC, dV, dB, dO2, ob_some, dT, dAndT, dOrT, dNotT, dIf, dAndV, dOrV, dNotV, dChain, aNil, aCons, dTup, dLst, dCut, oNone, oSome, dRev, dNeg, dTru, dCa, dIs, dIsA, dCall, dCallK, sNil, sSeq, sNever, sBrk, sCont, sIf, sRet, sRetO, sRetE, sSet, sSetO, sDrop, sPar, sPar3, kn, enOf, owD, sAsg, gNm, gsNil, gsCons, gTp, sApp, sIns, sExt, sClr, sRev, sPut, sFrz, owAt, fin, st, iRng, iRngB, iSeq, lstD, tupD, sFor, dLc, dDc, wipeE, tYesD, dIndex, dSort, dDictZip, dMeth, dFld, dMk, List.map_cons, List.map_nil, List.length_cons, List.length_nil, List.replicate_succ, List.replicate_zero, List.cons_append, List.nil_append, List.append_nil, List.getElem?_cons_zero, List.getElem?_cons_succ, List.set_cons_zero, List.set_cons_succ, Option.bind_some, Option.map_some, Nat.reduceSub, Nat.reduceAdd, kwP, List.getD_cons_zero, List.getD_cons_succ]
    refine .inl (loop_all D.str ys (fun _ env => ∃ e, env = [.fz (winD ws), .fz (.lst (ys.map D.str)), e]) ⟨_, rfl⟩ (fun pre a post env e h k hk => ?_) (fun env h => ?_))
    · obtain ⟨e4, rfl⟩ := h
      obtain ⟨_, r, hr, gr⟩ := key a (by rw [e]; simp)
      simp only [dC, dV, dB, dO2, ob_some, dT, dAndT, dOrT, dNotT, dIf, dAndV, dOrV, dNotV, dChain, aNil, aCons, dTup, dLst, dCut, oNone, oSome, dRev, dNeg, dTru, dCa, dIs, dIsA, dCall, dCallK, sNil, sSeq, sNever, sBrk, sCont, sIf, sRet, sRetO, sRetE, sSet, sSetO, sDrop, sPar, sPar3, kn, enOf, owD, sAsg, gNm, gsNil, gsCons, gTp, sApp, sIns, sExt, sClr, sRev, sPut, sFrz, owAt, fin, st, iRng, iRngB, iSeq, lstD, tupD, sFor, dLc, dDc, wipeE, tYesD, dIndex, dSort, dDictZip, dMeth, dFld, dMk, List.map_cons, List.map_nil, List.length_cons, List.length_nil, List.replicate_succ, List.replicate_zero, List.cons_append, List.nil_append, List.append_nil, List.getElem?_cons_zero, List.getElem?_cons_succ, List.set_cons_zero, List.set_cons_succ, Option.bind_some, Option.map_some, Nat.reduceSub, Nat.reduceAdd, kwP, List.getD_cons_zero, List.getD_cons_succ, bIx_win hr]
      refine ⟨r, rfl, ?_⟩
      rw [decide_eq_true gr]
      simp only [Bool.not_true, Bool.false_eq_true, if_false]
      exact hk _ ⟨_, rfl⟩
    · exact ⟨trivial, q⟩
def SortW (us : List Win) : Prop := (nms us).Pairwise leS
def sp_Desk___init : DSp := fun ds P => ∃ ws, ds = [winD ws] ∧ WOk ws ∧ 1 ≤ ws.length ∧ ws.length ≤ 24 ∧ ∀ us, us.Perm ws → SortW us → P (winD us)
def deskD (C : Addr) (us : List Win) : D := .obj C [("windows", winD us)]
theorem lookW (us : List Win) : ([(("windows" : Str), winD us)] : List (Str × D)).lookup ("windows" : Str) = some (winD us) := by
  simp [List.lookup]
def sp_Desk_names (C : Addr) : DSp := fun ds P => ∃ us, ds = [deskD C us] ∧ P (.lst ((nms us).map D.str))
def d_Desk_names (C_Desk : Addr) : TDS := (sRet (dCa listD (aCons (dFld C_Desk "windows" (dV 0)) aNil)))
theorem rd_Desk_names {C : Addr} {ds : List D} {P : D → Prop} (h : sp_Desk_names C ds P) : d_Desk_names C (fin true P) (st 1 ds) := by
  obtain ⟨us, rfl, q⟩ := h
  have e : listD [winD us] = some (.lst ((nms us).map D.str)) := by
    show some (D.lst ((us.map wk).map fun kd => keyV kd.1)) = _
    rw [List.map_map]
    unfold nms
    rw [List.map_map]
    rfl
  simp only [d_Desk_names, dC, dV, dB, dO2, ob_some, dT, dAndT, dOrT, dNotT, dIf, dAndV, dOrV, dNotV, dChain, aNil, aCons, dTup, dLst, dCut, oNone, oSome, dRev, dNeg, dTru, dCa, dIs, dIsA, dCall, dCallK, sNil, sSeq, sNever, sBrk, sCont, sIf, sRet, sRetO, sRetE, sSet, sSetO, sDrop, sPar, sPar3, kn, enOf, owD, sAsg, gNm, gsNil, gsCons, gTp, sApp, sIns, sExt, sClr, sRev, sPut, sFrz, owAt, fin, st, iRng, iRngB, iSeq, lstD, tupD, sFor, dLc, dDc, wipeE, tYesD, dIndex, dSort, dDictZip, dMeth, dFld, dMk, List.map_cons, List.map_nil, List.length_cons, List.length_nil, List.replicate_succ, List.replicate_zero, List.cons_append, List.nil_append, List.append_nil, List.getElem?_cons_zero, List.getElem?_cons_succ, List.set_cons_zero, List.set_cons_succ, Option.bind_some, Option.map_some, Nat.reduceSub, Nat.reduceAdd, kwP, List.getD_cons_zero, List.getD_cons_succ, deskD, lookW, e]
  exact ⟨trivial, q⟩
def sp_Desk_rectangle (C : Addr) : DSp := fun ds P => ∃ us z r, ds = [deskD C us, .str z] ∧ look us z = some r ∧ P (rectD r)
def d_Desk_rectangle (C_Desk : Addr) : TDS := (sSeq (sIf (dT (dO2 (bIn true) (dV 1) (dFld C_Desk "windows" (dV 0)))) sNever sNil)
  (sRet (dO2 bIx (dFld C_Desk "windows" (dV 0)) (dV 1))))
theorem rd_Desk_rectangle {C : Addr} {ds : List D} {P : D → Prop} (h : sp_Desk_rectangle C ds P) : d_Desk_rectangle C (fin false P) (st 2 ds) := by
  obtain ⟨us, z, r, rfl, hr, q⟩ := h
  simp only [d_Desk_rectangle, dC, dV, dB, dO2, ob_some, dT, dAndT, dOrT, dNotT, dIf, dAndV, dOrV, dNotV, dChain, aNil, aCons, dTup, dLst, dCut, oNone, oSome, dRev, dNeg, dTru, dCa, dIs, dIsA, dCall, dCallK, sNil, sSeq, sNever, sBrk, sCont, sIf, sRet, sRetO, sRetE, sSet, sSetO, sDrop, sPar, sPar3, kn, enOf, owD, sAsg, gNm, gsNil, gsCons, gTp, sApp, sIns, sExt, sClr, sRev, sPut, sFrz, owAt, fin, st, iRng, iRngB, iSeq, lstD, tupD, sFor, dLc, dDc, wipeE, tYesD, dIndex, dSort, dDictZip, dMeth, dFld, dMk, List.map_cons, List.map_nil, List.length_cons, List.length_nil, List.replicate_succ, List.replicate_zero, List.cons_append, List.nil_append, List.append_nil, List.getElem?_cons_zero, List.getElem?_cons_succ, List.set_cons_zero, List.set_cons_succ, Option.bind_some, Option.map_some, Nat.reduceSub, Nat.reduceAdd, kwP, List.getD_cons_zero, List.getD_cons_succ, deskD, lookW, bIn_win, hr, bIx_win hr, Option.isSome_some, Bool.xor_true, Bool.not_true, Bool.false_eq_true, if_false]
  exact ⟨trivial, trivial, q⟩
/-! ### orders -/
def isOrd (us : List Win) (zs : List Str) : Bool := decide ((zs.length : Int) = us.length) && (nms us).all fun n => decide (n ∈ zs)
def sp_is_order (C : Addr) : DSp := fun ds P => ∃ us d zs, ds = [deskD C us, d] ∧ IsSeq d zs ∧ us.length ≤ 24 ∧ P (.bl (isOrd us zs))
theorem no_m {m : Str} (h : (m == ("windows" : Str)) = false) (us : List Win) : ([(("windows" : Str), winD us)] : List (Str × D)).lookup m = none := by
  simp [List.lookup, h]
def d_is_order (C_Desk : Addr) : TDS := (sSeq (sSet 2 (dMeth C_Desk "names" (sp_Desk_names C_Desk) (dV 0) aNil))
  (sRet (dAndV (dO2 (bEqN false) (dCa lenD (aCons (dV 1) aNil)) (dCa lenD (aCons (dV 2) aNil))) (dCa allD (aCons (dLc (iSeq (dV 2)) (gNm 3) tYesD (dO2 (bIn false) (dV 3) (dV 1)) [3]) aNil)))))
theorem rd_is_order {C : Addr} {ds : List D} {P : D → Prop} (h : sp_is_order C ds P) : d_is_order C (fin false P) (st 4 ds) := by
  obtain ⟨us, d, zs, rfl, hd, hl, q⟩ := h
  have hn : (("names" : Str) == ("windows" : Str)) = false := by decide +kernel
  simp only [d_is_order, dC, dV, dB, dO2, ob_some, dT, dAndT, dOrT, dNotT, dIf, dAndV, dOrV, dNotV, dChain, aNil, aCons, dTup, dLst, dCut, oNone, oSome, dRev, dNeg, dTru, dCa, dIs, dIsA, dCall, dCallK, sNil, sSeq, sNever, sBrk, sCont, sIf, sRet, sRetO, sRetE, sSet, sSetO, sDrop, sPar, sPar3, kn, enOf, owD, sAsg, gNm, gsNil, gsCons, gTp, sApp, sIns, sExt, sClr, sRev, sPut, sFrz, owAt, fin, st, iRng, iRngB, iSeq, lstD, tupD, sFor, dLc, dDc, wipeE, tYesD, dIndex, dSort, dDictZip, dMeth, dFld, dMk, List.map_cons, List.map_nil, List.length_cons, List.length_nil, List.replicate_succ, List.replicate_zero, List.cons_append, List.nil_append, List.append_nil, List.getElem?_cons_zero, List.getElem?_cons_succ, List.set_cons_zero, List.set_cons_succ, Option.bind_some, Option.map_some, Nat.reduceSub, Nat.reduceAdd, kwP, List.getD_cons_zero, List.getD_cons_succ, deskD, no_m hn]
  refine ⟨trivial, trivial, us, rfl, ?_⟩
  have e1 := len_strs hd
  have e2 : lenD [.lst ((nms us).map D.str)] = some (.int us.length) := by rw [len_strs (.inl rfl)]; unfold nms; rw [List.length_map]
  simp only [dC, dV, dB, dO2, ob_some, dT, dAndT, dOrT, dNotT, dIf, dAndV, dOrV, dNotV, dChain, aNil, aCons, dTup, dLst, dCut, oNone, oSome, dRev, dNeg, dTru, dCa, dIs, dIsA, dCall, dCallK, sNil, sSeq, sNever, sBrk, sCont, sIf, sRet, sRetO, sRetE, sSet, sSetO, sDrop, sPar, sPar3, kn, enOf, owD, sAsg, gNm, gsNil, gsCons, gTp, sApp, sIns, sExt, sClr, sRev, sPut, sFrz, owAt, fin, st, iRng, iRngB, iSeq, lstD, tupD, sFor, dLc, dDc, wipeE, tYesD, dIndex, dSort, dDictZip, dMeth, dFld, dMk, List.map_cons, List.map_nil, List.length_cons, List.length_nil, List.replicate_succ, List.replicate_zero, List.cons_append, List.nil_append, List.append_nil, List.getElem?_cons_zero, List.getElem?_cons_succ, List.set_cons_zero, List.set_cons_succ, Option.bind_some, Option.map_some, Nat.reduceSub, Nat.reduceAdd, kwP, List.getD_cons_zero, List.getD_cons_succ, e1, e2, bEq_i]
  refine ite2 (fun h => .inl ?_) (fun h => ?_)
  · refine comp_map D.str (fun n => D.bl (decide (n ∈ zs))) (nms us) [] (fun n hn Q Z hQ => ?_) (by unfold nms; simp; omega) ?_
    · simp only [dC, dV, dB, dO2, ob_some, dT, dAndT, dOrT, dNotT, dIf, dAndV, dOrV, dNotV, dChain, aNil, aCons, dTup, dLst, dCut, oNone, oSome, dRev, dNeg, dTru, dCa, dIs, dIsA, dCall, dCallK, sNil, sSeq, sNever, sBrk, sCont, sIf, sRet, sRetO, sRetE, sSet, sSetO, sDrop, sPar, sPar3, kn, enOf, owD, sAsg, gNm, gsNil, gsCons, gTp, sApp, sIns, sExt, sClr, sRev, sPut, sFrz, owAt, fin, st, iRng, iRngB, iSeq, lstD, tupD, sFor, dLc, dDc, wipeE, tYesD, dIndex, dSort, dDictZip, dMeth, dFld, dMk, List.map_cons, List.map_nil, List.length_cons, List.length_nil, List.replicate_succ, List.replicate_zero, List.cons_append, List.nil_append, List.append_nil, List.getElem?_cons_zero, List.getElem?_cons_succ, List.set_cons_zero, List.set_cons_succ, Option.bind_some, Option.map_some, Nat.reduceSub, Nat.reduceAdd, kwP, List.getD_cons_zero, List.getD_cons_succ, bIn_strs hd, Bool.false_xor, if_true]
      exact hQ
    · rw [List.nil_append, allD_f]
      unfold isOrd at q
      rw [h, Bool.true_and] at q
      exact q
  · unfold isOrd at q
    rw [Bool.eq_false_iff.mpr h, Bool.false_and] at q
    exact q
theorem ord_of {us : List Win} {zs : List Str} (h : zs.Perm (nms us)) : isOrd us zs = true := by
  unfold isOrd
  rw [Bool.and_eq_true]
  refine ⟨decide_eq_true (by have := h.length_eq; unfold nms at this; rw [List.length_map] at this; omega), List.all_eq_true.mpr fun n hn => decide_eq_true (h.mem_iff.mpr hn)⟩
def sp_check_order (C : Addr) : DSp := fun ds P => ∃ us d zs, ds = [deskD C us, d] ∧ IsSeq d zs ∧ us.length ≤ 24 ∧ isOrd us zs = true ∧ P .non
def d_check_order (C_Desk : Addr) : TDS := (sIf (dNotT (dT (dCall (sp_is_order C_Desk) (aCons (dV 0) (aCons (dV 1) aNil))))) sNever sNil)
theorem rd_check_order {C : Addr} {ds : List D} {P : D → Prop} (h : sp_check_order C ds P) : d_check_order C (fin false P) (st 2 ds) := by
  obtain ⟨us, d, zs, rfl, hd, hl, ho, q⟩ := h
  simp only [d_check_order, dC, dV, dB, dO2, ob_some, dT, dAndT, dOrT, dNotT, dIf, dAndV, dOrV, dNotV, dChain, aNil, aCons, dTup, dLst, dCut, oNone, oSome, dRev, dNeg, dTru, dCa, dIs, dIsA, dCall, dCallK, sNil, sSeq, sNever, sBrk, sCont, sIf, sRet, sRetO, sRetE, sSet, sSetO, sDrop, sPar, sPar3, kn, enOf, owD, sAsg, gNm, gsNil, gsCons, gTp, sApp, sIns, sExt, sClr, sRev, sPut, sFrz, owAt, fin, st, iRng, iRngB, iSeq, lstD, tupD, sFor, dLc, dDc, wipeE, tYesD, dIndex, dSort, dDictZip, dMeth, dFld, dMk, List.map_cons, List.map_nil, List.length_cons, List.length_nil, List.replicate_succ, List.replicate_zero, List.cons_append, List.nil_append, List.append_nil, List.getElem?_cons_zero, List.getElem?_cons_succ, List.set_cons_zero, List.set_cons_succ, Option.bind_some, Option.map_some, Nat.reduceSub, Nat.reduceAdd, kwP, List.getD_cons_zero, List.getD_cons_succ]
  refine ⟨us, d, zs, rfl, hd, hl, ?_⟩
  rw [ho]
  simp only [Bool.not_true, Bool.false_eq_true, if_false]
  exact ⟨trivial, q⟩
/-! ### sights -/
def cov (us : List Win) (x y : Int) (z : Str) : Bool := match look us z with | some r => decide (r.has x y) | none => false
theorem cov_perm {us ws : List Win} (nd : (nms ws).Nodup) (p : us.Perm ws) (x y : Int) : cov us x y = cov ws x y := by
  funext z
  unfold cov
  rw [look_perm nd p]
def topD (zs : List Str) : D := match zs.getLast? with | some z => .str z | none => .non
def sp_covering (C : Addr) : DSp := fun ds P => ∃ us d zs x y, ds = [deskD C us, d, .int x, .int y] ∧ IsSeq d zs ∧ zs.length ≤ 1000 ∧ (nms us).Nodup ∧ (∀ z ∈ zs, z ∈ nms us) ∧ P (.lst ((zs.filter (cov us x y)).map D.str))
def d_covering (C_Desk : Addr) : TDS := (sRet (dLc (iSeq (dV 1)) (gNm 4) (dT (dCall sp_covers (aCons (dMeth C_Desk "rectangle" (sp_Desk_rectangle C_Desk) (dV 0) (aCons (dV 4) aNil)) (aCons (dV 2) (aCons (dV 3) aNil))))) (dV 4) [4]))
theorem rd_covering {C : Addr} {ds : List D} {P : D → Prop} (h : sp_covering C ds P) : d_covering C (fin true P) (st 5 ds) := by
  obtain ⟨us, d, zs, x, y, rfl, hd, hl, nd, hz, q⟩ := h
  simp only [d_covering, dC, dV, dB, dO2, ob_some, dT, dAndT, dOrT, dNotT, dIf, dAndV, dOrV, dNotV, dChain, aNil, aCons, dTup, dLst, dCut, oNone, oSome, dRev, dNeg, dTru, dCa, dIs, dIsA, dCall, dCallK, sNil, sSeq, sNever, sBrk, sCont, sIf, sRet, sRetO, sRetE, sSet, sSetO, sDrop, sPar, sPar3, kn, enOf, owD, sAsg, gNm, gsNil, gsCons, gTp, sApp, sIns, sExt, sClr, sRev, sPut, sFrz, owAt, fin, st, iRng, iRngB, iSeq, lstD, tupD, sFor, dLc, dDc, wipeE, tYesD, dIndex, dSort, dDictZip, dMeth, dFld, dMk, List.map_cons, List.map_nil, List.length_cons, List.length_nil, List.replicate_succ, List.replicate_zero, List.cons_append, List.nil_append, List.append_nil, List.getElem?_cons_zero, List.getElem?_cons_succ, List.set_cons_zero, List.set_cons_succ, Option.bind_some, Option.map_some, Nat.reduceSub, Nat.reduceAdd, kwP, List.getD_cons_zero, List.getD_cons_succ]
  refine seq_strs hd ?_
  refine comp_filter D.str D.str (cov us x y) zs [] (fun z hz' Q Z h1 h2 => ?_) (by simp; omega) (by rw [List.nil_append]; exact q)
  have hn : (("rectangle" : Str) == ("windows" : Str)) = false := by decide +kernel
  obtain ⟨r, hr, _⟩ := look_ex nd (hz z hz')
  simp only [dC, dV, dB, dO2, ob_some, dT, dAndT, dOrT, dNotT, dIf, dAndV, dOrV, dNotV, dChain, aNil, aCons, dTup, dLst, dCut, oNone, oSome, dRev, dNeg, dTru, dCa, dIs, dIsA, dCall, dCallK, sNil, sSeq, sNever, sBrk, sCont, sIf, sRet, sRetO, sRetE, sSet, sSetO, sDrop, sPar, sPar3, kn, enOf, owD, sAsg, gNm, gsNil, gsCons, gTp, sApp, sIns, sExt, sClr, sRev, sPut, sFrz, owAt, fin, st, iRng, iRngB, iSeq, lstD, tupD, sFor, dLc, dDc, wipeE, tYesD, dIndex, dSort, dDictZip, dMeth, dFld, dMk, List.map_cons, List.map_nil, List.length_cons, List.length_nil, List.replicate_succ, List.replicate_zero, List.cons_append, List.nil_append, List.append_nil, List.getElem?_cons_zero, List.getElem?_cons_succ, List.set_cons_zero, List.set_cons_succ, Option.bind_some, Option.map_some, Nat.reduceSub, Nat.reduceAdd, kwP, List.getD_cons_zero, List.getD_cons_succ, deskD, no_m hn]
  refine ⟨trivial, trivial, us, z, r, rfl, hr, r, x, y, rfl, ?_⟩
  have e : cov us x y z = decide (r.has x y) := by
    unfold cov
    rw [hr]
  rw [e] at h1 h2
  cases hc : decide (r.has x y) with
  | true => exact h1 hc
  | false => exact h2 hc
theorem last_ix {zs : List Str} (h : zs ≠ []) : bIx (.lst (zs.map D.str)) (.int (-1)) = some (topD zs) := by
  obtain ⟨l, z, rfl⟩ : ∃ l z, zs = l ++ [z] := by
    rcases List.eq_nil_or_concat zs with h' | ⟨l, z, h'⟩
    · exact (h h').elim
    · exact ⟨l, z, by simpa using h'⟩
  show (atI ((l ++ [z]).map D.str) (-1)).or _ = _
  rw [List.map_append, List.map_cons, List.map_nil, atI_last]
  unfold topD
  rw [List.getLast?_append]
  rfl
def sp_top_window (C : Addr) : DSp := fun ds P => ∃ us d zs x y, ds = [deskD C us, d, .int x, .int y] ∧ IsSeq d zs ∧ zs.length ≤ 1000 ∧ (nms us).Nodup ∧ (∀ z ∈ zs, z ∈ nms us) ∧ P (topD (zs.filter (cov us x y)))
def d_top_window (C_Desk : Addr) : TDS := (sSeq (sSet 4 (dCall (sp_covering C_Desk) (aCons (dV 0) (aCons (dV 1) (aCons (dV 2) (aCons (dV 3) aNil))))))
  (sRet (dIf (dTru (dV 4)) (dO2 bIx (dV 4) (dNeg (dC (.int 1)))) (dC .non))))
theorem rd_top_window {C : Addr} {ds : List D} {P : D → Prop} (h : sp_top_window C ds P) : d_top_window C (fin false P) (st 5 ds) := by
  obtain ⟨us, d, zs, x, y, rfl, hd, hl, nd, hz, q⟩ := h
  simp only [d_top_window, dC, dV, dB, dO2, ob_some, dT, dAndT, dOrT, dNotT, dIf, dAndV, dOrV, dNotV, dChain, aNil, aCons, dTup, dLst, dCut, oNone, oSome, dRev, dNeg, dTru, dCa, dIs, dIsA, dCall, dCallK, sNil, sSeq, sNever, sBrk, sCont, sIf, sRet, sRetO, sRetE, sSet, sSetO, sDrop, sPar, sPar3, kn, enOf, owD, sAsg, gNm, gsNil, gsCons, gTp, sApp, sIns, sExt, sClr, sRev, sPut, sFrz, owAt, fin, st, iRng, iRngB, iSeq, lstD, tupD, sFor, dLc, dDc, wipeE, tYesD, dIndex, dSort, dDictZip, dMeth, dFld, dMk, List.map_cons, List.map_nil, List.length_cons, List.length_nil, List.replicate_succ, List.replicate_zero, List.cons_append, List.nil_append, List.append_nil, List.getElem?_cons_zero, List.getElem?_cons_succ, List.set_cons_zero, List.set_cons_succ, Option.bind_some, Option.map_some, Nat.reduceSub, Nat.reduceAdd, kwP, List.getD_cons_zero, List.getD_cons_succ]
  refine ⟨us, d, zs, x, y, rfl, hd, hl, nd, hz, ?_⟩
  generalize zs.filter (cov us x y) = ts at q
  simp only [truD, ob_some]
  cases ts with
  | nil => exact q
  | cons t ts =>
    show ob (bIx (.lst ((t :: ts).map D.str)) (.int (-1))) P
    rw [last_ix (by simp)]
    exact q
def sp_seen (C : Addr) : DSp := fun ds P => ∃ us d zs x y, ds = [deskD C us, d, .int x, .int y] ∧ IsSeq d zs ∧ us.length ≤ 24 ∧ (nms us).Nodup ∧ zs.Perm (nms us) ∧ P (topD (zs.filter (cov us x y)))
def d_seen (C_Desk : Addr) : TDS := (sSeq (sDrop (dCall (sp_check_order C_Desk) (aCons (dV 0) (aCons (dV 1) aNil))))
  (sRet (dCall (sp_top_window C_Desk) (aCons (dV 0) (aCons (dV 1) (aCons (dV 2) (aCons (dV 3) aNil)))))))
theorem rd_seen {C : Addr} {ds : List D} {P : D → Prop} (h : sp_seen C ds P) : d_seen C (fin false P) (st 4 ds) := by
  obtain ⟨us, d, zs, x, y, rfl, hd, hl, nd, hp, q⟩ := h
  have hlen : zs.length ≤ 1000 := by have := hp.length_eq; unfold nms at this; rw [List.length_map] at this; omega
  simp only [d_seen, dC, dV, dB, dO2, ob_some, dT, dAndT, dOrT, dNotT, dIf, dAndV, dOrV, dNotV, dChain, aNil, aCons, dTup, dLst, dCut, oNone, oSome, dRev, dNeg, dTru, dCa, dIs, dIsA, dCall, dCallK, sNil, sSeq, sNever, sBrk, sCont, sIf, sRet, sRetO, sRetE, sSet, sSetO, sDrop, sPar, sPar3, kn, enOf, owD, sAsg, gNm, gsNil, gsCons, gTp, sApp, sIns, sExt, sClr, sRev, sPut, sFrz, owAt, fin, st, iRng, iRngB, iSeq, lstD, tupD, sFor, dLc, dDc, wipeE, tYesD, dIndex, dSort, dDictZip, dMeth, dFld, dMk, List.map_cons, List.map_nil, List.length_cons, List.length_nil, List.replicate_succ, List.replicate_zero, List.cons_append, List.nil_append, List.append_nil, List.getElem?_cons_zero, List.getElem?_cons_succ, List.set_cons_zero, List.set_cons_succ, Option.bind_some, Option.map_some, Nat.reduceSub, Nat.reduceAdd, kwP, List.getD_cons_zero, List.getD_cons_succ]
  exact ⟨us, d, zs, rfl, hd, hl, ord_of hp, us, d, zs, x, y, rfl, hd, hlen, nd, fun z hz => hp.mem_iff.mp hz, q⟩
/-! ### the law's own -/
theorem topD_like {zs : List Str} (h : ∀ z ∈ zs, NameOk z) : likeD 0 (topD zs) = true := by
  unfold topD
  cases e : zs.getLast? with
  | none => rfl
  | some z => exact name_ok (h z (List.mem_of_getLast? e))
def sp_l_seen : DSp := fun ds P => ∃ (ws : List Win) (zs : List Str) (x y : Int), ds = [winD ws, .lst (zs.map D.str), .int x, .int y] ∧ zs.length ≤ 1000 ∧ WOk ws ∧ (∀ z ∈ zs, z ∈ nms ws) ∧ P (topD (zs.filter (cov ws x y)))
def d_l_seen : TDS := (sSeq (sSet 4 (dLc (iSeq (dV 1)) (gNm 5) (dAndT (dT (dChain bLe (iI0 fun i j => .bl (decide (i < j))) (dO2 bIx (dO2 bIx (dV 0) (dV 5)) (dC (.int 0))) (dV 2) (dO2 bIx (dO2 bIx (dV 0) (dV 5)) (dC (.int 2))))) (dT (dChain bLe (iI0 fun i j => .bl (decide (i < j))) (dO2 bIx (dO2 bIx (dV 0) (dV 5)) (dC (.int 1))) (dV 3) (dO2 bIx (dO2 bIx (dV 0) (dV 5)) (dC (.int 3)))))) (dV 5) [5]))
  (sRet (dIf (dT (dO2 (bEqN true) (dV 4) (dLst aNil))) (dO2 bIx (dV 4) (dNeg (dC (.int 1)))) (dC .non))))
theorem rd_l_seen {ds : List D} {P : D → Prop} (h : sp_l_seen ds P) : d_l_seen (fin false P) (st 6 ds) := by
  obtain ⟨ws, zs, x, y, rfl, hl, W, hz, q⟩ := h
  simp only [d_l_seen, dC, dV, dB, dO2, ob_some, dT, dAndT, dOrT, dNotT, dIf, dAndV, dOrV, dNotV, dChain, aNil, aCons, dTup, dLst, dCut, oNone, oSome, dRev, dNeg, dTru, dCa, dIs, dIsA, dCall, dCallK, sNil, sSeq, sNever, sBrk, sCont, sIf, sRet, sRetO, sRetE, sSet, sSetO, sDrop, sPar, sPar3, kn, enOf, owD, sAsg, gNm, gsNil, gsCons, gTp, sApp, sIns, sExt, sClr, sRev, sPut, sFrz, owAt, fin, st, iRng, iRngB, iSeq, lstD, tupD, sFor, dLc, dDc, wipeE, tYesD, dIndex, dSort, dDictZip, dMeth, dFld, dMk, List.map_cons, List.map_nil, List.length_cons, List.length_nil, List.replicate_succ, List.replicate_zero, List.cons_append, List.nil_append, List.append_nil, List.getElem?_cons_zero, List.getElem?_cons_succ, List.set_cons_zero, List.set_cons_succ, Option.bind_some, Option.map_some, Nat.reduceSub, Nat.reduceAdd, kwP, List.getD_cons_zero, List.getD_cons_succ]
  refine .inl ?_
  refine comp_filter D.str D.str (cov ws x y) zs [] (fun z hz' Q Z h1 h2 => ?_) (by simp; omega) ?_
  · obtain ⟨r, hr, _⟩ := look_ex W.nd (hz z hz')
    have e : cov ws x y z = (decide (r.l ≤ x) && (decide (x < r.r) && (decide (r.t ≤ y) && decide (y < r.b)))) := by
      unfold cov
      rw [hr]
      exact and4
    rw [e] at h1 h2
    have i0 : bIx (rectD r) (.int 0) = some (.int r.l) := rfl
    have i1 : bIx (rectD r) (.int 1) = some (.int r.t) := rfl
    have i2 : bIx (rectD r) (.int 2) = some (.int r.r) := rfl
    have i3 : bIx (rectD r) (.int 3) = some (.int r.b) := rfl
    simp only [dC, dV, dB, dO2, ob_some, dT, dAndT, dOrT, dNotT, dIf, dAndV, dOrV, dNotV, dChain, aNil, aCons, dTup, dLst, dCut, oNone, oSome, dRev, dNeg, dTru, dCa, dIs, dIsA, dCall, dCallK, sNil, sSeq, sNever, sBrk, sCont, sIf, sRet, sRetO, sRetE, sSet, sSetO, sDrop, sPar, sPar3, kn, enOf, owD, sAsg, gNm, gsNil, gsCons, gTp, sApp, sIns, sExt, sClr, sRev, sPut, sFrz, owAt, fin, st, iRng, iRngB, iSeq, lstD, tupD, sFor, dLc, dDc, wipeE, tYesD, dIndex, dSort, dDictZip, dMeth, dFld, dMk, List.map_cons, List.map_nil, List.length_cons, List.length_nil, List.replicate_succ, List.replicate_zero, List.cons_append, List.nil_append, List.append_nil, List.getElem?_cons_zero, List.getElem?_cons_succ, List.set_cons_zero, List.set_cons_succ, Option.bind_some, Option.map_some, Nat.reduceSub, Nat.reduceAdd, kwP, List.getD_cons_zero, List.getD_cons_succ, bIx_win hr, i0, i1, i2, i3, bLe_i, iLt_i]
    cases a1 : decide (r.l ≤ x) with
    | false => rw [a1] at h2; simpa using h2 rfl
    | true =>
      cases a2 : decide (x < r.r) with
      | false => rw [a1, a2] at h2; simpa using h2 rfl
      | true =>
        simp only [if_true]
        cases a3 : decide (r.t ≤ y) with
        | false => rw [a1, a2, a3] at h2; simpa using h2 rfl
        | true =>
          cases a4 : decide (y < r.b) with
          | false => rw [a1, a2, a3, a4] at h2; simpa using h2 rfl
          | true => rw [a1, a2, a3, a4] at h1; simpa using h1 rfl
  · rw [List.nil_append]
    have nm : ∀ z ∈ zs.filter (cov ws x y), NameOk z := fun z hz' => by
      obtain ⟨w, hw, rfl⟩ := List.mem_map.mp (hz z (List.mem_filter.mp hz').1)
      exact W.nm w hw
    generalize zs.filter (cov ws x y) = ts at q nm
    refine ⟨by decide, beq_ob (n := 2) (by decide) (sh_names nm) rfl (fun h => ?_) (fun h => ?_)⟩
    · have : ts = [] := by
        cases ts with
        | nil => rfl
        | cons t ts => cases h
      subst this
      exact q
    · show ob (bIx (.lst (ts.map D.str)) (.int (-1))) P
      rw [last_ix (fun e => h (by rw [e]; rfl))]
      exact q
def sp_spot : DSp := fun ds P => ∃ ws, ds = [.bag, winD ws] ∧ WOk ws ∧ WSm ws ∧ 1 ≤ ws.length ∧ ws.length ≤ 24 ∧ ∀ x y : Int, P (.tup [.int x, .int y])
def d_spot : TDS := (sSeq (sIf (dT (dO2 (bEqN false) (dCall sp_pull (aCons (dV 0) (aCons (dC (.int 4)) aNil))) (dC (.int 0)))) (sRet (dTup (aCons (dO2 bSub (dCall sp_pull (aCons (dV 0) (aCons (dC (.int 15)) aNil))) (dC (.int 6))) (aCons (dO2 bSub (dCall sp_pull (aCons (dV 0) (aCons (dC (.int 15)) aNil))) (dC (.int 6))) aNil)))) sNil)
  (sSeq (sAsg (dO2 bIx (dV 1) (dCall sp_of (aCons (dV 0) (aCons (dSort (dV 1)) aNil)))) (gTp 4 (gsCons (gNm 2) (gsCons (gNm 3) (gsCons (gNm 4) (gsCons (gNm 5) gsNil))))))
  (sSeq (sSet 6 (dCall sp_of (aCons (dV 0) (aCons (dLst (aCons (dV 2) (aCons (dO2 bSub (dV 4) (dC (.int 1))) (aCons (dV 4) (aCons (dO2 bAdd (dV 2) (dCall sp_pull (aCons (dV 0) (aCons (dO2 bSub (dV 4) (dV 2)) aNil)))) aNil))))) aNil))))
  (sRet (dTup (aCons (dV 6) (aCons (dCall sp_of (aCons (dV 0) (aCons (dLst (aCons (dV 3) (aCons (dO2 bSub (dV 5) (dC (.int 1))) (aCons (dO2 bAdd (dV 3) (dCall sp_pull (aCons (dV 0) (aCons (dO2 bSub (dV 5) (dV 3)) aNil)))) aNil)))) aNil))) aNil)))))))
theorem rd_spot {ds : List D} {P : D → Prop} (h : sp_spot ds P) : d_spot (fin true P) (st 7 ds) := by
  obtain ⟨ws, rfl, W, S, l1, l2, q⟩ := h
  simp only [d_spot, dC, dV, dB, dO2, ob_some, dT, dAndT, dOrT, dNotT, dIf, dAndV, dOrV, dNotV, dChain, aNil, aCons, dTup, dLst, dCut, oNone, oSome, dRev, dNeg, dTru, dCa, dIs, dIsA, dCall, dCallK, sNil, sSeq, sNever, sBrk, sCont, sIf, sRet, sRetO, sRetE, sSet, sSetO, sDrop, sPar, sPar3, kn, enOf, owD, sAsg, gNm, gsNil, gsCons, gTp, sApp, sIns, sExt, sClr, sRev, sPut, sFrz, owAt, fin, st, iRng, iRngB, iSeq, lstD, tupD, sFor, dLc, dDc, wipeE, tYesD, dIndex, dSort, dDictZip, dMeth, dFld, dMk, List.map_cons, List.map_nil, List.length_cons, List.length_nil, List.replicate_succ, List.replicate_zero, List.cons_append, List.nil_append, List.append_nil, List.getElem?_cons_zero, List.getElem?_cons_succ, List.set_cons_zero, List.set_cons_succ, Option.bind_some, Option.map_some, Nat.reduceSub, Nat.reduceAdd, kwP, List.getD_cons_zero, List.getD_cons_succ, bEq_i, bSub, iI0, winD]
  refine ⟨_, rfl, by decide, by decide, fun r _ _ => ite2 (fun _ => ?_) (fun _ => ?_)⟩
  · exact ⟨_, rfl, by decide, by decide, fun a _ _ => ⟨_, rfl, by decide, by decide, fun b _ _ => ⟨by decide, q _ _⟩⟩⟩
  · refine ⟨_, txtKeys_win ws, by unfold nms; rw [List.length_map]; omega, fun ys hs => .inl ⟨_, .inl rfl, ?_, ?_, fun d hd => ?_⟩⟩
    · rw [List.length_map, hs.1.length_eq]
      unfold nms
      rw [List.length_map]
      exact l1
    · rw [List.length_map, hs.1.length_eq]
      unfold nms
      rw [List.length_map]
      omega
    · obtain ⟨z, hz, rfl⟩ := List.mem_map.mp hd
      obtain ⟨_, p, hp, g⟩ := sort_name W hs z hz
      have hg := g
      have hs2 : p.r - p.l ≤ 400000000 ∧ p.b - p.t ≤ 400000000 := (S _ (look_some hp)).2
      unfold R.good at hg
      have ex : bIx (.dic (ws.map wk)) (.str z) = some (rectD p) := bIx_win hp
      simp only [dC, dV, dB, dO2, ob_some, dT, dAndT, dOrT, dNotT, dIf, dAndV, dOrV, dNotV, dChain, aNil, aCons, dTup, dLst, dCut, oNone, oSome, dRev, dNeg, dTru, dCa, dIs, dIsA, dCall, dCallK, sNil, sSeq, sNever, sBrk, sCont, sIf, sRet, sRetO, sRetE, sSet, sSetO, sDrop, sPar, sPar3, kn, enOf, owD, sAsg, gNm, gsNil, gsCons, gTp, sApp, sIns, sExt, sClr, sRev, sPut, sFrz, owAt, fin, st, iRng, iRngB, iSeq, lstD, tupD, sFor, dLc, dDc, wipeE, tYesD, dIndex, dSort, dDictZip, dMeth, dFld, dMk, List.map_cons, List.map_nil, List.length_cons, List.length_nil, List.replicate_succ, List.replicate_zero, List.cons_append, List.nil_append, List.append_nil, List.getElem?_cons_zero, List.getElem?_cons_succ, List.set_cons_zero, List.set_cons_succ, Option.bind_some, Option.map_some, Nat.reduceSub, Nat.reduceAdd, kwP, List.getD_cons_zero, List.getD_cons_succ, ex, rectD, bAdd_i, iI0]
      refine ⟨trivial, trivial, _, rfl, by omega, by omega, fun a _ _ => ⟨by decide, .inl ⟨_, .inl rfl, by simp, by simp, fun d1 hd1 => ?_⟩⟩⟩
      obtain ⟨x, rfl⟩ : ∃ x, d1 = .int x := by
        simp only [List.mem_cons, List.not_mem_nil, or_false] at hd1
        rcases hd1 with rfl | rfl | rfl | rfl <;> exact ⟨_, rfl⟩
      refine ⟨_, rfl, by omega, by omega, fun b _ _ => ⟨by decide, .inl ⟨_, .inl rfl, by simp, by simp, fun d2 hd2 => ?_⟩⟩⟩
      obtain ⟨y, rfl⟩ : ∃ y, d2 = .int y := by
        simp only [List.mem_cons, List.not_mem_nil, or_false] at hd2
        rcases hd2 with rfl | rfl | rfl <;> exact ⟨_, rfl⟩
      exact ⟨by decide, q x y⟩
end DL

namespace DL
open PySem PySem.Spec PyProof.Rows L2 RK
theorem ln_of {ds : List D} {P : D → Prop} (h : sp_of ds P) : ds.length = 2 := by
  rcases h with ⟨xs, h | h, _⟩ | ⟨z, h, _⟩ <;> (subst h; rfl)
theorem ln_mixed {ds : List D} {P : D → Prop} (h : sp_mixed ds P) : ds.length = 2 := by
  rcases h with ⟨xs, h | h, _⟩ <;> (subst h; rfl)
theorem ln_rectangle {ds : List D} {P : D → Prop} (h : sp_rectangle ds P) : ds.length = 2 := by obtain ⟨_, rfl, _⟩ := h; rfl
theorem ln_names {ds : List D} {P : D → Prop} (h : sp_names ds P) : ds.length = 2 := by obtain ⟨_, rfl, _⟩ := h; rfl
theorem ln_windows {ds : List D} {P : D → Prop} (h : sp_windows ds P) : ds.length = 3 := by obtain ⟨_, _, rfl, _⟩ := h; rfl
theorem ln_has_four_numbers {ds : List D} {P : D → Prop} (h : sp_has_four_numbers ds P) : ds.length = 1 := by obtain ⟨_, rfl, _⟩ := h; rfl
theorem ln_is_rectangle {ds : List D} {P : D → Prop} (h : sp_is_rectangle ds P) : ds.length = 1 := by obtain ⟨_, rfl, _⟩ := h; rfl
theorem ln_covers {ds : List D} {P : D → Prop} (h : sp_covers ds P) : ds.length = 3 := by obtain ⟨_, _, _, rfl, _⟩ := h; rfl
theorem ln_is_name {ds : List D} {P : D → Prop} (h : sp_is_name ds P) : ds.length = 1 := by obtain ⟨_, rfl, _⟩ := h; rfl
theorem ln_check_windows {ds : List D} {P : D → Prop} (h : sp_check_windows ds P) : ds.length = 1 := by obtain ⟨_, rfl, _⟩ := h; rfl
theorem ln_Desk_names {C : Addr} {ds : List D} {P : D → Prop} (h : sp_Desk_names C ds P) : ds.length = 1 := by obtain ⟨_, rfl, _⟩ := h; rfl
theorem ln_Desk_rectangle {C : Addr} {ds : List D} {P : D → Prop} (h : sp_Desk_rectangle C ds P) : ds.length = 2 := by obtain ⟨_, _, _, rfl, _⟩ := h; rfl
theorem ln_is_order {C : Addr} {ds : List D} {P : D → Prop} (h : sp_is_order C ds P) : ds.length = 2 := by obtain ⟨_, _, _, rfl, _⟩ := h; rfl
theorem ln_check_order {C : Addr} {ds : List D} {P : D → Prop} (h : sp_check_order C ds P) : ds.length = 2 := by obtain ⟨_, _, _, rfl, _⟩ := h; rfl
theorem ln_covering {C : Addr} {ds : List D} {P : D → Prop} (h : sp_covering C ds P) : ds.length = 4 := by obtain ⟨_, _, _, _, _, rfl, _⟩ := h; rfl
theorem ln_top_window {C : Addr} {ds : List D} {P : D → Prop} (h : sp_top_window C ds P) : ds.length = 4 := by obtain ⟨_, _, _, _, _, rfl, _⟩ := h; rfl
theorem ln_seen {C : Addr} {ds : List D} {P : D → Prop} (h : sp_seen C ds P) : ds.length = 4 := by obtain ⟨_, _, _, _, _, rfl, _⟩ := h; rfl
theorem ln_l_seen {ds : List D} {P : D → Prop} (h : sp_l_seen ds P) : ds.length = 4 := by obtain ⟨_, _, _, _, rfl, _⟩ := h; rfl
theorem ln_spot {ds : List D} {P : D → Prop} (h : sp_spot ds P) : ds.length = 2 := by obtain ⟨_, rfl, _⟩ := h; rfl
/-! ### a new desk -/
def e1_init : TDE := (dCall sp_check_windows (aCons (dV 1) aNil))
def e2_init : TDE := (dDc (iSeq (dSort (dV 1))) (gNm 2) tYesD (dV 2) (dO2 bIx (dV 1) (dV 2)) [2])
/-- a comprehension of a dict whose keys differ -/
theorem dcomp_new {α : Type} {g : TDG} {tt : TDT} {tk tv : TDE} {P : D → Prop} {env : De} (enc : α → D) (f : α → Key × D) : ∀ (l : List α) (acc : List (Key × D)), (∀ a ∈ l, ∀ (Q : Key → D → Prop) (Z : Prop), Q (f a).1 (f a).2 → g (enc a) env fun env' => tt env' fun b => if b = true then tk env' fun k => tv env' fun y => ob (keyD k) fun k => Q k y else Z) →
    (acc ++ l.map f).length ≤ 1000000 → ((acc ++ l.map f).map (·.1)).Nodup → P (.dic (acc ++ l.map f)) → dDcomp g tt tk tv P env (l.map enc) acc
  | [], acc, _, _, _, q => by
    rw [List.map_nil, List.append_nil] at q
    exact q
  | a :: l, acc, h, hl, nd, q => by
    refine h a List.mem_cons_self (fun k y => acc.length < sizeLine ∧ dDcomp g tt tk tv P env (l.map enc) (putD acc k y)) _ ⟨szM (by simp at hl; omega), ?_⟩
    have hk : (acc.any fun kd => decide (kd.1 = (f a).1)) = false := by
      rw [Bool.eq_false_iff]
      intro hz
      obtain ⟨q', hq, e⟩ := List.any_eq_true.mp hz
      have e := of_decide_eq_true e
      rw [List.map_append, List.nodup_append] at nd
      exact nd.2.2 q'.1 (List.mem_map.mpr ⟨q', hq, rfl⟩) (f a).1 (by simp) e
    have e2 : putD acc (f a).1 (f a).2 = acc ++ [f a] := by
      unfold putD
      rw [hk]
      rfl
    rw [e2]
    refine dcomp_new enc f l (acc ++ [f a]) (fun b hb => h b (List.mem_cons_of_mem _ hb)) ?_ ?_ ?_
    · rw [List.append_assoc]; exact hl
    · rw [List.append_assoc]; exact nd
    · rw [List.append_assoc]; exact q
theorem nodup_wk {us : List Win} (h : (nms us).Nodup) : ((us.map wk).map (·.1)).Nodup := by
  rw [List.map_map]
  have : ((fun kd : Key × D => kd.1) ∘ wk) = Sum.inr ∘ (fun w : Win => w.1) := rfl
  rw [this, ← List.map_map]
  exact nodup_inj (fun a b h => Sum.inr.inj h) h
/-- the windows in the order of their names -/
def byNames (ws : List Win) (ys : List Str) : List Win := ys.map fun y => (y, (look ws y).getD ⟨0, 0, 0, 0⟩)
theorem nms_by (ws : List Win) (ys : List Str) : nms (byNames ws ys) = ys := by
  unfold nms byNames
  rw [List.map_map]
  exact List.map_id _
theorem by_perm {ws : List Win} (nd : (nms ws).Nodup) {ys : List Str} (h : ys.Perm (nms ws)) : (byNames ws ys).Perm ws := by
  have h1 : (byNames ws ys).Perm (byNames ws (nms ws)) := h.map _
  have h2 : byNames ws (nms ws) = ws := by
    unfold byNames nms
    rw [List.map_map]
    have : ∀ w ∈ ws, ((fun y => (y, (look ws y).getD ⟨0, 0, 0, 0⟩)) ∘ fun w : Win => w.1) w = w := fun w hw => by
      show (w.1, (look ws w.1).getD ⟨0, 0, 0, 0⟩) = w
      rw [look_mem nd hw]
      rfl
    rw [List.map_congr_left this, List.map_id']
  rw [h2] at h1
  exact h1
theorem rd_Desk___init {ds : List D} {P : D → Prop} (h : sp_Desk___init ds P) : e1_init (.no :: st 2 ds) fun _ => e2_init (.no :: st 2 ds) P := by
  obtain ⟨ws, rfl, W, l1, l2, q⟩ := h
  simp only [e1_init, e2_init, dC, dV, dB, dO2, ob_some, dT, dAndT, dOrT, dNotT, dIf, dAndV, dOrV, dNotV, dChain, aNil, aCons, dTup, dLst, dCut, oNone, oSome, dRev, dNeg, dTru, dCa, dIs, dIsA, dCall, dCallK, sNil, sSeq, sNever, sBrk, sCont, sIf, sRet, sRetO, sRetE, sSet, sSetO, sDrop, sPar, sPar3, kn, enOf, owD, sAsg, gNm, gsNil, gsCons, gTp, sApp, sIns, sExt, sClr, sRev, sPut, sFrz, owAt, fin, st, iRng, iRngB, iSeq, lstD, tupD, sFor, dLc, dDc, wipeE, tYesD, dIndex, dSort, dDictZip, dMeth, dFld, dMk, List.map_cons, List.map_nil, List.length_cons, List.length_nil, List.replicate_succ, List.replicate_zero, List.cons_append, List.nil_append, List.append_nil, List.getElem?_cons_zero, List.getElem?_cons_succ, List.set_cons_zero, List.set_cons_succ, Option.bind_some, Option.map_some, Nat.reduceSub, Nat.reduceAdd, kwP, List.getD_cons_zero, List.getD_cons_succ]
  refine ⟨ws, rfl, W, l1, l2, ?_⟩
  simp only [winD]
  refine .inl ⟨_, txtKeys_win ws, by unfold nms; rw [List.length_map]; omega, fun ys hs => ?_⟩
  have hp := by_perm W.nd hs.1
  have hlen : ys.length ≤ 24 := by rw [hs.1.length_eq]; unfold nms; rw [List.length_map]; exact l2
  have eb : (ys.map fun y => wk (y, (look ws y).getD ⟨0, 0, 0, 0⟩)) = (byNames ws ys).map wk := by
    unfold byNames
    rw [List.map_map]
    rfl
  refine dcomp_new D.str (fun y => wk (y, (look ws y).getD ⟨0, 0, 0, 0⟩)) ys [] (fun y hy Q Z hQ => ?_) (by simp; omega) ?_ ?_
  · obtain ⟨_, r, hr, _⟩ := sort_name W hs y hy
    have ex : bIx (.dic (ws.map wk)) (.str y) = some (rectD r) := bIx_win hr
    rw [hr] at hQ
    simp only [dC, dV, dB, dO2, ob_some, dT, dAndT, dOrT, dNotT, dIf, dAndV, dOrV, dNotV, dChain, aNil, aCons, dTup, dLst, dCut, oNone, oSome, dRev, dNeg, dTru, dCa, dIs, dIsA, dCall, dCallK, sNil, sSeq, sNever, sBrk, sCont, sIf, sRet, sRetO, sRetE, sSet, sSetO, sDrop, sPar, sPar3, kn, enOf, owD, sAsg, gNm, gsNil, gsCons, gTp, sApp, sIns, sExt, sClr, sRev, sPut, sFrz, owAt, fin, st, iRng, iRngB, iSeq, lstD, tupD, sFor, dLc, dDc, wipeE, tYesD, dIndex, dSort, dDictZip, dMeth, dFld, dMk, List.map_cons, List.map_nil, List.length_cons, List.length_nil, List.replicate_succ, List.replicate_zero, List.cons_append, List.nil_append, List.append_nil, List.getElem?_cons_zero, List.getElem?_cons_succ, List.set_cons_zero, List.set_cons_succ, Option.bind_some, Option.map_some, Nat.reduceSub, Nat.reduceAdd, kwP, List.getD_cons_zero, List.getD_cons_succ, ex, keyD, if_true]
    exact hQ
  · rw [List.nil_append, eb]
    exact nodup_wk (by rw [nms_by]; exact hs.1.nodup_iff.mpr W.nd)
  · rw [List.nil_append, eb]
    exact q _ hp (by unfold SortW; rw [nms_by]; exact sorted_of hs.2)
end DL

namespace DL
open PySem PySem.Spec PyProof.Rows L2 RK
/-! ### rectangles that meet -/
def mx (i j : Int) : Int := if j > i then j else i
def mn (i j : Int) : Int := if j < i then j else i
def meetB (p q : R) : Bool := decide (mx p.l q.l < mn p.r q.r) && decide (mx p.t q.t < mn p.b q.b)
def comD (p q : R) : D := if meetB p q = true then .tup [.int (mx p.l q.l), .int (mx p.t q.t), .int (mn p.r q.r), .int (mn p.b q.b)] else .non
theorem ri0 (r : R) : bIx (rectD r) (.int 0) = some (.int r.l) := rfl
theorem ri1 (r : R) : bIx (rectD r) (.int 1) = some (.int r.t) := rfl
theorem ri2 (r : R) : bIx (rectD r) (.int 2) = some (.int r.r) := rfl
theorem ri3 (r : R) : bIx (rectD r) (.int 3) = some (.int r.b) := rfl
theorem mx_d (i j : Int) : max2D [.int i, .int j] = some (.int (mx i j)) := rfl
theorem mn_d (i j : Int) : min2D [.int i, .int j] = some (.int (mn i j)) := rfl
def sp_common : DSp := fun ds P => ∃ p q, ds = [rectD p, rectD q] ∧ P (comD p q)
def d_common : TDS := (sSeq (sSet 2 (dCa max2D (aCons (dO2 bIx (dV 0) (dC (.int 0))) (aCons (dO2 bIx (dV 1) (dC (.int 0))) aNil))))
  (sSeq (sSet 3 (dCa max2D (aCons (dO2 bIx (dV 0) (dC (.int 1))) (aCons (dO2 bIx (dV 1) (dC (.int 1))) aNil))))
  (sSeq (sSet 4 (dCa min2D (aCons (dO2 bIx (dV 0) (dC (.int 2))) (aCons (dO2 bIx (dV 1) (dC (.int 2))) aNil))))
  (sSeq (sSet 5 (dCa min2D (aCons (dO2 bIx (dV 0) (dC (.int 3))) (aCons (dO2 bIx (dV 1) (dC (.int 3))) aNil))))
  (sSeq (sIf (dAndT (dT (dO2 bLt (dV 2) (dV 4))) (dT (dO2 bLt (dV 3) (dV 5)))) (sRet (dTup (aCons (dV 2) (aCons (dV 3) (aCons (dV 4) (aCons (dV 5) aNil)))))) sNil)
  (sRet (dC .non)))))))
theorem rd_common {ds : List D} {P : D → Prop} (h : sp_common ds P) : d_common (fin false P) (st 6 ds) := by
  obtain ⟨p, q, rfl, h⟩ := h
  simp only [d_common, dC, dV, dB, dO2, ob_some, dT, dAndT, dOrT, dNotT, dIf, dAndV, dOrV, dNotV, dChain, aNil, aCons, dTup, dLst, dCut, oNone, oSome, dRev, dNeg, dTru, dCa, dIs, dIsA, dCall, dCallK, sNil, sSeq, sNever, sBrk, sCont, sIf, sRet, sRetO, sRetE, sSet, sSetO, sDrop, sPar, sPar3, kn, enOf, owD, sAsg, gNm, gsNil, gsCons, gTp, sApp, sIns, sExt, sClr, sRev, sPut, sFrz, owAt, fin, st, iRng, iRngB, iSeq, lstD, tupD, sFor, dLc, dDc, wipeE, tYesD, dIndex, dSort, dDictZip, dMeth, dFld, dMk, List.map_cons, List.map_nil, List.length_cons, List.length_nil, List.replicate_succ, List.replicate_zero, List.cons_append, List.nil_append, List.append_nil, List.getElem?_cons_zero, List.getElem?_cons_succ, List.set_cons_zero, List.set_cons_succ, Option.bind_some, Option.map_some, Nat.reduceSub, Nat.reduceAdd, kwP, List.getD_cons_zero, List.getD_cons_succ, ri0, ri1, ri2, ri3, mx_d, mn_d, bLt_i]
  unfold comD meetB at h
  cases h1 : decide (mx p.l q.l < mn p.r q.r) with
  | false =>
    rw [h1] at h
    simpa using h
  | true =>
    cases h2 : decide (mx p.t q.t < mn p.b q.b) with
    | false =>
      rw [h1, h2] at h
      simpa using h
    | true =>
      rw [h1, h2] at h
      simp only [if_true]
      exact ⟨by decide, h⟩
def sp_meet : DSp := fun ds P => ∃ p q, ds = [rectD p, rectD q] ∧ P (.bl (meetB p q))
def d_meet : TDS := (sRet (dAndV (dO2 bLt (dCa max2D (aCons (dO2 bIx (dV 0) (dC (.int 0))) (aCons (dO2 bIx (dV 1) (dC (.int 0))) aNil))) (dCa min2D (aCons (dO2 bIx (dV 0) (dC (.int 2))) (aCons (dO2 bIx (dV 1) (dC (.int 2))) aNil)))) (dO2 bLt (dCa max2D (aCons (dO2 bIx (dV 0) (dC (.int 1))) (aCons (dO2 bIx (dV 1) (dC (.int 1))) aNil))) (dCa min2D (aCons (dO2 bIx (dV 0) (dC (.int 3))) (aCons (dO2 bIx (dV 1) (dC (.int 3))) aNil))))))
theorem rd_meet {ds : List D} {P : D → Prop} (h : sp_meet ds P) : d_meet (fin false P) (st 2 ds) := by
  obtain ⟨p, q, rfl, h⟩ := h
  simp only [d_meet, dC, dV, dB, dO2, ob_some, dT, dAndT, dOrT, dNotT, dIf, dAndV, dOrV, dNotV, dChain, aNil, aCons, dTup, dLst, dCut, oNone, oSome, dRev, dNeg, dTru, dCa, dIs, dIsA, dCall, dCallK, sNil, sSeq, sNever, sBrk, sCont, sIf, sRet, sRetO, sRetE, sSet, sSetO, sDrop, sPar, sPar3, kn, enOf, owD, sAsg, gNm, gsNil, gsCons, gTp, sApp, sIns, sExt, sClr, sRev, sPut, sFrz, owAt, fin, st, iRng, iRngB, iSeq, lstD, tupD, sFor, dLc, dDc, wipeE, tYesD, dIndex, dSort, dDictZip, dMeth, dFld, dMk, List.map_cons, List.map_nil, List.length_cons, List.length_nil, List.replicate_succ, List.replicate_zero, List.cons_append, List.nil_append, List.append_nil, List.getElem?_cons_zero, List.getElem?_cons_succ, List.set_cons_zero, List.set_cons_succ, Option.bind_some, Option.map_some, Nat.reduceSub, Nat.reduceAdd, kwP, List.getD_cons_zero, List.getD_cons_succ, ri0, ri1, ri2, ri3, mx_d, mn_d, bLt_i]
  unfold meetB at h
  cases h1 : decide (mx p.l q.l < mn p.r q.r) with
  | false =>
    rw [h1] at h
    simpa using h
  | true =>
    rw [h1] at h
    simpa using h
def ovl (us : List Win) (a b : Str) : Bool := match look us a, look us b with | some p, some q => meetB p q | _, _ => false
def sp_Desk_overlap (C : Addr) : DSp := fun ds P => ∃ us a b p q, ds = [deskD C us, .str a, .str b] ∧ look us a = some p ∧ look us b = some q ∧ P (.bl (meetB p q))
def d_Desk_overlap (C_Desk : Addr) : TDS := (sSeq (sSet 3 (dMeth C_Desk "rectangle" (sp_Desk_rectangle C_Desk) (dV 0) (aCons (dV 1) aNil)))
  (sSeq (sSet 4 (dMeth C_Desk "rectangle" (sp_Desk_rectangle C_Desk) (dV 0) (aCons (dV 2) aNil)))
  (sRet (dO2 (bIsN true) (dCall sp_common (aCons (dV 3) (aCons (dV 4) aNil))) (dC .non)))))
theorem comD_n (p q : R) : (bIsN true (comD p q) .non) = some (.bl (meetB p q)) := by
  unfold comD
  cases meetB p q <;> rfl
theorem rd_Desk_overlap {C : Addr} {ds : List D} {P : D → Prop} (h : sp_Desk_overlap C ds P) : d_Desk_overlap C (fin false P) (st 5 ds) := by
  obtain ⟨us, a, b, p, q, rfl, hp, hq, h⟩ := h
  have hn : (("rectangle" : Str) == ("windows" : Str)) = false := by decide +kernel
  simp only [d_Desk_overlap, dC, dV, dB, dO2, ob_some, dT, dAndT, dOrT, dNotT, dIf, dAndV, dOrV, dNotV, dChain, aNil, aCons, dTup, dLst, dCut, oNone, oSome, dRev, dNeg, dTru, dCa, dIs, dIsA, dCall, dCallK, sNil, sSeq, sNever, sBrk, sCont, sIf, sRet, sRetO, sRetE, sSet, sSetO, sDrop, sPar, sPar3, kn, enOf, owD, sAsg, gNm, gsNil, gsCons, gTp, sApp, sIns, sExt, sClr, sRev, sPut, sFrz, owAt, fin, st, iRng, iRngB, iSeq, lstD, tupD, sFor, dLc, dDc, wipeE, tYesD, dIndex, dSort, dDictZip, dMeth, dFld, dMk, List.map_cons, List.map_nil, List.length_cons, List.length_nil, List.replicate_succ, List.replicate_zero, List.cons_append, List.nil_append, List.append_nil, List.getElem?_cons_zero, List.getElem?_cons_succ, List.set_cons_zero, List.set_cons_succ, Option.bind_some, Option.map_some, Nat.reduceSub, Nat.reduceAdd, kwP, List.getD_cons_zero, List.getD_cons_succ, deskD, no_m hn]
  refine ⟨trivial, trivial, us, a, p, rfl, hp, trivial, trivial, us, b, q, rfl, hq, p, q, rfl, ?_⟩
  show ob (bIsN true (comD p q) .non) P
  rw [comD_n]
  exact h
/-! ### the pairs of a desk -/
def prs (ov : Str → Str → Bool) : List Str → List SP
  | [] => []
  | n :: r => (r.filter (ov n)).map (fun m => (n, m)) ++ prs ov r
theorem prs_len (ov : Str → Str → Bool) : ∀ l : List Str, (prs ov l).length ≤ l.length * l.length
  | [] => by simp [prs]
  | n :: r => by
    have := prs_len ov r
    have h2 := List.length_filter_le (ov n) r
    rw [prs, List.length_append, List.length_map, List.length_cons]
    have h3 : (r.length + 1) * (r.length + 1) = r.length * r.length + 2 * r.length + 1 := by
      rw [Nat.add_mul, Nat.mul_add]
      omega
    omega
theorem prs_mem (ov : Str → Str → Bool) : ∀ (l : List Str) (p : SP), p ∈ prs ov l → p.1 ∈ l ∧ p.2 ∈ l
  | [], p, h => by cases h
  | n :: r, p, h => by
    rw [prs] at h
    rcases List.mem_append.mp h with h | h
    · obtain ⟨m, hm, rfl⟩ := List.mem_map.mp h
      exact ⟨List.mem_cons_self, List.mem_cons_of_mem _ (List.mem_filter.mp hm).1⟩
    · exact ⟨List.mem_cons_of_mem _ (prs_mem ov r p h).1, List.mem_cons_of_mem _ (prs_mem ov r p h).2⟩
theorem cut_from (xs : List D) (k : Nat) : cutD xs (some ((k : Int) + 1)) none = xs.drop (k + 1) := by
  have e : ((k : Int) + 1) = ((k + 1 : Nat) : Int) := rfl
  unfold cutD
  rw [e, HT.sIx_nat, HT.sIx_none]
  rcases Nat.le_total (k + 1) xs.length with h | h
  · rw [Nat.min_eq_left h, List.take_of_length_le (by rw [List.length_drop]; omega)]
  · rw [Nat.min_eq_right h, List.drop_eq_nil_of_le (Nat.le_refl _), List.drop_eq_nil_of_le h, List.take_nil]
def sp_Desk_pairs (C : Addr) : DSp := fun ds P => ∃ us, ds = [deskD C us] ∧ us.length ≤ 24 ∧ (nms us).Nodup ∧ P (.lst ((prs (ovl us) (nms us)).map pairD))
def d_Desk_pairs (C_Desk : Addr) : TDS := (sSeq (sSet 1 (dMeth C_Desk "names" (sp_Desk_names C_Desk) (dV 0) aNil))
  (sSeq (sSetO 2 (dLst aNil))
  (sSeq (sFor (iEnu (dV 1)) (gTp 2 (gsCons (gNm 3) (gsCons (gNm 4) gsNil))) (sExt 2 (dLc (iSeq (dCut cutA (dV 1) (oSome (dO2 bAdd (dV 3) (dC (.int 1)))) oNone)) (gNm 5) (dT (dMeth C_Desk "overlap" (sp_Desk_overlap C_Desk) (dV 0) (aCons (dV 4) (aCons (dV 5) aNil)))) (dTup (aCons (dV 4) (aCons (dV 5) aNil))) [5])))
  (sRetO 2))))
theorem rd_Desk_pairs {C : Addr} {ds : List D} {P : D → Prop} (h : sp_Desk_pairs C ds P) : d_Desk_pairs C (fin false P) (st 6 ds) := by
  obtain ⟨us, rfl, hl, nd, q⟩ := h
  have hn : (("names" : Str) == ("windows" : Str)) = false := by decide +kernel
  have ho : (("overlap" : Str) == ("windows" : Str)) = false := by decide +kernel
  have nl : (nms us).length ≤ 24 := by unfold nms; rw [List.length_map]; exact hl
  simp only [d_Desk_pairs, dC, dV, dB, dO2, ob_some, dT, dAndT, dOrT, dNotT, dIf, dAndV, dOrV, dNotV, dChain, aNil, aCons, dTup, dLst, dCut, oNone, oSome, dRev, dNeg, dTru, dCa, dIs, dIsA, dCall, dCallK, sNil, sSeq, sNever, sBrk, sCont, sIf, sRet, sRetO, sRetE, sSet, sSetO, sDrop, sPar, sPar3, kn, enOf, owD, sAsg, gNm, gsNil, gsCons, gTp, sApp, sIns, sExt, sClr, sRev, sPut, sFrz, owAt, fin, st, iRng, iRngB, iSeq, lstD, tupD, sFor, dLc, dDc, wipeE, tYesD, dIndex, dSort, dDictZip, dMeth, dFld, dMk, List.map_cons, List.map_nil, List.length_cons, List.length_nil, List.replicate_succ, List.replicate_zero, List.cons_append, List.nil_append, List.append_nil, List.getElem?_cons_zero, List.getElem?_cons_succ, List.set_cons_zero, List.set_cons_succ, Option.bind_some, Option.map_some, Nat.reduceSub, Nat.reduceAdd, kwP, List.getD_cons_zero, List.getD_cons_succ, deskD, no_m hn]
  refine ⟨trivial, trivial, us, rfl, by decide, ?_⟩
  simp only [iEnu, dC, dV, dB, dO2, ob_some, dT, dAndT, dOrT, dNotT, dIf, dAndV, dOrV, dNotV, dChain, aNil, aCons, dTup, dLst, dCut, oNone, oSome, dRev, dNeg, dTru, dCa, dIs, dIsA, dCall, dCallK, sNil, sSeq, sNever, sBrk, sCont, sIf, sRet, sRetO, sRetE, sSet, sSetO, sDrop, sPar, sPar3, kn, enOf, owD, sAsg, gNm, gsNil, gsCons, gTp, sApp, sIns, sExt, sClr, sRev, sPut, sFrz, owAt, fin, st, iRng, iRngB, iSeq, lstD, tupD, sFor, dLc, dDc, wipeE, tYesD, dIndex, dSort, dDictZip, dMeth, dFld, dMk, List.map_cons, List.map_nil, List.length_cons, List.length_nil, List.replicate_succ, List.replicate_zero, List.cons_append, List.nil_append, List.append_nil, List.getElem?_cons_zero, List.getElem?_cons_succ, List.set_cons_zero, List.set_cons_succ, Option.bind_some, Option.map_some, Nat.reduceSub, Nat.reduceAdd, kwP, List.getD_cons_zero, List.getD_cons_succ]
  refine .inl ?_
  have key : ∀ (post : List Str) (k : Nat) (acc : List SP) (e3 e4 e5 : En), (nms us).drop k = post → acc ++ prs (ovl us) post = prs (ovl us) (nms us) →
      sLoop (gTp 2 (gsCons (gNm 3) (gsCons (gNm 4) gsNil))) (sExt 2 (dLc (iSeq (dCut cutA (dV 1) (oSome (dO2 bAdd (dV 3) (dC (.int 1)))) oNone)) (gNm 5) (dT (dMeth C "overlap" (sp_Desk_overlap C) (dV 0) (aCons (dV 4) (aCons (dV 5) aNil)))) (dTup (aCons (dV 4) (aCons (dV 5) aNil))) [5])) { fin false P with nx := sRetO 2 (fin false P) } (enuD k (post.map D.str)) [.fz (deskD C us), .fz (.lst ((nms us).map D.str)), .ow (acc.map pairD), e3, e4, e5] := by
    intro post
    induction post with
    | nil =>
      intro k acc e3 e4 e5 _ ha
      simp only [List.map_nil, enuD, sLoop, dC, dV, dB, dO2, ob_some, dT, dAndT, dOrT, dNotT, dIf, dAndV, dOrV, dNotV, dChain, aNil, aCons, dTup, dLst, dCut, oNone, oSome, dRev, dNeg, dTru, dCa, dIs, dIsA, dCall, dCallK, sNil, sSeq, sNever, sBrk, sCont, sIf, sRet, sRetO, sRetE, sSet, sSetO, sDrop, sPar, sPar3, kn, enOf, owD, sAsg, gNm, gsNil, gsCons, gTp, sApp, sIns, sExt, sClr, sRev, sPut, sFrz, owAt, fin, st, iRng, iRngB, iSeq, lstD, tupD, sFor, dLc, dDc, wipeE, tYesD, dIndex, dSort, dDictZip, dMeth, dFld, dMk, List.map_cons, List.map_nil, List.length_cons, List.length_nil, List.replicate_succ, List.replicate_zero, List.cons_append, List.nil_append, List.append_nil, List.getElem?_cons_zero, List.getElem?_cons_succ, List.set_cons_zero, List.set_cons_succ, Option.bind_some, Option.map_some, Nat.reduceSub, Nat.reduceAdd, kwP, List.getD_cons_zero, List.getD_cons_succ]
      rw [prs, List.append_nil] at ha
      rw [ha]
      exact q
    | cons n r ih =>
      intro k acc e3 e4 e5 hd ha
      have hk : k < (nms us).length := by
        rcases Nat.lt_or_ge k (nms us).length with h | h
        · exact h
        · rw [List.drop_eq_nil_of_le h] at hd
          cases hd
      have hd2 : (nms us).drop (k + 1) = r := by
        rw [List.drop_eq_getElem_cons hk] at hd
        exact (List.cons.inj hd).2
      have mem : ∀ z ∈ n :: r, z ∈ nms us := fun z hz => by rw [← hd] at hz; exact List.mem_of_mem_drop hz
      simp only [List.map_cons, enuD, sLoop, dC, dV, dB, dO2, ob_some, dT, dAndT, dOrT, dNotT, dIf, dAndV, dOrV, dNotV, dChain, aNil, aCons, dTup, dLst, dCut, oNone, oSome, dRev, dNeg, dTru, dCa, dIs, dIsA, dCall, dCallK, sNil, sSeq, sNever, sBrk, sCont, sIf, sRet, sRetO, sRetE, sSet, sSetO, sDrop, sPar, sPar3, kn, enOf, owD, sAsg, gNm, gsNil, gsCons, gTp, sApp, sIns, sExt, sClr, sRev, sPut, sFrz, owAt, fin, st, iRng, iRngB, iSeq, lstD, tupD, sFor, dLc, dDc, wipeE, tYesD, dIndex, dSort, dDictZip, dMeth, dFld, dMk, List.map_cons, List.map_nil, List.length_cons, List.length_nil, List.replicate_succ, List.replicate_zero, List.cons_append, List.nil_append, List.append_nil, List.getElem?_cons_zero, List.getElem?_cons_succ, List.set_cons_zero, List.set_cons_succ, Option.bind_some, Option.map_some, Nat.reduceSub, Nat.reduceAdd, kwP, List.getD_cons_zero, List.getD_cons_succ, bAdd_i, cutA, cut_from]
      refine ⟨trivial, trivial, .inl ?_⟩
      rw [← List.map_drop, hd2]
      refine comp_filter D.str (fun m => pairD (n, m)) (ovl us n) r [] (fun m hm Q Z h1 h2 => ?_) (by have := congrArg List.length hd2; simp at this ⊢; omega) ?_
      · obtain ⟨p1, hp1, _⟩ := look_ex nd (mem n List.mem_cons_self)
        obtain ⟨p2, hp2, _⟩ := look_ex nd (mem m (List.mem_cons_of_mem _ hm))
        simp only [dC, dV, dB, dO2, ob_some, dT, dAndT, dOrT, dNotT, dIf, dAndV, dOrV, dNotV, dChain, aNil, aCons, dTup, dLst, dCut, oNone, oSome, dRev, dNeg, dTru, dCa, dIs, dIsA, dCall, dCallK, sNil, sSeq, sNever, sBrk, sCont, sIf, sRet, sRetO, sRetE, sSet, sSetO, sDrop, sPar, sPar3, kn, enOf, owD, sAsg, gNm, gsNil, gsCons, gTp, sApp, sIns, sExt, sClr, sRev, sPut, sFrz, owAt, fin, st, iRng, iRngB, iSeq, lstD, tupD, sFor, dLc, dDc, wipeE, tYesD, dIndex, dSort, dDictZip, dMeth, dFld, dMk, List.map_cons, List.map_nil, List.length_cons, List.length_nil, List.replicate_succ, List.replicate_zero, List.cons_append, List.nil_append, List.append_nil, List.getElem?_cons_zero, List.getElem?_cons_succ, List.set_cons_zero, List.set_cons_succ, Option.bind_some, Option.map_some, Nat.reduceSub, Nat.reduceAdd, kwP, List.getD_cons_zero, List.getD_cons_succ, deskD, no_m ho]
        refine ⟨trivial, trivial, us, n, m, p1, p2, rfl, hp1, hp2, ?_⟩
        have eo : ovl us n m = meetB p1 p2 := by unfold ovl; rw [hp1, hp2]
        rw [eo] at h1 h2
        cases hc : meetB p1 p2 with
        | true => exact ⟨by decide, h1 hc⟩
        | false => exact h2 hc
      · simp only [List.nil_append, dC, dV, dB, dO2, ob_some, dT, dAndT, dOrT, dNotT, dIf, dAndV, dOrV, dNotV, dChain, aNil, aCons, dTup, dLst, dCut, oNone, oSome, dRev, dNeg, dTru, dCa, dIs, dIsA, dCall, dCallK, sNil, sSeq, sNever, sBrk, sCont, sIf, sRet, sRetO, sRetE, sSet, sSetO, sDrop, sPar, sPar3, kn, enOf, owD, sAsg, gNm, gsNil, gsCons, gTp, sApp, sIns, sExt, sClr, sRev, sPut, sFrz, owAt, fin, st, iRng, iRngB, iSeq, lstD, tupD, sFor, dLc, dDc, wipeE, tYesD, dIndex, dSort, dDictZip, dMeth, dFld, dMk, List.map_cons, List.map_nil, List.length_cons, List.length_nil, List.replicate_succ, List.replicate_zero, List.cons_append, List.nil_append, List.append_nil, List.getElem?_cons_zero, List.getElem?_cons_succ, List.set_cons_zero, List.set_cons_succ, Option.bind_some, Option.map_some, Nat.reduceSub, Nat.reduceAdd, kwP, List.getD_cons_zero, List.getD_cons_succ]
        refine ⟨?_, ?_⟩
        · have h1 := congrArg List.length ha
          have h2 := prs_len (ovl us) (nms us)
          have h3 : (nms us).length * (nms us).length ≤ 24 * 24 := Nat.mul_le_mul nl nl
          rw [prs] at h1
          simp only [List.length_append, List.length_map] at h1 ⊢
          exact Nat.le_of_lt (szM (by omega))
        · have em : acc.map pairD ++ (r.filter (ovl us n)).map (fun m => pairD (n, m)) = (acc ++ (r.filter (ovl us n)).map fun m => (n, m)).map pairD := by
            rw [List.map_append, List.map_map]
            rfl
          rw [em]
          refine ih (k + 1) _ _ _ _ hd2 ?_
          rw [List.append_assoc]
          exact ha
  exact key (nms us) 0 [] _ _ _ rfl rfl
/-! ### the law's pairs -/
def ltS (a b : Str) : Bool := decide (a.cps.toList < b.cps.toList)
theorem bLt_s (a b : Str) : bLt (.str a) (.str b) = some (.bl (ltS a b)) := rfl
theorem bAdd_l {xs ys : List D} (h : xs.length + ys.length ≤ 1000000) : bAdd (.lst xs) (.lst ys) = some (.lst (xs ++ ys)) := by
  show (none : Option D).or ((none : Option D).or (if xs.length + ys.length ≤ sizeLine then some (.lst (xs ++ ys)) else none)) = _
  rw [if_pos (Nat.le_of_lt (szM h))]
  rfl
theorem up_filter {ov : Str → Bool} {pre post : List Str} {n : Str} (s : (pre ++ n :: post).Pairwise leS) (nd : (pre ++ n :: post).Nodup) : (pre ++ n :: post).filter (fun m => ltS n m && ov m) = post.filter ov := by
  have s' := List.pairwise_append.mp s
  have nd' := List.nodup_append.mp nd
  have h1 : pre.filter (fun m => ltS n m && ov m) = [] := by
    rw [List.filter_eq_nil_iff]
    intro m hm h
    rw [Bool.and_eq_true] at h
    exact s'.2.2 m hm n List.mem_cons_self (of_decide_eq_true h.1)
  have h2 : ltS n n = false := decide_eq_false (List.lt_irrefl _)
  have h3 : post.filter (fun m => ltS n m && ov m) = post.filter ov := by
    refine List.filter_congr fun m hm => ?_
    have q := (List.pairwise_cons.mp s'.2.1).1 m hm
    have ne : n ≠ m := fun e => (List.nodup_cons.mp nd'.2.1).1 (by rw [e]; exact hm)
    have : ltS n m = true := by
      refine decide_eq_true ?_
      rcases Classical.em (n.cps.toList < m.cps.toList) with h | h
      · exact h
      · exact (ne (leS_antisymm q h)).elim
    rw [this, Bool.true_and]
  rw [List.filter_append, h1, List.nil_append, List.filter_cons_of_neg (by rw [h2, Bool.false_and]; exact Bool.false_ne_true), h3]
theorem ovl_perm {us ws : List Win} (nd : (nms ws).Nodup) (p : us.Perm ws) : ovl us = ovl ws := by
  funext a b
  unfold ovl
  rw [look_perm nd p, look_perm nd p]
def sp_pairs : DSp := fun ds P => ∃ us ws, ds = [winD ws] ∧ WOk ws ∧ us.Perm ws ∧ SortW us ∧ us.length ≤ 24 ∧ P (.lst ((prs (ovl us) (nms us)).map pairD))
def d_pairs : TDS := (sSeq (sPar 1 2 false false (dLst aNil) (dSort (dV 0)))
  (sSeq (sFor (iSeq (dV 2)) (gNm 3) (sSet 1 (dO2 bAdd (dV 1) (dLc (iSeq (dV 2)) (gNm 4) (dAndT (dT (dO2 bLt (dV 3) (dV 4))) (dT (dCall sp_meet (aCons (dO2 bIx (dV 0) (dV 3)) (aCons (dO2 bIx (dV 0) (dV 4)) aNil))))) (dTup (aCons (dV 3) (aCons (dV 4) aNil))) [4]))))
  (sRet (dV 1))))
theorem rd_pairs {ds : List D} {P : D → Prop} (h : sp_pairs ds P) : d_pairs (fin false P) (st 5 ds) := by
  obtain ⟨us, ws, rfl, W, pu, su, hl, q⟩ := h
  have nl : (nms us).length ≤ 24 := by unfold nms; rw [List.length_map]; exact hl
  have ndu : (nms us).Nodup := (W.perm pu).nd
  simp only [d_pairs, dC, dV, dB, dO2, ob_some, dT, dAndT, dOrT, dNotT, dIf, dAndV, dOrV, dNotV, dChain, aNil, aCons, dTup, dLst, dCut, oNone, oSome, dRev, dNeg, dTru, dCa, dIs, dIsA, dCall, dCallK, sNil, sSeq, sNever, sBrk, sCont, sIf, sRet, sRetO, sRetE, sSet, sSetO, sDrop, sPar, sPar3, kn, enOf, owD, sAsg, gNm, gsNil, gsCons, gTp, sApp, sIns, sExt, sClr, sRev, sPut, sFrz, owAt, fin, st, iRng, iRngB, iSeq, lstD, tupD, sFor, dLc, dDc, wipeE, tYesD, dIndex, dSort, dDictZip, dMeth, dFld, dMk, List.map_cons, List.map_nil, List.length_cons, List.length_nil, List.replicate_succ, List.replicate_zero, List.cons_append, List.nil_append, List.append_nil, List.getElem?_cons_zero, List.getElem?_cons_succ, List.set_cons_zero, List.set_cons_succ, Option.bind_some, Option.map_some, Nat.reduceSub, Nat.reduceAdd, kwP, List.getD_cons_zero, List.getD_cons_succ, winD]
  refine ⟨by decide, _, txtKeys_win ws, by have h1 := pu.length_eq; unfold nms at nl ⊢; rw [List.length_map] at nl ⊢; omega, fun ys hs => ?_⟩
  have ey : ys = nms us := sorted_one (hs.1.trans (pu.map _).symm) (sorted_of hs.2) su
  subst ey
  refine .inl ?_
  have key : ∀ (post pre : List Str) (acc : List SP) (e3 e4 : En), nms us = pre ++ post → acc ++ prs (ovl us) post = prs (ovl us) (nms us) →
      sLoop (gNm 3) (sSet 1 (dO2 bAdd (dV 1) (dLc (iSeq (dV 2)) (gNm 4) (dAndT (dT (dO2 bLt (dV 3) (dV 4))) (dT (dCall sp_meet (aCons (dO2 bIx (dV 0) (dV 3)) (aCons (dO2 bIx (dV 0) (dV 4)) aNil))))) (dTup (aCons (dV 3) (aCons (dV 4) aNil))) [4]))) { fin false P with nx := sRet (dV 1) (fin false P) } (post.map D.str) [.fz (winD ws), .fz (.lst (acc.map pairD)), .fz (.lst ((nms us).map D.str)), e3, e4] := by
    intro post
    induction post with
    | nil =>
      intro pre acc e3 e4 _ ha
      simp only [List.map_nil, sLoop, dC, dV, dB, dO2, ob_some, dT, dAndT, dOrT, dNotT, dIf, dAndV, dOrV, dNotV, dChain, aNil, aCons, dTup, dLst, dCut, oNone, oSome, dRev, dNeg, dTru, dCa, dIs, dIsA, dCall, dCallK, sNil, sSeq, sNever, sBrk, sCont, sIf, sRet, sRetO, sRetE, sSet, sSetO, sDrop, sPar, sPar3, kn, enOf, owD, sAsg, gNm, gsNil, gsCons, gTp, sApp, sIns, sExt, sClr, sRev, sPut, sFrz, owAt, fin, st, iRng, iRngB, iSeq, lstD, tupD, sFor, dLc, dDc, wipeE, tYesD, dIndex, dSort, dDictZip, dMeth, dFld, dMk, List.map_cons, List.map_nil, List.length_cons, List.length_nil, List.replicate_succ, List.replicate_zero, List.cons_append, List.nil_append, List.append_nil, List.getElem?_cons_zero, List.getElem?_cons_succ, List.set_cons_zero, List.set_cons_succ, Option.bind_some, Option.map_some, Nat.reduceSub, Nat.reduceAdd, kwP, List.getD_cons_zero, List.getD_cons_succ]
      rw [prs, List.append_nil] at ha
      rw [ha]
      exact q
    | cons n r ih =>
      intro pre acc e3 e4 hd ha
      have mem : ∀ z ∈ nms us, ∃ p, look ws z = some p := fun z hz => by
        obtain ⟨p, h1, _⟩ := look_ex W.nd ((pu.map _).mem_iff.mp hz)
        exact ⟨p, h1⟩
      have hnn : n ∈ nms us := by rw [hd]; simp
      simp only [List.map_cons, sLoop, dC, dV, dB, dO2, ob_some, dT, dAndT, dOrT, dNotT, dIf, dAndV, dOrV, dNotV, dChain, aNil, aCons, dTup, dLst, dCut, oNone, oSome, dRev, dNeg, dTru, dCa, dIs, dIsA, dCall, dCallK, sNil, sSeq, sNever, sBrk, sCont, sIf, sRet, sRetO, sRetE, sSet, sSetO, sDrop, sPar, sPar3, kn, enOf, owD, sAsg, gNm, gsNil, gsCons, gTp, sApp, sIns, sExt, sClr, sRev, sPut, sFrz, owAt, fin, st, iRng, iRngB, iSeq, lstD, tupD, sFor, dLc, dDc, wipeE, tYesD, dIndex, dSort, dDictZip, dMeth, dFld, dMk, List.map_cons, List.map_nil, List.length_cons, List.length_nil, List.replicate_succ, List.replicate_zero, List.cons_append, List.nil_append, List.append_nil, List.getElem?_cons_zero, List.getElem?_cons_succ, List.set_cons_zero, List.set_cons_succ, Option.bind_some, Option.map_some, Nat.reduceSub, Nat.reduceAdd, kwP, List.getD_cons_zero, List.getD_cons_succ]
      refine .inl ?_
      refine comp_filter D.str (fun m => pairD (n, m)) (fun m => ltS n m && ovl us n m) (nms us) [] (fun m hm Q Z h1 h2 => ?_) (by simp; omega) ?_
      · obtain ⟨p1, hp1⟩ := mem n hnn
        obtain ⟨p2, hp2⟩ := mem m hm
        have eo : ovl us n m = meetB p1 p2 := by rw [ovl_perm W.nd pu]; unfold ovl; rw [hp1, hp2]
        simp only [dC, dV, dB, dO2, ob_some, dT, dAndT, dOrT, dNotT, dIf, dAndV, dOrV, dNotV, dChain, aNil, aCons, dTup, dLst, dCut, oNone, oSome, dRev, dNeg, dTru, dCa, dIs, dIsA, dCall, dCallK, sNil, sSeq, sNever, sBrk, sCont, sIf, sRet, sRetO, sRetE, sSet, sSetO, sDrop, sPar, sPar3, kn, enOf, owD, sAsg, gNm, gsNil, gsCons, gTp, sApp, sIns, sExt, sClr, sRev, sPut, sFrz, owAt, fin, st, iRng, iRngB, iSeq, lstD, tupD, sFor, dLc, dDc, wipeE, tYesD, dIndex, dSort, dDictZip, dMeth, dFld, dMk, List.map_cons, List.map_nil, List.length_cons, List.length_nil, List.replicate_succ, List.replicate_zero, List.cons_append, List.nil_append, List.append_nil, List.getElem?_cons_zero, List.getElem?_cons_succ, List.set_cons_zero, List.set_cons_succ, Option.bind_some, Option.map_some, Nat.reduceSub, Nat.reduceAdd, kwP, List.getD_cons_zero, List.getD_cons_succ, bLt_s, bIx_win hp1, bIx_win hp2]
        rw [eo] at h1 h2
        cases h3 : ltS n m with
        | false =>
          rw [h3, Bool.false_and] at h2
          simpa using h2 rfl
        | true =>
          rw [h3, Bool.true_and] at h1 h2
          simp only [if_true]
          refine ⟨p1, p2, rfl, ?_⟩
          cases hc : meetB p1 p2 with
          | true => exact ⟨by decide, h1 hc⟩
          | false => exact h2 hc
      · rw [List.nil_append]
        have s2 := su
        have nd2 := ndu
        unfold SortW at s2
        have ef : (nms us).filter (fun m => ltS n m && ovl us n m) = r.filter (ovl us n) := by
          rw [hd] at s2 nd2 ⊢
          exact up_filter s2 nd2
        rw [ef]
        have em : acc.map pairD ++ (r.filter (ovl us n)).map (fun m => pairD (n, m)) = (acc ++ (r.filter (ovl us n)).map fun m => (n, m)).map pairD := by
          rw [List.map_append, List.map_map]
          rfl
        have sz : (acc.map pairD).length + ((r.filter (ovl us n)).map (fun m => pairD (n, m))).length ≤ 1000000 := by
          have h1 := congrArg List.length ha
          have h2 := prs_len (ovl us) (nms us)
          have h3 : (nms us).length * (nms us).length ≤ 24 * 24 := Nat.mul_le_mul nl nl
          rw [prs] at h1
          simp only [List.length_append, List.length_map] at h1 ⊢
          omega
        simp only [bAdd_l sz, dC, dV, dB, dO2, ob_some, dT, dAndT, dOrT, dNotT, dIf, dAndV, dOrV, dNotV, dChain, aNil, aCons, dTup, dLst, dCut, oNone, oSome, dRev, dNeg, dTru, dCa, dIs, dIsA, dCall, dCallK, sNil, sSeq, sNever, sBrk, sCont, sIf, sRet, sRetO, sRetE, sSet, sSetO, sDrop, sPar, sPar3, kn, enOf, owD, sAsg, gNm, gsNil, gsCons, gTp, sApp, sIns, sExt, sClr, sRev, sPut, sFrz, owAt, fin, st, iRng, iRngB, iSeq, lstD, tupD, sFor, dLc, dDc, wipeE, tYesD, dIndex, dSort, dDictZip, dMeth, dFld, dMk, List.map_cons, List.map_nil, List.length_cons, List.length_nil, List.replicate_succ, List.replicate_zero, List.cons_append, List.nil_append, List.append_nil, List.getElem?_cons_zero, List.getElem?_cons_succ, List.set_cons_zero, List.set_cons_succ, Option.bind_some, Option.map_some, Nat.reduceSub, Nat.reduceAdd, kwP, List.getD_cons_zero, List.getD_cons_succ]
        rw [em]
        refine ih (pre ++ [n]) _ _ _ (by rw [hd]; simp) ?_
        rw [List.append_assoc]
        exact ha
  exact key (nms us) [] [] _ _ rfl rfl
/-! ### places -/
def ixS : List Str → Str → Nat
  | [], _ => 0
  | y :: r, z => if y = z then 0 else ixS r z + 1
def plcF (p : Str × Nat) : Key × D := (Sum.inr p.1, .int ((p.2 : Nat) : Int))
def plcD (zs : List Str) : D := .dic ((zs.zipIdx).map plcF)
theorem enu_zip : ∀ (zs : List Str) (k : Nat), enuD k (zs.map D.str) = (zs.zipIdx k).map fun p => .tup [.int ((p.2 : Nat) : Int), .str p.1]
  | [], _ => rfl
  | z :: zs, k => by rw [List.map_cons, enuD, enu_zip zs (k + 1), List.zipIdx_cons, List.map_cons]
theorem val_plc : ∀ (zs : List Str) (k : Nat) (z : Str), z ∈ zs → valD ((zs.zipIdx k).map plcF) (Sum.inr z : Key) = some (.int ((k + ixS zs z : Nat) : Int))
  | [], _, _, h => by cases h
  | y :: r, k, z, h => by
    unfold valD
    rw [List.zipIdx_cons, List.map_cons, List.find?_cons]
    have e : decide ((plcF (y, k)).1 = (Sum.inr z : Key)) = decide (y = z) := decide_eq_decide.mpr inr_inj
    rw [e, ixS]
    by_cases hz : y = z
    · rw [decide_eq_true hz, if_pos hz]
      rfl
    · rw [decide_eq_false hz, if_neg hz]
      have := val_plc r (k + 1) z ((List.mem_cons.mp h).resolve_left fun e => hz e.symm)
      unfold valD at this
      rw [this]
      have : k + 1 + ixS r z = k + (ixS r z + 1) := by omega
      rw [this]
theorem bIx_plc {zs : List Str} {z : Str} (h : z ∈ zs) : bIx (plcD zs) (.str z) = some (.int ((ixS zs z : Nat) : Int)) := by
  show (none : Option D).or ((none : Option D).or ((some (valD ((zs.zipIdx).map plcF) (Sum.inr z : Key))).bind fun r => r)) = _
  rw [val_plc zs 0 z h, Nat.zero_add]
  rfl
theorem index_ixS : ∀ (zs : List Str) (z : Str), z ∈ zs → indexOf (zs.map D.str) (.str z) = some (ixS zs z)
  | [], _, h => by cases h
  | y :: r, z, h => by
    unfold indexOf
    rw [List.map_cons, List.findIdx?_cons]
    have e : eqF (.str y) (.str z) = (y == z) := rfl
    rw [e, ixS]
    by_cases hz : y = z
    · rw [if_pos hz, if_pos (beq_iff_eq.mpr hz)]
    · have hz2 : ¬ ((y == z) = true) := fun q => hz (beq_iff_eq.mp q)
      rw [if_neg hz, if_neg hz2]
      have := index_ixS r z ((List.mem_cons.mp h).resolve_left fun e => hz e.symm)
      unfold indexOf at this
      rw [this]
      rfl
def sp_places : DSp := fun ds P => ∃ d zs, ds = [d] ∧ IsSeq d zs ∧ zs.length ≤ 100000 ∧ zs.Nodup ∧ P (plcD zs)
def d_places : TDS := (sRet (dDc (iEnu (dV 0)) (gTp 2 (gsCons (gNm 1) (gsCons (gNm 2) gsNil))) tYesD (dV 2) (dV 1) [1, 2]))
theorem rd_places {ds : List D} {P : D → Prop} (h : sp_places ds P) : d_places (fin true P) (st 3 ds) := by
  obtain ⟨d, zs, rfl, hd, hl, nd, q⟩ := h
  have key : ∀ e1 : En, dDcomp (gTp 2 (gsCons (gNm 1) (gsCons (gNm 2) gsNil))) tYesD (dV 2) (dV 1) P [e1, .no, .no] (enuD 0 (zs.map D.str)) [] := fun e1 => by
    rw [enu_zip]
    refine dcomp_new (fun p : Str × Nat => D.tup [.int ((p.2 : Nat) : Int), .str p.1]) plcF zs.zipIdx [] (fun p hp Q Z hQ => ?_) (by simp; omega) ?_ q
    · simp only [dC, dV, dB, dO2, ob_some, dT, dAndT, dOrT, dNotT, dIf, dAndV, dOrV, dNotV, dChain, aNil, aCons, dTup, dLst, dCut, oNone, oSome, dRev, dNeg, dTru, dCa, dIs, dIsA, dCall, dCallK, sNil, sSeq, sNever, sBrk, sCont, sIf, sRet, sRetO, sRetE, sSet, sSetO, sDrop, sPar, sPar3, kn, enOf, owD, sAsg, gNm, gsNil, gsCons, gTp, sApp, sIns, sExt, sClr, sRev, sPut, sFrz, owAt, fin, st, iRng, iRngB, iSeq, lstD, tupD, sFor, dLc, dDc, wipeE, tYesD, dIndex, dSort, dDictZip, dMeth, dFld, dMk, List.map_cons, List.map_nil, List.length_cons, List.length_nil, List.replicate_succ, List.replicate_zero, List.cons_append, List.nil_append, List.append_nil, List.getElem?_cons_zero, List.getElem?_cons_succ, List.set_cons_zero, List.set_cons_succ, Option.bind_some, Option.map_some, Nat.reduceSub, Nat.reduceAdd, kwP, List.getD_cons_zero, List.getD_cons_succ, keyD, if_true]
      exact ⟨trivial, trivial, hQ⟩
    · rw [List.nil_append, List.map_map]
      have : ((fun kd : Key × D => kd.1) ∘ plcF) = Sum.inr ∘ (Prod.fst : Str × Nat → Str) := rfl
      rw [this, ← List.map_map]
      refine nodup_inj (fun a b h => Sum.inr.inj h) ?_
      rw [List.zipIdx_map_fst]
      exact nd
  rcases hd with rfl | rfl
  · simp only [d_places, dC, dV, dB, dO2, ob_some, dT, dAndT, dOrT, dNotT, dIf, dAndV, dOrV, dNotV, dChain, aNil, aCons, dTup, dLst, dCut, oNone, oSome, dRev, dNeg, dTru, dCa, dIs, dIsA, dCall, dCallK, sNil, sSeq, sNever, sBrk, sCont, sIf, sRet, sRetO, sRetE, sSet, sSetO, sDrop, sPar, sPar3, kn, enOf, owD, sAsg, gNm, gsNil, gsCons, gTp, sApp, sIns, sExt, sClr, sRev, sPut, sFrz, owAt, fin, st, iRng, iRngB, iSeq, lstD, tupD, sFor, dLc, dDc, wipeE, tYesD, dIndex, dSort, dDictZip, dMeth, dFld, dMk, List.map_cons, List.map_nil, List.length_cons, List.length_nil, List.replicate_succ, List.replicate_zero, List.cons_append, List.nil_append, List.append_nil, List.getElem?_cons_zero, List.getElem?_cons_succ, List.set_cons_zero, List.set_cons_succ, Option.bind_some, Option.map_some, Nat.reduceSub, Nat.reduceAdd, kwP, List.getD_cons_zero, List.getD_cons_succ, iEnu]
    exact .inl (key _)
  · simp only [d_places, dC, dV, dB, dO2, ob_some, dT, dAndT, dOrT, dNotT, dIf, dAndV, dOrV, dNotV, dChain, aNil, aCons, dTup, dLst, dCut, oNone, oSome, dRev, dNeg, dTru, dCa, dIs, dIsA, dCall, dCallK, sNil, sSeq, sNever, sBrk, sCont, sIf, sRet, sRetO, sRetE, sSet, sSetO, sDrop, sPar, sPar3, kn, enOf, owD, sAsg, gNm, gsNil, gsCons, gTp, sApp, sIns, sExt, sClr, sRev, sPut, sFrz, owAt, fin, st, iRng, iRngB, iSeq, lstD, tupD, sFor, dLc, dDc, wipeE, tYesD, dIndex, dSort, dDictZip, dMeth, dFld, dMk, List.map_cons, List.map_nil, List.length_cons, List.length_nil, List.replicate_succ, List.replicate_zero, List.cons_append, List.nil_append, List.append_nil, List.getElem?_cons_zero, List.getElem?_cons_succ, List.set_cons_zero, List.set_cons_succ, Option.bind_some, Option.map_some, Nat.reduceSub, Nat.reduceAdd, kwP, List.getD_cons_zero, List.getD_cons_succ, iEnu]
    exact .inr (key _)
/-! ### the wish of an order -/
def ori (zs : List Str) (p : SP) : SP := if ixS zs p.1 < ixS zs p.2 then p else (p.2, p.1)
def wsh (us : List Win) (zs : List Str) : List SP := srtP ((prs (ovl us) (nms us)).map (ori zs))
theorem wsh_mem {us : List Win} {zs : List Str} {p : SP} (h : p ∈ wsh us zs) : p.1 ∈ nms us ∧ p.2 ∈ nms us := by
  obtain ⟨q, hq, rfl⟩ := List.mem_map.mp ((srtP_perm _).mem_iff.mp h)
  have := prs_mem _ _ q hq
  unfold ori
  by_cases c : ixS zs q.1 < ixS zs q.2
  · rw [if_pos c]; exact this
  · rw [if_neg c]; exact ⟨this.2, this.1⟩
theorem wsh_len {us : List Win} (zs : List Str) (h : us.length ≤ 24) : (wsh us zs).length ≤ 576 := by
  have h1 := (srtP_perm ((prs (ovl us) (nms us)).map (ori zs))).length_eq
  rw [List.length_map] at h1
  have h2 := prs_len (ovl us) (nms us)
  have nl : (nms us).length ≤ 24 := by unfold nms; rw [List.length_map]; exact h
  have h3 : (nms us).length * (nms us).length ≤ 24 * 24 := Nat.mul_le_mul nl nl
  unfold wsh
  omega
def sp_wish_of (C : Addr) : DSp := fun ds P => ∃ us d zs, ds = [deskD C us, d] ∧ IsSeq d zs ∧ us.length ≤ 24 ∧ (nms us).Nodup ∧ zs.Perm (nms us) ∧ P (.lst ((wsh us zs).map pairD))
def d_wish_of (C_Desk : Addr) : TDS := (sSeq (sDrop (dCall (sp_check_order C_Desk) (aCons (dV 0) (aCons (dV 1) aNil))))
  (sSeq (sSet 2 (dCall sp_places (aCons (dV 1) aNil)))
  (sRet (dSortP (dLc (iSeq (dMeth C_Desk "pairs" (sp_Desk_pairs C_Desk) (dV 0) aNil)) (gTp 2 (gsCons (gNm 3) (gsCons (gNm 4) gsNil))) tYesD (dIf (dT (dO2 bLt (dO2 bIx (dV 2) (dV 3)) (dO2 bIx (dV 2) (dV 4)))) (dTup (aCons (dV 3) (aCons (dV 4) aNil))) (dTup (aCons (dV 4) (aCons (dV 3) aNil)))) [3, 4])))))
theorem rd_wish_of {C : Addr} {ds : List D} {P : D → Prop} (h : sp_wish_of C ds P) : d_wish_of C (fin true P) (st 5 ds) := by
  obtain ⟨us, d, zs, rfl, hd, hl, nd, hp, q⟩ := h
  have nl : (nms us).length ≤ 24 := by unfold nms; rw [List.length_map]; exact hl
  have hn : (("pairs" : Str) == ("windows" : Str)) = false := by decide +kernel
  simp only [d_wish_of, dC, dV, dB, dO2, ob_some, dT, dAndT, dOrT, dNotT, dIf, dAndV, dOrV, dNotV, dChain, aNil, aCons, dTup, dLst, dCut, oNone, oSome, dRev, dNeg, dTru, dCa, dIs, dIsA, dCall, dCallK, sNil, sSeq, sNever, sBrk, sCont, sIf, sRet, sRetO, sRetE, sSet, sSetO, sDrop, sPar, sPar3, kn, enOf, owD, sAsg, gNm, gsNil, gsCons, gTp, sApp, sIns, sExt, sClr, sRev, sPut, sFrz, owAt, fin, st, iRng, iRngB, iSeq, lstD, tupD, sFor, dLc, dDc, wipeE, tYesD, dIndex, dSort, dDictZip, dMeth, dFld, dMk, List.map_cons, List.map_nil, List.length_cons, List.length_nil, List.replicate_succ, List.replicate_zero, List.cons_append, List.nil_append, List.append_nil, List.getElem?_cons_zero, List.getElem?_cons_succ, List.set_cons_zero, List.set_cons_succ, Option.bind_some, Option.map_some, Nat.reduceSub, Nat.reduceAdd, kwP, List.getD_cons_zero, List.getD_cons_succ]
  refine ⟨us, d, zs, rfl, hd, hl, ord_of hp, d, zs, rfl, hd, by rw [hp.length_eq]; omega, hp.nodup_iff.mpr nd, ?_⟩
  simp only [dSortP, dC, dV, dB, dO2, ob_some, dT, dAndT, dOrT, dNotT, dIf, dAndV, dOrV, dNotV, dChain, aNil, aCons, dTup, dLst, dCut, oNone, oSome, dRev, dNeg, dTru, dCa, dIs, dIsA, dCall, dCallK, sNil, sSeq, sNever, sBrk, sCont, sIf, sRet, sRetO, sRetE, sSet, sSetO, sDrop, sPar, sPar3, kn, enOf, owD, sAsg, gNm, gsNil, gsCons, gTp, sApp, sIns, sExt, sClr, sRev, sPut, sFrz, owAt, fin, st, iRng, iRngB, iSeq, lstD, tupD, sFor, dLc, dDc, wipeE, tYesD, dIndex, dSort, dDictZip, dMeth, dFld, dMk, List.map_cons, List.map_nil, List.length_cons, List.length_nil, List.replicate_succ, List.replicate_zero, List.cons_append, List.nil_append, List.append_nil, List.getElem?_cons_zero, List.getElem?_cons_succ, List.set_cons_zero, List.set_cons_succ, Option.bind_some, Option.map_some, Nat.reduceSub, Nat.reduceAdd, kwP, List.getD_cons_zero, List.getD_cons_succ, deskD, no_m hn]
  refine .inl ⟨trivial, trivial, us, rfl, hl, nd, ?_⟩
  refine comp_map pairD (fun p => pairD (ori zs p)) (prs (ovl us) (nms us)) [] (fun p hm Q Z hQ => ?_) ?_ ?_
  · have m := prs_mem _ _ p hm
    have i1 := bIx_plc (hp.mem_iff.mpr m.1)
    have i2 := bIx_plc (hp.mem_iff.mpr m.2)
    simp only [pairD, dC, dV, dB, dO2, ob_some, dT, dAndT, dOrT, dNotT, dIf, dAndV, dOrV, dNotV, dChain, aNil, aCons, dTup, dLst, dCut, oNone, oSome, dRev, dNeg, dTru, dCa, dIs, dIsA, dCall, dCallK, sNil, sSeq, sNever, sBrk, sCont, sIf, sRet, sRetO, sRetE, sSet, sSetO, sDrop, sPar, sPar3, kn, enOf, owD, sAsg, gNm, gsNil, gsCons, gTp, sApp, sIns, sExt, sClr, sRev, sPut, sFrz, owAt, fin, st, iRng, iRngB, iSeq, lstD, tupD, sFor, dLc, dDc, wipeE, tYesD, dIndex, dSort, dDictZip, dMeth, dFld, dMk, List.map_cons, List.map_nil, List.length_cons, List.length_nil, List.replicate_succ, List.replicate_zero, List.cons_append, List.nil_append, List.append_nil, List.getElem?_cons_zero, List.getElem?_cons_succ, List.set_cons_zero, List.set_cons_succ, Option.bind_some, Option.map_some, Nat.reduceSub, Nat.reduceAdd, kwP, List.getD_cons_zero, List.getD_cons_succ, i1, i2, bLt_i, if_true]
    refine ⟨trivial, trivial, ?_⟩
    have ed : decide (((ixS zs p.1 : Nat) : Int) < ((ixS zs p.2 : Nat) : Int)) = decide (ixS zs p.1 < ixS zs p.2) := decide_eq_decide.mpr Int.ofNat_lt
    rw [ed]
    unfold ori at hQ
    by_cases c : ixS zs p.1 < ixS zs p.2
    · rw [if_pos c] at hQ
      rw [decide_eq_true c]
      exact ⟨by decide, hQ⟩
    · rw [if_neg c] at hQ
      rw [decide_eq_false c]
      exact ⟨by decide, hQ⟩
  · have h2 := prs_len (ovl us) (nms us)
    have h3 : (nms us).length * (nms us).length ≤ 24 * 24 := Nat.mul_le_mul nl nl
    simp only [List.length_nil]
    omega
  · refine ⟨(prs (ovl us) (nms us)).map (ori zs), ?_, q⟩
    rw [List.map_map]
    rfl
theorem sh_pairs {n : Nat} {ps : List SP} (h : ∀ p ∈ ps, NameOk p.1 ∧ NameOk p.2) : sh (n + 2) (.lst (ps.map pairD)) = true := by
  show (ps.map pairD).all (sh (n + 1)) = true
  rw [List.all_eq_true]
  intro d hd
  obtain ⟨p, hp, rfl⟩ := List.mem_map.mp hd
  obtain ⟨h1, h2⟩ := h p hp
  show (sh n (.str p.1) && (sh n (.str p.2) && true)) = true
  have e1 : sh n (.str p.1) = true := by cases n <;> exact name_ok h1
  have e2 : sh n (.str p.2) = true := by cases n <;> exact name_ok h2
  rw [e1, e2]
  rfl
theorem like_pairs {n : Nat} {ps : List SP} (hl : ps.length ≤ 100000) (h : ∀ p ∈ ps, NameOk p.1 ∧ NameOk p.2) : likeD (n + 2) (.lst (ps.map pairD)) = true := by
  show (decide ((ps.map pairD).length ≤ 100000) && (ps.map pairD).all (likeD (n + 1))) = true
  rw [List.length_map, decide_eq_true hl, Bool.true_and, List.all_eq_true]
  intro d hd
  obtain ⟨p, hp, rfl⟩ := List.mem_map.mp hd
  obtain ⟨h1, h2⟩ := h p hp
  show (decide (2 ≤ 100000) && (likeD n (.str p.1) && (likeD n (.str p.2) && true))) = true
  have e1 : likeD n (.str p.1) = true := by cases n <;> exact name_ok h1
  have e2 : likeD n (.str p.2) = true := by cases n <;> exact name_ok h2
  rw [e1, e2]
  rfl
theorem wsh_names {us : List Win} (W : WOk us) (zs : List Str) : ∀ p ∈ wsh us zs, NameOk p.1 ∧ NameOk p.2 := fun p hp => by
  have m := wsh_mem hp
  obtain ⟨w1, h1, e1⟩ := List.mem_map.mp m.1
  obtain ⟨w2, h2, e2⟩ := List.mem_map.mp m.2
  rw [← e1, ← e2]
  exact ⟨W.nm _ h1, W.nm _ h2⟩
theorem pairD_inj : ∀ {a b : List SP}, a.map pairD = b.map pairD → a = b
  | [], [], _ => rfl
  | [], _ :: _, h => by cases h
  | _ :: _, [], h => by cases h
  | p :: a, r :: b, h => by
    obtain ⟨h1, h2⟩ := List.cons.inj h
    unfold pairD at h1
    injection h1 with h1
    injection h1 with h3 h4
    injection h3 with h3
    injection h4 with h4
    injection h4 with h4
    rw [pairD_inj h2, Prod.ext h3 h4]
def sp_alike (C : Addr) : DSp := fun ds P => ∃ us d1 z1 d2 z2, ds = [deskD C us, d1, d2] ∧ IsSeq d1 z1 ∧ IsSeq d2 z2 ∧ us.length ≤ 24 ∧ WOk us ∧ z1.Perm (nms us) ∧ z2.Perm (nms us) ∧ P (.bl (decide (wsh us z1 = wsh us z2)))
def d_alike (C_Desk : Addr) : TDS := (sRet (dO2 (bEqN false) (dCall (sp_wish_of C_Desk) (aCons (dV 0) (aCons (dV 1) aNil))) (dCall (sp_wish_of C_Desk) (aCons (dV 0) (aCons (dV 2) aNil)))))
theorem pairs_eq {a b : List SP} {P : D → Prop} (ha : ∀ p ∈ a, NameOk p.1 ∧ NameOk p.2) (hb : ∀ p ∈ b, NameOk p.1 ∧ NameOk p.2) (q : P (.bl (decide (a = b)))) : ob (bEqN false (.lst (a.map pairD)) (.lst (b.map pairD))) P := by
  refine beq_ob (n := 2) (by decide) (sh_pairs ha) (sh_pairs hb) (fun h => ?_) (fun h => ?_)
  · have e : a = b := pairD_inj (by injection h)
    rw [decide_eq_true e] at q
    exact q
  · have e : a ≠ b := fun e => h (by rw [e])
    rw [decide_eq_false e] at q
    exact q
theorem rd_alike {C : Addr} {ds : List D} {P : D → Prop} (h : sp_alike C ds P) : d_alike C (fin false P) (st 3 ds) := by
  obtain ⟨us, d1, z1, d2, z2, rfl, h1, h2, hl, W, p1, p2, q⟩ := h
  simp only [d_alike, dC, dV, dB, dO2, ob_some, dT, dAndT, dOrT, dNotT, dIf, dAndV, dOrV, dNotV, dChain, aNil, aCons, dTup, dLst, dCut, oNone, oSome, dRev, dNeg, dTru, dCa, dIs, dIsA, dCall, dCallK, sNil, sSeq, sNever, sBrk, sCont, sIf, sRet, sRetO, sRetE, sSet, sSetO, sDrop, sPar, sPar3, kn, enOf, owD, sAsg, gNm, gsNil, gsCons, gTp, sApp, sIns, sExt, sClr, sRev, sPut, sFrz, owAt, fin, st, iRng, iRngB, iSeq, lstD, tupD, sFor, dLc, dDc, wipeE, tYesD, dIndex, dSort, dDictZip, dMeth, dFld, dMk, List.map_cons, List.map_nil, List.length_cons, List.length_nil, List.replicate_succ, List.replicate_zero, List.cons_append, List.nil_append, List.append_nil, List.getElem?_cons_zero, List.getElem?_cons_succ, List.set_cons_zero, List.set_cons_succ, Option.bind_some, Option.map_some, Nat.reduceSub, Nat.reduceAdd, kwP, List.getD_cons_zero, List.getD_cons_succ]
  refine ⟨us, d1, z1, rfl, h1, hl, W.nd, p1, us, d2, z2, rfl, h2, hl, W.nd, p2, ?_⟩
  exact pairs_eq (wsh_names W z1) (wsh_names W z2) q
def sp_standing : DSp := fun ds P => ∃ us ws zs, ds = [winD ws, .lst (zs.map D.str)] ∧ WOk ws ∧ us.Perm ws ∧ SortW us ∧ us.length ≤ 24 ∧ zs.Perm (nms us) ∧ P (.lst ((wsh us zs).map pairD))
def d_standing : TDS := (sSeq (sSetO 2 (dLst aNil))
  (sSeq (sFor (iSeq (dCall sp_pairs (aCons (dV 0) aNil))) (gTp 2 (gsCons (gNm 3) (gsCons (gNm 4) gsNil))) (sApp 2 (dIf (dT (dO2 bLt (dIndex (dV 1) (dV 3)) (dIndex (dV 1) (dV 4)))) (dTup (aCons (dV 3) (aCons (dV 4) aNil))) (dTup (aCons (dV 4) (aCons (dV 3) aNil))))))
  (sRet (dSortP (dB 2)))))
theorem rd_standing {ds : List D} {P : D → Prop} (h : sp_standing ds P) : d_standing (fin true P) (st 5 ds) := by
  obtain ⟨us, ws, zs, rfl, W, pu, su, hl, hp, q⟩ := h
  have nl : (nms us).length ≤ 24 := by unfold nms; rw [List.length_map]; exact hl
  simp only [d_standing, dC, dV, dB, dO2, ob_some, dT, dAndT, dOrT, dNotT, dIf, dAndV, dOrV, dNotV, dChain, aNil, aCons, dTup, dLst, dCut, oNone, oSome, dRev, dNeg, dTru, dCa, dIs, dIsA, dCall, dCallK, sNil, sSeq, sNever, sBrk, sCont, sIf, sRet, sRetO, sRetE, sSet, sSetO, sDrop, sPar, sPar3, kn, enOf, owD, sAsg, gNm, gsNil, gsCons, gTp, sApp, sIns, sExt, sClr, sRev, sPut, sFrz, owAt, fin, st, iRng, iRngB, iSeq, lstD, tupD, sFor, dLc, dDc, wipeE, tYesD, dIndex, dSort, dDictZip, dMeth, dFld, dMk, List.map_cons, List.map_nil, List.length_cons, List.length_nil, List.replicate_succ, List.replicate_zero, List.cons_append, List.nil_append, List.append_nil, List.getElem?_cons_zero, List.getElem?_cons_succ, List.set_cons_zero, List.set_cons_succ, Option.bind_some, Option.map_some, Nat.reduceSub, Nat.reduceAdd, kwP, List.getD_cons_zero, List.getD_cons_succ]
  refine ⟨by decide, .inl ⟨us, ws, rfl, W, pu, su, hl, ?_⟩⟩
  refine loop_all pairD (prs (ovl us) (nms us)) (fun pre env => ∃ e3 e4, env = [.fz (winD ws), .fz (.lst (zs.map D.str)), .ow ((pre.map (ori zs)).map pairD), e3, e4]) ⟨_, _, rfl⟩ (fun pre p post env e h k hk => ?_) (fun env h => ?_)
  · obtain ⟨e3, e4, rfl⟩ := h
    have m := prs_mem _ _ p (by rw [e]; simp)
    have i1 := index_ixS zs p.1 (hp.mem_iff.mpr m.1)
    have i2 := index_ixS zs p.2 (hp.mem_iff.mpr m.2)
    have sz : ((pre.map (ori zs)).map pairD).length < sizeLine := by
      have h2 := prs_len (ovl us) (nms us)
      have h3 : (nms us).length * (nms us).length ≤ 24 * 24 := Nat.mul_le_mul nl nl
      have h4 := congrArg List.length e
      simp only [List.length_append, List.length_cons] at h4
      rw [List.length_map, List.length_map]
      exact szM (by omega)
    simp only [pairD, dC, dV, dB, dO2, ob_some, dT, dAndT, dOrT, dNotT, dIf, dAndV, dOrV, dNotV, dChain, aNil, aCons, dTup, dLst, dCut, oNone, oSome, dRev, dNeg, dTru, dCa, dIs, dIsA, dCall, dCallK, sNil, sSeq, sNever, sBrk, sCont, sIf, sRet, sRetO, sRetE, sSet, sSetO, sDrop, sPar, sPar3, kn, enOf, owD, sAsg, gNm, gsNil, gsCons, gTp, sApp, sIns, sExt, sClr, sRev, sPut, sFrz, owAt, fin, st, iRng, iRngB, iSeq, lstD, tupD, sFor, dLc, dDc, wipeE, tYesD, dIndex, dSort, dDictZip, dMeth, dFld, dMk, List.map_cons, List.map_nil, List.length_cons, List.length_nil, List.replicate_succ, List.replicate_zero, List.cons_append, List.nil_append, List.append_nil, List.getElem?_cons_zero, List.getElem?_cons_succ, List.set_cons_zero, List.set_cons_succ, Option.bind_some, Option.map_some, Nat.reduceSub, Nat.reduceAdd, kwP, List.getD_cons_zero, List.getD_cons_succ, leaf_strs, i1, i2, bLt_i]
    refine ⟨trivial, trivial, trivial, rfl, trivial, rfl, ?_⟩
    have ed : decide (((ixS zs p.1 : Nat) : Int) < ((ixS zs p.2 : Nat) : Int)) = decide (ixS zs p.1 < ixS zs p.2) := decide_eq_decide.mpr Int.ofNat_lt
    rw [ed]
    have em : ∀ r : SP, ori zs p = r → ((pre.map (ori zs)).map pairD) ++ [D.tup [.str r.1, .str r.2]] = ((pre ++ [p]).map (ori zs)).map pairD := fun r hr => by
      rw [List.map_append, List.map_append, List.map_cons, List.map_nil, hr]
      rfl
    by_cases c : ixS zs p.1 < ixS zs p.2
    · rw [decide_eq_true c]
      refine ⟨by decide, sz, ?_⟩
      exact hk _ ⟨_, _, by rw [← em p (if_pos c)]⟩
    · rw [decide_eq_false c]
      refine ⟨by decide, sz, ?_⟩
      exact hk _ ⟨_, _, by rw [← em (p.2, p.1) (if_neg c)]⟩
  · obtain ⟨e3, e4, rfl⟩ := h
    simp only [dSortP, dC, dV, dB, dO2, ob_some, dT, dAndT, dOrT, dNotT, dIf, dAndV, dOrV, dNotV, dChain, aNil, aCons, dTup, dLst, dCut, oNone, oSome, dRev, dNeg, dTru, dCa, dIs, dIsA, dCall, dCallK, sNil, sSeq, sNever, sBrk, sCont, sIf, sRet, sRetO, sRetE, sSet, sSetO, sDrop, sPar, sPar3, kn, enOf, owD, sAsg, gNm, gsNil, gsCons, gTp, sApp, sIns, sExt, sClr, sRev, sPut, sFrz, owAt, fin, st, iRng, iRngB, iSeq, lstD, tupD, sFor, dLc, dDc, wipeE, tYesD, dIndex, dSort, dDictZip, dMeth, dFld, dMk, List.map_cons, List.map_nil, List.length_cons, List.length_nil, List.replicate_succ, List.replicate_zero, List.cons_append, List.nil_append, List.append_nil, List.getElem?_cons_zero, List.getElem?_cons_succ, List.set_cons_zero, List.set_cons_succ, Option.bind_some, Option.map_some, Nat.reduceSub, Nat.reduceAdd, kwP, List.getD_cons_zero, List.getD_cons_succ]
    exact ⟨_, rfl, q⟩
theorem ln_common {ds : List D} {P : D → Prop} (h : sp_common ds P) : ds.length = 2 := by obtain ⟨_, _, rfl, _⟩ := h; rfl
theorem ln_meet {ds : List D} {P : D → Prop} (h : sp_meet ds P) : ds.length = 2 := by obtain ⟨_, _, rfl, _⟩ := h; rfl
theorem ln_Desk_overlap {C : Addr} {ds : List D} {P : D → Prop} (h : sp_Desk_overlap C ds P) : ds.length = 3 := by obtain ⟨_, _, _, _, _, rfl, _⟩ := h; rfl
theorem ln_Desk_pairs {C : Addr} {ds : List D} {P : D → Prop} (h : sp_Desk_pairs C ds P) : ds.length = 1 := by obtain ⟨_, rfl, _⟩ := h; rfl
theorem ln_pairs {ds : List D} {P : D → Prop} (h : sp_pairs ds P) : ds.length = 1 := by obtain ⟨_, _, rfl, _⟩ := h; rfl
theorem ln_places {ds : List D} {P : D → Prop} (h : sp_places ds P) : ds.length = 1 := by obtain ⟨_, _, rfl, _⟩ := h; rfl
theorem ln_wish_of {C : Addr} {ds : List D} {P : D → Prop} (h : sp_wish_of C ds P) : ds.length = 2 := by obtain ⟨_, _, _, rfl, _⟩ := h; rfl
theorem ln_alike {C : Addr} {ds : List D} {P : D → Prop} (h : sp_alike C ds P) : ds.length = 3 := by obtain ⟨_, _, _, _, _, rfl, _⟩ := h; rfl
theorem ln_standing {ds : List D} {P : D → Prop} (h : sp_standing ds P) : ds.length = 2 := by obtain ⟨_, _, _, rfl, _⟩ := h; rfl
end DL

namespace DL
open PySem PySem.Spec PyProof.Rows L2 RK
/-! ### dicts of texts that are known -/
def keysOf (kds : List (Key × D)) : List Key := kds.map (·.1)
theorem has_key (kds : List (Key × D)) (z : Key) : (valD kds z).isSome = true ↔ z ∈ keysOf kds := by
  unfold valD keysOf
  rw [Option.isSome_map, List.find?_isSome]
  constructor
  · rintro ⟨q, hq, e⟩
    rw [← of_decide_eq_true e]
    exact List.mem_map.mpr ⟨q, hq, rfl⟩
  · intro h
    obtain ⟨q, hq, e⟩ := List.mem_map.mp h
    exact ⟨q, hq, decide_eq_true e⟩
theorem keys_put (kds : List (Key × D)) (k : Key) (y : D) (z : Key) : z ∈ keysOf (putD kds k y) ↔ z ∈ keysOf kds ∨ z = k := by
  unfold putD
  by_cases h : (kds.any fun kd => decide (kd.1 = k)) = true
  · rw [if_pos h]
    have e : keysOf (kds.map fun kv => if kv.1 = k then (kv.1, y) else kv) = keysOf kds := by
      unfold keysOf
      rw [List.map_map]
      refine List.map_congr_left fun q _ => ?_
      show (if q.1 = k then (q.1, y) else q).1 = q.1
      by_cases g : q.1 = k
      · rw [if_pos g]
      · rw [if_neg g]
    rw [e]
    refine ⟨.inl, fun g => g.elim id fun g => ?_⟩
    obtain ⟨q, hq, e2⟩ := List.any_eq_true.mp h
    rw [g, ← of_decide_eq_true e2]
    exact List.mem_map.mpr ⟨q, hq, rfl⟩
  · rw [if_neg h]
    unfold keysOf
    rw [List.map_append, List.mem_append]
    simp
theorem put_len (kds : List (Key × D)) (k : Key) (y : D) : (putD kds k y).length ≤ kds.length + 1 := by
  unfold putD
  by_cases h : (kds.any fun kd => decide (kd.1 = k)) = true
  · rw [if_pos h, List.length_map]; omega
  · rw [if_neg h]; simp
theorem dcomp_keys {α : Type} {g : TDG} {tt : TDT} {tk tv : TDE} {P : D → Prop} {env : De} (enc : α → D) (key : α → Key) (v : D) : ∀ (l : List α) (acc : List (Key × D)), (∀ a ∈ l, ∀ (Q : Key → D → Prop) (Z : Prop), Q (key a) v → g (enc a) env fun env' => tt env' fun b => if b = true then tk env' fun k => tv env' fun y => ob (keyD k) fun k => Q k y else Z) →
    acc.length + l.length ≤ 1000000 → (∀ kds : List (Key × D), (∀ z, z ∈ keysOf kds ↔ z ∈ keysOf acc ∨ z ∈ l.map key) → P (.dic kds)) → dDcomp g tt tk tv P env (l.map enc) acc
  | [], acc, _, _, q => q acc fun z => by simp
  | a :: l, acc, h, hl, q => by
    refine h a List.mem_cons_self (fun k y => acc.length < sizeLine ∧ dDcomp g tt tk tv P env (l.map enc) (putD acc k y)) _ ⟨szM (by simp at hl; omega), ?_⟩
    refine dcomp_keys enc key v l _ (fun b hb => h b (List.mem_cons_of_mem _ hb)) (by have := put_len acc (key a) v; simp at hl; omega) fun kds hk => q kds fun z => ?_
    rw [hk, keys_put, List.map_cons, List.mem_cons]
    constructor
    · rintro ((h | h) | h)
      · exact .inl h
      · exact .inr (.inl h)
      · exact .inr (.inr h)
    · rintro (h | h | h)
      · exact .inl (.inl h)
      · exact .inl (.inr h)
      · exact .inr h
/-- the texts that a dict knows -/
def Knows (kds : List (Key × D)) (p : Str → Prop) : Prop := ∀ z : Str, (Sum.inr z : Key) ∈ keysOf kds ↔ p z
theorem bIn_kn {neg : Bool} {kds : List (Key × D)} {p : Str → Prop} [DecidablePred p] (h : Knows kds p) (z : Str) : bIn neg (.str z) (.dic kds) = some (.bl (neg ^^ decide (p z))) := by
  show (none : Option D).or ((some (D.bl (neg ^^ (valD kds (Sum.inr z : Key)).isSome))).or _) = _
  have e : (valD kds (Sum.inr z : Key)).isSome = decide (p z) := by
    rw [Bool.eq_iff_iff, has_key, h z, decide_eq_true_iff]
  rw [e]
  rfl
theorem enu_zipG {α : Type} (enc : α → D) : ∀ (l : List α) (k : Nat), enuD k (l.map enc) = (l.zipIdx k).map fun p => .tup [.int ((p.2 : Nat) : Int), enc p.1]
  | [], _ => rfl
  | z :: zs, k => by rw [List.map_cons, enuD, enu_zipG enc zs (k + 1), List.zipIdx_cons, List.map_cons]
/-! ### wishes -/
def IsPrs (d : D) (ps : List SP) : Prop := d = .lst (ps.map pairD) ∨ d = .tup (ps.map pairD)
def sp_is_pair : DSp := fun ds P => ∃ (kds : List (Key × D)) (zs : List Str) (p : SP), ds = [.dic kds, pairD p] ∧ Knows kds (· ∈ zs) ∧ p.1 ∈ zs ∧ p.2 ∈ zs ∧ p.1 ≠ p.2 ∧ NameOk p.1 ∧ NameOk p.2 ∧ P (.bl true)
def d_is_pair : TDS := (sSeq (sIf (dOrT (dNotT (dT (dIs "tuple" (dV 1)))) (dT (dO2 (bEqN true) (dCa lenD (aCons (dV 1) aNil)) (dC (.int 2))))) (sRet (dC (.bl false))) sNil)
  (sRet (dAndV (dCa allD (aCons (dLc (iSeq (dV 1)) (gNm 2) tYesD (dAndV (dIs "str" (dV 2)) (dO2 (bIn false) (dV 2) (dV 0))) [2]) aNil)) (dO2 (bEqN true) (dO2 bIx (dV 1) (dC (.int 0))) (dO2 bIx (dV 1) (dC (.int 1)))))))
theorem rd_is_pair {ds : List D} {P : D → Prop} (h : sp_is_pair ds P) : d_is_pair (fin false P) (st 3 ds) := by
  obtain ⟨kds, zs, p, rfl, hk, h1, h2, ne, n1, n2, q⟩ := h
  have i1 := bIn_kn (neg := false) hk p.1
  have i2 := bIn_kn (neg := false) hk p.2
  rw [decide_eq_true h1] at i1
  rw [decide_eq_true h2] at i2
  have en : bEqN true (.str p.1) (.str p.2) = some (.bl true) := by
    obtain ⟨b, e, hb⟩ := beq_iff (neg := true) (n := 0) (x := .str p.1) (y := .str p.2) (by decide) (name_ok n1) (name_ok n2)
    rw [e]
    cases b with
    | true => exact absurd (D.str.inj (hb.mp rfl)) ne
    | false => rfl
  have t1 : isD "tuple" (.tup [.str p.1, .str p.2]) = some true := rfl
  have t2 : ∀ x : Str, isD "str" (.str x) = some true := fun _ => rfl
  have l2 : lenD [.tup [.str p.1, .str p.2]] = some (.int 2) := rfl
  have e2 : bEqN true (.int 2) (.int 2) = some (.bl false) := rfl
  have x0 : bIx (.tup [.str p.1, .str p.2]) (.int 0) = some (.str p.1) := rfl
  have x1 : bIx (.tup [.str p.1, .str p.2]) (.int 1) = some (.str p.2) := rfl
  simp only [d_is_pair, dC, dV, dB, dO2, ob_some, dT, dAndT, dOrT, dNotT, dIf, dAndV, dOrV, dNotV, dChain, aNil, aCons, dTup, dLst, dCut, oNone, oSome, dRev, dNeg, dTru, dCa, dIs, dIsA, dCall, dCallK, sNil, sSeq, sNever, sBrk, sCont, sIf, sRet, sRetO, sRetE, sSet, sSetO, sDrop, sPar, sPar3, kn, enOf, owD, sAsg, gNm, gsNil, gsCons, gTp, sApp, sIns, sExt, sClr, sRev, sPut, sFrz, owAt, fin, st, iRng, iRngB, iSeq, lstD, tupD, sFor, dLc, dDc, wipeE, tYesD, dIndex, dSort, dDictZip, dMeth, dFld, dMk, List.map_cons, List.map_nil, List.length_cons, List.length_nil, List.replicate_succ, List.replicate_zero, List.cons_append, List.nil_append, List.append_nil, List.getElem?_cons_zero, List.getElem?_cons_succ, List.set_cons_zero, List.set_cons_succ, Option.bind_some, Option.map_some, Nat.reduceSub, Nat.reduceAdd, kwP, List.getD_cons_zero, List.getD_cons_succ, pairD, t1, l2, e2, Bool.not_true, Bool.false_eq_true, if_false]
  refine .inr (.inl ?_)
  refine comp_map D.str (fun _ => D.bl true) [p.1, p.2] [] (fun z hz Q Z hQ => ?_) (by simp) ?_
  · have iz : bIn false (.str z) (.dic kds) = some (.bl true) := by
      simp only [List.mem_cons, List.not_mem_nil, or_false] at hz
      rcases hz with rfl | rfl
      · exact i1
      · exact i2
    simp only [dC, dV, dB, dO2, ob_some, dT, dAndT, dOrT, dNotT, dIf, dAndV, dOrV, dNotV, dChain, aNil, aCons, dTup, dLst, dCut, oNone, oSome, dRev, dNeg, dTru, dCa, dIs, dIsA, dCall, dCallK, sNil, sSeq, sNever, sBrk, sCont, sIf, sRet, sRetO, sRetE, sSet, sSetO, sDrop, sPar, sPar3, kn, enOf, owD, sAsg, gNm, gsNil, gsCons, gTp, sApp, sIns, sExt, sClr, sRev, sPut, sFrz, owAt, fin, st, iRng, iRngB, iSeq, lstD, tupD, sFor, dLc, dDc, wipeE, tYesD, dIndex, dSort, dDictZip, dMeth, dFld, dMk, List.map_cons, List.map_nil, List.length_cons, List.length_nil, List.replicate_succ, List.replicate_zero, List.cons_append, List.nil_append, List.append_nil, List.getElem?_cons_zero, List.getElem?_cons_succ, List.set_cons_zero, List.set_cons_succ, Option.bind_some, Option.map_some, Nat.reduceSub, Nat.reduceAdd, kwP, List.getD_cons_zero, List.getD_cons_succ, t2, iz, if_true]
    exact hQ
  · have ea : allD [.lst ([] ++ [p.1, p.2].map fun _ => D.bl true)] = some (.bl true) := rfl
    simp only [ea, ob_some, if_true, x0, x1, en]
    exact q
def sp_check_wish : DSp := fun ds P => ∃ d zs e ps, ds = [d, e] ∧ IsSeq d zs ∧ IsPrs e ps ∧ zs.length ≤ 100000 ∧ ps.length ≤ 100000 ∧ (∀ p ∈ ps, p.1 ∈ zs ∧ p.2 ∈ zs ∧ p.1 ≠ p.2) ∧ (∀ z ∈ zs, NameOk z) ∧ P .non
def d_check_wish : TDS := (sSeq (sSet 2 (dDc (iSeq (dV 0)) (gNm 5) tYesD (dV 5) (dC (.bl true)) [5]))
  (sFor (iEnu (dV 1)) (gTp 2 (gsCons (gNm 3) (gsCons (gNm 4) gsNil))) (sIf (dNotT (dT (dCall sp_is_pair (aCons (dV 2) (aCons (dV 4) aNil))))) sNever sNil)))
theorem rd_check_wish {ds : List D} {P : D → Prop} (h : sp_check_wish ds P) : d_check_wish (fin false P) (st 6 ds) := by
  obtain ⟨d, zs, e, ps, rfl, hd, he, lz, lp, hp, nm, q⟩ := h
  simp only [d_check_wish, dC, dV, dB, dO2, ob_some, dT, dAndT, dOrT, dNotT, dIf, dAndV, dOrV, dNotV, dChain, aNil, aCons, dTup, dLst, dCut, oNone, oSome, dRev, dNeg, dTru, dCa, dIs, dIsA, dCall, dCallK, sNil, sSeq, sNever, sBrk, sCont, sIf, sRet, sRetO, sRetE, sSet, sSetO, sDrop, sPar, sPar3, kn, enOf, owD, sAsg, gNm, gsNil, gsCons, gTp, sApp, sIns, sExt, sClr, sRev, sPut, sFrz, owAt, fin, st, iRng, iRngB, iSeq, lstD, tupD, sFor, dLc, dDc, wipeE, tYesD, dIndex, dSort, dDictZip, dMeth, dFld, dMk, List.map_cons, List.map_nil, List.length_cons, List.length_nil, List.replicate_succ, List.replicate_zero, List.cons_append, List.nil_append, List.append_nil, List.getElem?_cons_zero, List.getElem?_cons_succ, List.set_cons_zero, List.set_cons_succ, Option.bind_some, Option.map_some, Nat.reduceSub, Nat.reduceAdd, kwP, List.getD_cons_zero, List.getD_cons_succ, iEnu]
  refine seq_strs hd ?_
  refine dcomp_keys D.str Sum.inr (.bl true) zs [] (fun z hz Q Z hQ => ?_) (by simp; omega) (fun kds hk => ?_)
  · simp only [dC, dV, dB, dO2, ob_some, dT, dAndT, dOrT, dNotT, dIf, dAndV, dOrV, dNotV, dChain, aNil, aCons, dTup, dLst, dCut, oNone, oSome, dRev, dNeg, dTru, dCa, dIs, dIsA, dCall, dCallK, sNil, sSeq, sNever, sBrk, sCont, sIf, sRet, sRetO, sRetE, sSet, sSetO, sDrop, sPar, sPar3, kn, enOf, owD, sAsg, gNm, gsNil, gsCons, gTp, sApp, sIns, sExt, sClr, sRev, sPut, sFrz, owAt, fin, st, iRng, iRngB, iSeq, lstD, tupD, sFor, dLc, dDc, wipeE, tYesD, dIndex, dSort, dDictZip, dMeth, dFld, dMk, List.map_cons, List.map_nil, List.length_cons, List.length_nil, List.replicate_succ, List.replicate_zero, List.cons_append, List.nil_append, List.append_nil, List.getElem?_cons_zero, List.getElem?_cons_succ, List.set_cons_zero, List.set_cons_succ, Option.bind_some, Option.map_some, Nat.reduceSub, Nat.reduceAdd, kwP, List.getD_cons_zero, List.getD_cons_succ, keyD, if_true]
    exact hQ
  · have kn : Knows kds (· ∈ zs) := fun z => by
      rw [hk]
      constructor
      · rintro (h | h)
        · cases h
        · obtain ⟨y, hy, e⟩ := List.mem_map.mp h
          rw [← Sum.inr.inj e]
          exact hy
      · exact fun h => .inr (List.mem_map.mpr ⟨z, h, rfl⟩)
    have loop : ∀ x5 : En, sLoop (gTp 2 (gsCons (gNm 3) (gsCons (gNm 4) gsNil))) (sIf (dNotT (dT (dCall sp_is_pair (aCons (dV 2) (aCons (dV 4) aNil))))) sNever sNil) { nx := fun _ => True ∧ P .non, rt := P } (enuD 0 (ps.map pairD)) [.fz d, .fz e, .fz (.dic kds), .no, .no, x5] := fun x5 => by
      rw [enu_zipG]
      refine loop_all (fun r : SP × Nat => D.tup [.int ((r.2 : Nat) : Int), pairD r.1]) ps.zipIdx (fun _ env => ∃ e3 e4 e5, env = [.fz d, .fz e, .fz (.dic kds), e3, e4, e5]) ⟨_, _, _, rfl⟩ (fun pre r post env ee h k hkk => ?_) (fun env h => ⟨trivial, q⟩)
      obtain ⟨e3, e4, e5, rfl⟩ := h
      have hm : r.1 ∈ ps := by
        have : r ∈ ps.zipIdx := by rw [ee]; simp
        have h2 : r.1 ∈ (ps.zipIdx).map Prod.fst := List.mem_map.mpr ⟨r, this, rfl⟩
        rw [List.zipIdx_map_fst] at h2
        exact h2
      obtain ⟨a1, a2, a3⟩ := hp r.1 hm
      simp only [dC, dV, dB, dO2, ob_some, dT, dAndT, dOrT, dNotT, dIf, dAndV, dOrV, dNotV, dChain, aNil, aCons, dTup, dLst, dCut, oNone, oSome, dRev, dNeg, dTru, dCa, dIs, dIsA, dCall, dCallK, sNil, sSeq, sNever, sBrk, sCont, sIf, sRet, sRetO, sRetE, sSet, sSetO, sDrop, sPar, sPar3, kn, enOf, owD, sAsg, gNm, gsNil, gsCons, gTp, sApp, sIns, sExt, sClr, sRev, sPut, sFrz, owAt, fin, st, iRng, iRngB, iSeq, lstD, tupD, sFor, dLc, dDc, wipeE, tYesD, dIndex, dSort, dDictZip, dMeth, dFld, dMk, List.map_cons, List.map_nil, List.length_cons, List.length_nil, List.replicate_succ, List.replicate_zero, List.cons_append, List.nil_append, List.append_nil, List.getElem?_cons_zero, List.getElem?_cons_succ, List.set_cons_zero, List.set_cons_succ, Option.bind_some, Option.map_some, Nat.reduceSub, Nat.reduceAdd, kwP, List.getD_cons_zero, List.getD_cons_succ]
      refine ⟨trivial, trivial, kds, zs, r.1, rfl, kn, a1, a2, a3, nm _ a1, nm _ a2, ?_⟩
      simp only [Bool.not_true, Bool.false_eq_true, if_false]
      exact hkk _ ⟨_, _, _, rfl⟩
    rcases he with rfl | rfl
    · exact .inl (loop .no)
    · exact .inr (loop .no)
/-! ### the order that is settled -/
def frees (ws : List Str) (ps : List SP) : List Str := ws.filter fun z => !(decide (z ∈ ps.map (·.2)))
def settle : Nat → List Str → List SP → List Str
  | 0, _, _ => []
  | n + 1, ws, ps => match frees ws ps with
    | [] => []
    | f :: _ => f :: settle n (ws.erase f) (ps.filter fun p => !(decide (p.1 = f)))
def sp_settled : DSp := fun ds P => ∃ zs e ps, ds = [.lst (zs.map D.str), e] ∧ IsPrs e ps ∧ zs.length < 64 ∧ ps.length ≤ 100000 ∧ (∀ z ∈ zs, NameOk z) ∧ (∀ p ∈ ps, NameOk p.1) ∧ ∀ ys, SortS zs ys → P (.lst ((settle (zs.length + 1) ys ps).map D.str))
def d_settled : TDS := (sSeq (sSetO 2 (dSort (dV 0)))
  (sSeq (sSet 3 (dCa listD (aCons (dV 1) aNil)))
  (sSeq (sSetO 4 (dLst aNil))
  (sWhile (dT (dC (.bl true))) (sSeq (sSet 5 (dDc (iSeq (dV 3)) (gTp 2 (gsCons (gNm 7) (gsCons (gNm 8) gsNil))) tYesD (dV 8) (dC (.bl true)) [7, 8]))
  (sSeq (sSet 6 (dLc (iSeq (dB 2)) (gNm 9) (dT (dO2 (bIn true) (dV 9) (dV 5))) (dV 9) [9]))
  (sSeq (sIf (dNotT (dTru (dV 6))) (sRetO 4) sNil)
  (sSeq (sApp 4 (dO2 bIx (dV 6) (dC (.int 0))))
  (sSeq (sRem 2 (dO2 bIx (dV 6) (dC (.int 0))))
  (sSet 3 (dLc (iSeq (dV 3)) (gTp 2 (gsCons (gNm 7) (gsCons (gNm 8) gsNil))) (dT (dO2 (bEqN true) (dV 7) (dO2 bIx (dV 6) (dC (.int 0))))) (dTup (aCons (dV 7) (aCons (dV 8) aNil))) [7, 8])))))))))))
theorem strs_map : ∀ zs : List Str, strsD (zs.map D.str) = some zs
  | [] => rfl
  | z :: zs => by
    show (strsD (zs.map D.str)).map _ = _
    rw [strs_map zs]
    rfl
theorem rd_settled {ds : List D} {P : D → Prop} (h : sp_settled ds P) : d_settled (fin true P) (st 10 ds) := by
  obtain ⟨zs, e, ps, rfl, he, lz, lp, nm, np, q⟩ := h
  have el : listD [e] = some (.lst (ps.map pairD)) := by rcases he with rfl | rfl <;> rfl
  simp only [d_settled, dC, dV, dB, dO2, ob_some, dT, dAndT, dOrT, dNotT, dIf, dAndV, dOrV, dNotV, dChain, aNil, aCons, dTup, dLst, dCut, oNone, oSome, dRev, dNeg, dTru, dCa, dIs, dIsA, dCall, dCallK, sNil, sSeq, sNever, sBrk, sCont, sIf, sRet, sRetO, sRetE, sSet, sSetO, sDrop, sPar, sPar3, kn, enOf, owD, sAsg, gNm, gsNil, gsCons, gTp, sApp, sIns, sExt, sClr, sRev, sPut, sFrz, owAt, fin, st, iRng, iRngB, iSeq, lstD, tupD, sFor, dLc, dDc, wipeE, tYesD, dIndex, dSort, dDictZip, dMeth, dFld, dMk, List.map_cons, List.map_nil, List.length_cons, List.length_nil, List.replicate_succ, List.replicate_zero, List.cons_append, List.nil_append, List.append_nil, List.getElem?_cons_zero, List.getElem?_cons_succ, List.set_cons_zero, List.set_cons_succ, Option.bind_some, Option.map_some, Nat.reduceSub, Nat.reduceAdd, kwP, List.getD_cons_zero, List.getD_cons_succ]
  refine .inl ⟨zs, strs_map zs, lz, fun ys hs => ?_⟩
  simp only [el, ob_some, dC, dV, dB, dO2, ob_some, dT, dAndT, dOrT, dNotT, dIf, dAndV, dOrV, dNotV, dChain, aNil, aCons, dTup, dLst, dCut, oNone, oSome, dRev, dNeg, dTru, dCa, dIs, dIsA, dCall, dCallK, sNil, sSeq, sNever, sBrk, sCont, sIf, sRet, sRetO, sRetE, sSet, sSetO, sDrop, sPar, sPar3, kn, enOf, owD, sAsg, gNm, gsNil, gsCons, gTp, sApp, sIns, sExt, sClr, sRev, sPut, sFrz, owAt, fin, st, iRng, iRngB, iSeq, lstD, tupD, sFor, dLc, dDc, wipeE, tYesD, dIndex, dSort, dDictZip, dMeth, dFld, dMk, List.map_cons, List.map_nil, List.length_cons, List.length_nil, List.replicate_succ, List.replicate_zero, List.cons_append, List.nil_append, List.append_nil, List.getElem?_cons_zero, List.getElem?_cons_succ, List.set_cons_zero, List.set_cons_succ, Option.bind_some, Option.map_some, Nat.reduceSub, Nat.reduceAdd, kwP, List.getD_cons_zero, List.getD_cons_succ]
  refine ⟨by decide, ?_⟩
  refine ⟨fun m env => ∃ (n : Nat) (ws : List Str) (qs : List SP) (acc : List Str) (e5 e6 e7 e8 e9 : En), env = [.fz (.lst (zs.map D.str)), .fz e, .ow (ws.map D.str), .fz (.lst (qs.map pairD)), .ow (acc.map D.str), e5, e6, e7, e8, e9] ∧ acc ++ settle n ws qs = settle (zs.length + 1) ys ps ∧ ws.length < n ∧ m = ws.length ∧ acc.length + ws.length ≤ 64 ∧ qs.length ≤ 100000 ∧ (∀ z ∈ ws, NameOk z) ∧ (∀ p ∈ qs, NameOk p.1), ⟨ys.length, zs.length + 1, ys, ps, [], _, _, _, _, _, rfl, rfl, by rw [hs.1.length_eq]; omega, rfl, by rw [hs.1.length_eq]; simp; omega, lp, fun z hz => nm z (hs.1.mem_iff.mp hz), np⟩, ?_⟩
  rintro m env ⟨n, ws, qs, acc, e5, e6, e7, e8, e9, rfl, hse, hwn, rfl, hal, hql, nw, nq⟩
  simp only [dC, dV, dB, dO2, ob_some, dT, dAndT, dOrT, dNotT, dIf, dAndV, dOrV, dNotV, dChain, aNil, aCons, dTup, dLst, dCut, oNone, oSome, dRev, dNeg, dTru, dCa, dIs, dIsA, dCall, dCallK, sNil, sSeq, sNever, sBrk, sCont, sIf, sRet, sRetO, sRetE, sSet, sSetO, sDrop, sPar, sPar3, kn, enOf, owD, sAsg, gNm, gsNil, gsCons, gTp, sApp, sIns, sExt, sClr, sRev, sPut, sFrz, owAt, fin, st, iRng, iRngB, iSeq, lstD, tupD, sFor, dLc, dDc, wipeE, tYesD, dIndex, dSort, dDictZip, dMeth, dFld, dMk, List.map_cons, List.map_nil, List.length_cons, List.length_nil, List.replicate_succ, List.replicate_zero, List.cons_append, List.nil_append, List.append_nil, List.getElem?_cons_zero, List.getElem?_cons_succ, List.set_cons_zero, List.set_cons_succ, Option.bind_some, Option.map_some, Nat.reduceSub, Nat.reduceAdd, kwP, List.getD_cons_zero, List.getD_cons_succ, if_true]
  obtain ⟨k, rfl⟩ : ∃ k, n = k + 1 := ⟨n - 1, by omega⟩
  refine .inl (dcomp_keys pairD (fun p : SP => (Sum.inr p.2 : Key)) (.bl true) qs [] (fun p hp Q Z hQ => ?_) (by simp; omega) (fun kds hk => ?_))
  · simp only [pairD, dC, dV, dB, dO2, ob_some, dT, dAndT, dOrT, dNotT, dIf, dAndV, dOrV, dNotV, dChain, aNil, aCons, dTup, dLst, dCut, oNone, oSome, dRev, dNeg, dTru, dCa, dIs, dIsA, dCall, dCallK, sNil, sSeq, sNever, sBrk, sCont, sIf, sRet, sRetO, sRetE, sSet, sSetO, sDrop, sPar, sPar3, kn, enOf, owD, sAsg, gNm, gsNil, gsCons, gTp, sApp, sIns, sExt, sClr, sRev, sPut, sFrz, owAt, fin, st, iRng, iRngB, iSeq, lstD, tupD, sFor, dLc, dDc, wipeE, tYesD, dIndex, dSort, dDictZip, dMeth, dFld, dMk, List.map_cons, List.map_nil, List.length_cons, List.length_nil, List.replicate_succ, List.replicate_zero, List.cons_append, List.nil_append, List.append_nil, List.getElem?_cons_zero, List.getElem?_cons_succ, List.set_cons_zero, List.set_cons_succ, Option.bind_some, Option.map_some, Nat.reduceSub, Nat.reduceAdd, kwP, List.getD_cons_zero, List.getD_cons_succ, keyD, if_true]
    exact ⟨trivial, trivial, hQ⟩
  · have kn : Knows kds (· ∈ qs.map (·.2)) := fun z => by
      rw [hk]
      constructor
      · rintro (h | h)
        · cases h
        · obtain ⟨y, hy, e⟩ := List.mem_map.mp h
          exact List.mem_map.mpr ⟨y, hy, Sum.inr.inj e⟩
      · intro h
        obtain ⟨y, hy, e⟩ := List.mem_map.mp h
        exact .inr (List.mem_map.mpr ⟨y, hy, by rw [← e]⟩)
    refine .inl (comp_filter D.str D.str (fun z => !(decide (z ∈ qs.map (·.2)))) ws [] (fun z hz Q Z h1 h2 => ?_) (by simp; omega) ?_)
    · simp only [dC, dV, dB, dO2, ob_some, dT, dAndT, dOrT, dNotT, dIf, dAndV, dOrV, dNotV, dChain, aNil, aCons, dTup, dLst, dCut, oNone, oSome, dRev, dNeg, dTru, dCa, dIs, dIsA, dCall, dCallK, sNil, sSeq, sNever, sBrk, sCont, sIf, sRet, sRetO, sRetE, sSet, sSetO, sDrop, sPar, sPar3, kn, enOf, owD, sAsg, gNm, gsNil, gsCons, gTp, sApp, sIns, sExt, sClr, sRev, sPut, sFrz, owAt, fin, st, iRng, iRngB, iSeq, lstD, tupD, sFor, dLc, dDc, wipeE, tYesD, dIndex, dSort, dDictZip, dMeth, dFld, dMk, List.map_cons, List.map_nil, List.length_cons, List.length_nil, List.replicate_succ, List.replicate_zero, List.cons_append, List.nil_append, List.append_nil, List.getElem?_cons_zero, List.getElem?_cons_succ, List.set_cons_zero, List.set_cons_succ, Option.bind_some, Option.map_some, Nat.reduceSub, Nat.reduceAdd, kwP, List.getD_cons_zero, List.getD_cons_succ, bIn_kn kn, Bool.true_xor]
      cases hc : decide (z ∈ qs.map (·.2)) with
      | true =>
        rw [hc] at h2
        simpa using h2 rfl
      | false =>
        rw [hc] at h1
        simpa using h1 rfl
    · rw [List.nil_append]
      have ef : ws.filter (fun z => !(decide (z ∈ qs.map (·.2)))) = frees ws qs := rfl
      rw [ef]
      cases hf : frees ws qs with
      | nil =>
        rw [settle, hf] at hse
        simp only [List.append_nil] at hse
        rw [hse]
        exact q ys hs
      | cons f r =>
        rw [settle, hf] at hse
        have hm : f ∈ ws := (List.mem_filter.mp (show f ∈ frees ws qs by rw [hf]; exact List.mem_cons_self)).1
        have t1 : truD (.lst ((f :: r).map D.str)) = some true := rfl
        have x0 : bIx (.lst ((f :: r).map D.str)) (.int 0) = some (.str f) := bIx_l (j := 0) rfl
        have x1 : bIx (.lst (D.str f :: r.map D.str)) (.int 0) = some (.str f) := bIx_l (j := 0) rfl
        have le : (ws.erase f).length = ws.length - 1 := List.length_erase_of_mem hm
        have lw : 0 < ws.length := List.length_pos_of_mem hm
        simp only [t1, x0, ob_some, Bool.not_true, Bool.false_eq_true, if_false]
        refine ⟨by rw [List.length_map]; exact szM (by omega), ?_⟩
        simp only [sRem, dC, dV, dB, dO2, ob_some, dT, dAndT, dOrT, dNotT, dIf, dAndV, dOrV, dNotV, dChain, aNil, aCons, dTup, dLst, dCut, oNone, oSome, dRev, dNeg, dTru, dCa, dIs, dIsA, dCall, dCallK, sNil, sSeq, sNever, sBrk, sCont, sIf, sRet, sRetO, sRetE, sSet, sSetO, sDrop, sPar, sPar3, kn, enOf, owD, sAsg, gNm, gsNil, gsCons, gTp, sApp, sIns, sExt, sClr, sRev, sPut, sFrz, owAt, fin, st, iRng, iRngB, iSeq, lstD, tupD, sFor, dLc, dDc, wipeE, tYesD, dIndex, dSort, dDictZip, dMeth, dFld, dMk, List.map_cons, List.map_nil, List.length_cons, List.length_nil, List.replicate_succ, List.replicate_zero, List.cons_append, List.nil_append, List.append_nil, List.getElem?_cons_zero, List.getElem?_cons_succ, List.set_cons_zero, List.set_cons_succ, Option.bind_some, Option.map_some, Nat.reduceSub, Nat.reduceAdd, kwP, List.getD_cons_zero, List.getD_cons_succ, x1]
        refine ⟨ws, strs_map ws, hm, .inl (comp_filter pairD pairD (fun p : SP => !(decide (p.1 = f))) qs [] (fun p hp Q Z h1 h2 => ?_) (by simp; omega) ?_)⟩
        · simp only [pairD, dC, dV, dB, dO2, ob_some, dT, dAndT, dOrT, dNotT, dIf, dAndV, dOrV, dNotV, dChain, aNil, aCons, dTup, dLst, dCut, oNone, oSome, dRev, dNeg, dTru, dCa, dIs, dIsA, dCall, dCallK, sNil, sSeq, sNever, sBrk, sCont, sIf, sRet, sRetO, sRetE, sSet, sSetO, sDrop, sPar, sPar3, kn, enOf, owD, sAsg, gNm, gsNil, gsCons, gTp, sApp, sIns, sExt, sClr, sRev, sPut, sFrz, owAt, fin, st, iRng, iRngB, iSeq, lstD, tupD, sFor, dLc, dDc, wipeE, tYesD, dIndex, dSort, dDictZip, dMeth, dFld, dMk, List.map_cons, List.map_nil, List.length_cons, List.length_nil, List.replicate_succ, List.replicate_zero, List.cons_append, List.nil_append, List.append_nil, List.getElem?_cons_zero, List.getElem?_cons_succ, List.set_cons_zero, List.set_cons_succ, Option.bind_some, Option.map_some, Nat.reduceSub, Nat.reduceAdd, kwP, List.getD_cons_zero, List.getD_cons_succ, x1]
          refine ⟨trivial, trivial, beq_ob (n := 0) (by decide) (name_ok (nq p hp)) (name_ok (nw f hm)) (fun h => ?_) (fun h => ?_)⟩
          · have : p.1 = f := D.str.inj h
            rw [decide_eq_true this] at h2
            exact h2 rfl
          · have : p.1 ≠ f := fun z => h (by rw [z])
            rw [decide_eq_false this] at h1
            exact ⟨by decide, h1 rfl⟩
        · rw [List.nil_append]
          refine ⟨ws.length - 1, by omega, k, ws.erase f, qs.filter (fun p => !(decide (p.1 = f))), acc ++ [f], _, _, _, _, _, by rw [List.map_append]; rfl, ?_, by omega, le.symm, by rw [List.length_append]; simp; omega, Nat.le_trans (List.length_filter_le _ _) hql, fun z hz => nw z (List.mem_of_mem_erase hz), fun p hp => nq p (List.mem_filter.mp hp).1⟩
          rw [List.append_assoc]
          exact hse
def sp_least_keeping : DSp := fun ds P => ∃ zs e ps, ds = [.lst (zs.map D.str), e] ∧ IsPrs e ps ∧ zs.length < 64 ∧ ps.length ≤ 100000 ∧ (∀ z ∈ zs, NameOk z) ∧ (∀ p ∈ ps, p.1 ∈ zs ∧ p.2 ∈ zs ∧ p.1 ≠ p.2) ∧ ∀ ys, SortS zs ys → (settle (zs.length + 1) ys ps).length = zs.length ∧ P (.lst ((settle (zs.length + 1) ys ps).map D.str))
def d_least_keeping : TDS := (sSeq (sDrop (dCall sp_check_wish (aCons (dV 0) (aCons (dV 1) aNil))))
  (sSeq (sSetO 2 (dCall sp_settled (aCons (dV 0) (aCons (dV 1) aNil))))
  (sSeq (sIf (dT (dO2 bLt (dCa lenD (aCons (dB 2) aNil)) (dCa lenD (aCons (dV 0) aNil)))) sNever sNil)
  (sRetO 2))))
theorem rd_least_keeping {ds : List D} {P : D → Prop} (h : sp_least_keeping ds P) : d_least_keeping (fin true P) (st 3 ds) := by
  obtain ⟨zs, e, ps, rfl, he, lz, lp, nm, np, q⟩ := h
  simp only [d_least_keeping, dC, dV, dB, dO2, ob_some, dT, dAndT, dOrT, dNotT, dIf, dAndV, dOrV, dNotV, dChain, aNil, aCons, dTup, dLst, dCut, oNone, oSome, dRev, dNeg, dTru, dCa, dIs, dIsA, dCall, dCallK, sNil, sSeq, sNever, sBrk, sCont, sIf, sRet, sRetO, sRetE, sSet, sSetO, sDrop, sPar, sPar3, kn, enOf, owD, sAsg, gNm, gsNil, gsCons, gTp, sApp, sIns, sExt, sClr, sRev, sPut, sFrz, owAt, fin, st, iRng, iRngB, iSeq, lstD, tupD, sFor, dLc, dDc, wipeE, tYesD, dIndex, dSort, dDictZip, dMeth, dFld, dMk, List.map_cons, List.map_nil, List.length_cons, List.length_nil, List.replicate_succ, List.replicate_zero, List.cons_append, List.nil_append, List.append_nil, List.getElem?_cons_zero, List.getElem?_cons_succ, List.set_cons_zero, List.set_cons_succ, Option.bind_some, Option.map_some, Nat.reduceSub, Nat.reduceAdd, kwP, List.getD_cons_zero, List.getD_cons_succ]
  refine ⟨_, zs, e, ps, rfl, .inl rfl, he, by omega, lp, np, nm, zs, e, ps, rfl, he, lz, lp, nm, fun p hp => nm _ (np p hp).1, fun ys hs => ?_⟩
  obtain ⟨h1, h2⟩ := q ys hs
  have l1 : lenD [.lst ((settle (zs.length + 1) ys ps).map D.str)] = some (.int zs.length) := by rw [len_strs (.inl rfl), h1]
  have l2 : lenD [.lst (zs.map D.str)] = some (.int zs.length) := len_strs (.inl rfl)
  simp only [dC, dV, dB, dO2, ob_some, dT, dAndT, dOrT, dNotT, dIf, dAndV, dOrV, dNotV, dChain, aNil, aCons, dTup, dLst, dCut, oNone, oSome, dRev, dNeg, dTru, dCa, dIs, dIsA, dCall, dCallK, sNil, sSeq, sNever, sBrk, sCont, sIf, sRet, sRetO, sRetE, sSet, sSetO, sDrop, sPar, sPar3, kn, enOf, owD, sAsg, gNm, gsNil, gsCons, gTp, sApp, sIns, sExt, sClr, sRev, sPut, sFrz, owAt, fin, st, iRng, iRngB, iSeq, lstD, tupD, sFor, dLc, dDc, wipeE, tYesD, dIndex, dSort, dDictZip, dMeth, dFld, dMk, List.map_cons, List.map_nil, List.length_cons, List.length_nil, List.replicate_succ, List.replicate_zero, List.cons_append, List.nil_append, List.append_nil, List.getElem?_cons_zero, List.getElem?_cons_succ, List.set_cons_zero, List.set_cons_succ, Option.bind_some, Option.map_some, Nat.reduceSub, Nat.reduceAdd, kwP, List.getD_cons_zero, List.getD_cons_succ, l1, l2, bLt_i, Int.lt_irrefl, decide_false, Bool.false_eq_true, if_false]
  exact h2
def sp_least_order (C : Addr) : DSp := fun ds P => ∃ us d zs, ds = [deskD C us, d] ∧ IsSeq d zs ∧ us.length ≤ 24 ∧ WOk us ∧ SortW us ∧ zs.Perm (nms us) ∧ (∀ p ∈ wsh us zs, p.1 ≠ p.2) ∧ (settle (us.length + 1) (nms us) (wsh us zs)).length = us.length ∧ P (.lst ((settle (us.length + 1) (nms us) (wsh us zs)).map D.str))
def d_least_order (C_Desk : Addr) : TDS := (sRet (dCall sp_least_keeping (aCons (dMeth C_Desk "names" (sp_Desk_names C_Desk) (dV 0) aNil) (aCons (dCall (sp_wish_of C_Desk) (aCons (dV 0) (aCons (dV 1) aNil))) aNil))))
theorem rd_least_order {C : Addr} {ds : List D} {P : D → Prop} (h : sp_least_order C ds P) : d_least_order C (fin true P) (st 2 ds) := by
  obtain ⟨us, d, zs, rfl, hd, hl, W, su, hp, ne, hlen, q⟩ := h
  have hn : (("names" : Str) == ("windows" : Str)) = false := by decide +kernel
  have nl : (nms us).length = us.length := List.length_map _
  simp only [d_least_order, dC, dV, dB, dO2, ob_some, dT, dAndT, dOrT, dNotT, dIf, dAndV, dOrV, dNotV, dChain, aNil, aCons, dTup, dLst, dCut, oNone, oSome, dRev, dNeg, dTru, dCa, dIs, dIsA, dCall, dCallK, sNil, sSeq, sNever, sBrk, sCont, sIf, sRet, sRetO, sRetE, sSet, sSetO, sDrop, sPar, sPar3, kn, enOf, owD, sAsg, gNm, gsNil, gsCons, gTp, sApp, sIns, sExt, sClr, sRev, sPut, sFrz, owAt, fin, st, iRng, iRngB, iSeq, lstD, tupD, sFor, dLc, dDc, wipeE, tYesD, dIndex, dSort, dDictZip, dMeth, dFld, dMk, List.map_cons, List.map_nil, List.length_cons, List.length_nil, List.replicate_succ, List.replicate_zero, List.cons_append, List.nil_append, List.append_nil, List.getElem?_cons_zero, List.getElem?_cons_succ, List.set_cons_zero, List.set_cons_succ, Option.bind_some, Option.map_some, Nat.reduceSub, Nat.reduceAdd, kwP, List.getD_cons_zero, List.getD_cons_succ, deskD, no_m hn]
  refine ⟨trivial, trivial, us, rfl, us, d, zs, rfl, hd, hl, W.nd, hp, nms us, _, wsh us zs, rfl, .inl rfl, by omega, by have := wsh_len zs hl; omega, fun z hz => ?_, fun p hp' => ⟨(wsh_mem hp').1, (wsh_mem hp').2, ne p hp'⟩, fun ys hs => ?_⟩
  · obtain ⟨w, hw, rfl⟩ := List.mem_map.mp hz
    exact W.nm w hw
  · have ey : ys = nms us := sorted_one hs.1 (sorted_of hs.2) su
    rw [ey, nl]
    exact ⟨hlen, q⟩
theorem ln_least_keeping {ds : List D} {P : D → Prop} (h : sp_least_keeping ds P) : ds.length = 2 := by obtain ⟨_, _, _, rfl, _⟩ := h; rfl
theorem ln_least_order {C : Addr} {ds : List D} {P : D → Prop} (h : sp_least_order C ds P) : ds.length = 2 := by obtain ⟨_, _, _, rfl, _⟩ := h; rfl
theorem ln_is_pair {ds : List D} {P : D → Prop} (h : sp_is_pair ds P) : ds.length = 2 := by obtain ⟨_, _, _, rfl, _⟩ := h; rfl
theorem ln_check_wish {ds : List D} {P : D → Prop} (h : sp_check_wish ds P) : ds.length = 2 := by obtain ⟨_, _, _, _, rfl, _⟩ := h; rfl
theorem ln_settled {ds : List D} {P : D → Prop} (h : sp_settled ds P) : ds.length = 2 := by obtain ⟨_, _, _, rfl, _⟩ := h; rfl
end DL

namespace DL
open PySem PySem.Spec PyProof.Rows L2 RK
/-! ### scripts -/
inductive Sc where
  | mv (up : Bool) (ns : List Str)
  | pl (n : Str) (r : R)
  | rp (c : Int) (ss : List Sc)
def Sc.word : Sc → Str
  | .mv true _ => "raise"
  | .mv false _ => "lower"
  | .pl _ _ => "place"
  | .rp _ _ => "repeat"
mutual
def Sc.d : Sc → D
  | .mv true ns => .tup [.str "raise", .lst (ns.map D.str)]
  | .mv false ns => .tup [.str "lower", .lst (ns.map D.str)]
  | .pl n r => .tup [.str "place", .str n, rectD r]
  | .rp c ss => .tup [.str "repeat", .int c, .lst (Sc.ds ss)]
def Sc.ds : List Sc → List D
  | [] => []
  | s :: ss => s.d :: Sc.ds ss
end
theorem ds_map : ∀ ss : List Sc, Sc.ds ss = ss.map Sc.d
  | [] => by rw [Sc.ds]; rfl
  | s :: ss => by rw [Sc.ds, ds_map ss]; rfl
def IsSs (d : D) (ss : List Sc) : Prop := d = .lst (ss.map Sc.d) ∨ d = .tup (ss.map Sc.d)
theorem seq_ss {d : D} {ss : List Sc} (h : IsSs d ss) {P : List D → Prop} (q : P (ss.map Sc.d)) : ob (lstD d) P ∨ ob (tupD d) P ∨ ob (sgnD d) P := by
  rcases h with rfl | rfl
  · exact .inl q
  · exact .inr (.inl q)
theorem Sc.items (s : Sc) : ∃ xs, s.d = .tup (.str s.word :: xs) := by
  cases s with
  | mv up ns => cases up <;> exact ⟨_, by rw [Sc.d]; rfl⟩
  | pl n r => exact ⟨_, by rw [Sc.d]; rfl⟩
  | rp c ss => exact ⟨_, by rw [Sc.d]; rfl⟩
def Sc.isRp : Sc → Bool
  | .rp _ _ => true
  | _ => false
def Sc.isMv : Sc → Bool
  | .mv _ _ => true
  | _ => false
theorem word_rp (s : Sc) : decide (s.word = "repeat") = s.isRp := by
  cases s with
  | mv up ns =>
    cases up
    · exact (by decide +kernel : decide (("lower" : Str) = "repeat") = false)
    · exact (by decide +kernel : decide (("raise" : Str) = "repeat") = false)
  | pl n r => exact (by decide +kernel : decide (("place" : Str) = "repeat") = false)
  | rp c ss => exact (by decide +kernel : decide (("repeat" : Str) = "repeat") = true)
theorem word_mv (s : Sc) : (decide (s.word = "raise") || decide (s.word = "lower")) = s.isMv := by
  cases s with
  | mv up ns =>
    cases up
    · exact (by decide +kernel : (decide (("lower" : Str) = "raise") || decide (("lower" : Str) = "lower")) = true)
    · exact (by decide +kernel : (decide (("raise" : Str) = "raise") || decide (("raise" : Str) = "lower")) = true)
  | pl n r => exact (by decide +kernel : (decide (("place" : Str) = "raise") || decide (("place" : Str) = "lower")) = false)
  | rp c ss => exact (by decide +kernel : (decide (("repeat" : Str) = "raise") || decide (("repeat" : Str) = "lower")) = false)
theorem word_pl (s : Sc) : decide (s.word = "place") = (!s.isMv && !s.isRp) := by
  cases s with
  | mv up ns =>
    cases up
    · exact (by decide +kernel : decide (("lower" : Str) = "place") = false)
    · exact (by decide +kernel : decide (("raise" : Str) = "place") = false)
  | pl n r => exact (by decide +kernel : decide (("place" : Str) = "place") = true)
  | rp c ss => exact (by decide +kernel : decide (("repeat" : Str) = "place") = false)
/-- is_list -/
def sp_is_list : DSp := fun ds P => ∃ d, ds = [d] ∧ ((∃ xs, d = .lst xs) ∨ ∃ xs, d = .tup xs) ∧ P (.bl true)
def d_is_list : TDS := (sRet (dIsA ["list", "tuple"] (dV 0)))
theorem rd_is_list {ds : List D} {P : D → Prop} (h : sp_is_list ds P) : d_is_list (fin false P) (st 1 ds) := by
  obtain ⟨d, rfl, h, q⟩ := h
  rcases h with ⟨xs, rfl⟩ | ⟨xs, rfl⟩
  · have e : isAnyD (.lst xs) ["list", "tuple"] = some true := rfl
    simp only [d_is_list, dC, dV, dB, dO2, ob_some, dT, dAndT, dOrT, dNotT, dIf, dAndV, dOrV, dNotV, dChain, aNil, aCons, dTup, dLst, dCut, oNone, oSome, dRev, dNeg, dTru, dCa, dIs, dIsA, dCall, dCallK, sNil, sSeq, sNever, sBrk, sCont, sIf, sRet, sRetO, sRetE, sSet, sSetO, sDrop, sPar, sPar3, kn, enOf, owD, sAsg, gNm, gsNil, gsCons, gTp, sApp, sIns, sExt, sClr, sRev, sPut, sFrz, owAt, fin, st, iRng, iRngB, iSeq, lstD, tupD, sFor, dLc, dDc, wipeE, tYesD, dIndex, dSort, dDictZip, dMeth, dFld, dMk, List.map_cons, List.map_nil, List.length_cons, List.length_nil, List.replicate_succ, List.replicate_zero, List.cons_append, List.nil_append, List.append_nil, List.getElem?_cons_zero, List.getElem?_cons_succ, List.set_cons_zero, List.set_cons_succ, Option.bind_some, Option.map_some, Nat.reduceSub, Nat.reduceAdd, kwP, List.getD_cons_zero, List.getD_cons_succ, e]
    exact q
  · have e : isAnyD (.tup xs) ["list", "tuple"] = some true := rfl
    simp only [d_is_list, dC, dV, dB, dO2, ob_some, dT, dAndT, dOrT, dNotT, dIf, dAndV, dOrV, dNotV, dChain, aNil, aCons, dTup, dLst, dCut, oNone, oSome, dRev, dNeg, dTru, dCa, dIs, dIsA, dCall, dCallK, sNil, sSeq, sNever, sBrk, sCont, sIf, sRet, sRetO, sRetE, sSet, sSetO, sDrop, sPar, sPar3, kn, enOf, owD, sAsg, gNm, gsNil, gsCons, gTp, sApp, sIns, sExt, sClr, sRev, sPut, sFrz, owAt, fin, st, iRng, iRngB, iSeq, lstD, tupD, sFor, dLc, dDc, wipeE, tYesD, dIndex, dSort, dDictZip, dMeth, dFld, dMk, List.map_cons, List.map_nil, List.length_cons, List.length_nil, List.replicate_succ, List.replicate_zero, List.cons_append, List.nil_append, List.append_nil, List.getElem?_cons_zero, List.getElem?_cons_succ, List.set_cons_zero, List.set_cons_succ, Option.bind_some, Option.map_some, Nat.reduceSub, Nat.reduceAdd, kwP, List.getD_cons_zero, List.getD_cons_succ, e]
    exact q
theorem ln_is_list {ds : List D} {P : D → Prop} (h : sp_is_list ds P) : ds.length = 1 := by obtain ⟨_, rfl, _⟩ := h; rfl
/-- begins_with -/
def sp_begins_with : DSp := fun ds P => ∃ (s : Sc) (d : D) (ws : List Str), ds = [s.d, d] ∧ (d = .tup (ws.map D.str) ∨ d = .ktp (ws.map D.str)) ∧ P (.bl (decide (s.word ∈ ws)))
def d_begins_with : TDS := (sRet (dAndV (dIs "tuple" (dV 0)) (dAndV (dO2 bGt (dCa lenD (aCons (dV 0) aNil)) (dC (.int 0))) (dO2 (bIn false) (dO2 bIx (dV 0) (dC (.int 0))) (dV 1)))))
theorem bIn_ktp {neg : Bool} {ws : List Str} (n : Str) : bIn neg (.str n) (.ktp (ws.map D.str)) = some (.bl (neg ^^ decide (n ∈ ws))) := by
  show ((if D.leaf (.str n) = true ∧ (ws.map D.str).all D.leaf = true then some (D.bl (neg ^^ (ws.map D.str).any fun y => eqF y (.str n))) else none)).or _ = _
  rw [if_pos ⟨rfl, leaf_strs ws⟩, any_str]
  rfl
theorem rd_begins_with {ds : List D} {P : D → Prop} (h : sp_begins_with ds P) : d_begins_with (fin false P) (st 2 ds) := by
  obtain ⟨s, d, ws, rfl, hd, q⟩ := h
  obtain ⟨xs, e⟩ := s.items
  rw [e]
  have t1 : isD "tuple" (.tup (.str s.word :: xs)) = some true := rfl
  have l1 : lenD [.tup (.str s.word :: xs)] = some (.int ((xs.length + 1 : Nat) : Int)) := rfl
  have g1 : bGt (.int ((xs.length + 1 : Nat) : Int)) (.int 0) = some (.bl true) := by
    show some (D.bl (decide _)) = _
    rw [decide_eq_true (by omega)]
  have x0 : bIx (.tup (.str s.word :: xs)) (.int 0) = some (.str s.word) := bIx_tp (j := 0) rfl
  have i1 : bIn false (.str s.word) d = some (.bl (decide (s.word ∈ ws))) := by
    rcases hd with rfl | rfl
    · rw [bIn_strs (.inr rfl), Bool.false_xor]
    · rw [bIn_ktp, Bool.false_xor]
  simp only [d_begins_with, dC, dV, dB, dO2, ob_some, dT, dAndT, dOrT, dNotT, dIf, dAndV, dOrV, dNotV, dChain, aNil, aCons, dTup, dLst, dCut, oNone, oSome, dRev, dNeg, dTru, dCa, dIs, dIsA, dCall, dCallK, sNil, sSeq, sNever, sBrk, sCont, sIf, sRet, sRetO, sRetE, sSet, sSetO, sDrop, sPar, sPar3, kn, enOf, owD, sAsg, gNm, gsNil, gsCons, gTp, sApp, sIns, sExt, sClr, sRev, sPut, sFrz, owAt, fin, st, iRng, iRngB, iSeq, lstD, tupD, sFor, dLc, dDc, wipeE, tYesD, dIndex, dSort, dDictZip, dMeth, dFld, dMk, List.map_cons, List.map_nil, List.length_cons, List.length_nil, List.replicate_succ, List.replicate_zero, List.cons_append, List.nil_append, List.append_nil, List.getElem?_cons_zero, List.getElem?_cons_succ, List.set_cons_zero, List.set_cons_succ, Option.bind_some, Option.map_some, Nat.reduceSub, Nat.reduceAdd, kwP, List.getD_cons_zero, List.getD_cons_succ, t1, l1, g1, x0, i1, if_true]
  exact q
theorem ln_begins_with {ds : List D} {P : D → Prop} (h : sp_begins_with ds P) : ds.length = 2 := by obtain ⟨_, _, _, rfl, _⟩ := h; rfl
def sp_is_repeat : DSp := fun ds P => ∃ s : Sc, ds = [s.d] ∧ P (.bl s.isRp)
def d_is_repeat : TDS := (sRet (dCall sp_begins_with (aCons (dV 0) (aCons (dTup (aCons (dC (.str "repeat")) aNil)) aNil))))
theorem rd_is_repeat {ds : List D} {P : D → Prop} (h : sp_is_repeat ds P) : d_is_repeat (fin false P) (st 1 ds) := by
  obtain ⟨s, rfl, q⟩ := h
  simp only [d_is_repeat, dC, dV, dB, dO2, ob_some, dT, dAndT, dOrT, dNotT, dIf, dAndV, dOrV, dNotV, dChain, aNil, aCons, dTup, dLst, dCut, oNone, oSome, dRev, dNeg, dTru, dCa, dIs, dIsA, dCall, dCallK, sNil, sSeq, sNever, sBrk, sCont, sIf, sRet, sRetO, sRetE, sSet, sSetO, sDrop, sPar, sPar3, kn, enOf, owD, sAsg, gNm, gsNil, gsCons, gTp, sApp, sIns, sExt, sClr, sRev, sPut, sFrz, owAt, fin, st, iRng, iRngB, iSeq, lstD, tupD, sFor, dLc, dDc, wipeE, tYesD, dIndex, dSort, dDictZip, dMeth, dFld, dMk, List.map_cons, List.map_nil, List.length_cons, List.length_nil, List.replicate_succ, List.replicate_zero, List.cons_append, List.nil_append, List.append_nil, List.getElem?_cons_zero, List.getElem?_cons_succ, List.set_cons_zero, List.set_cons_succ, Option.bind_some, Option.map_some, Nat.reduceSub, Nat.reduceAdd, kwP, List.getD_cons_zero, List.getD_cons_succ]
  refine ⟨by decide, s, _, ["repeat"], rfl, .inl rfl, ?_⟩
  have e : decide (s.word ∈ (["repeat"] : List Str)) = s.isRp := by rw [← word_rp]; exact decide_eq_decide.mpr (by simp)
  rw [e]
  exact q
theorem ln_is_repeat {ds : List D} {P : D → Prop} (h : sp_is_repeat ds P) : ds.length = 1 := by obtain ⟨_, rfl, _⟩ := h; rfl
def sp_has_nested_script : DSp := fun ds P => ∃ c ss, ds = [(Sc.rp c ss).d] ∧ ss.length ≤ 100000 ∧ P (.bl true)
def d_has_nested_script : TDS := (sSeq (sIf (dOrT (dT (dO2 (bEqN true) (dCa lenD (aCons (dV 0) aNil)) (dC (.int 3)))) (dNotT (dT (dCall sp_is_list (aCons (dO2 bIx (dV 0) (dC (.int 2))) aNil))))) (sRet (dC (.bl false))) sNil)
  (sRet (dCa allD (aCons (dLc (iSeq (dO2 bIx (dV 0) (dC (.int 2)))) (gNm 1) tYesD (dAndV (dIs "tuple" (dV 1)) (dO2 bGt (dCa lenD (aCons (dV 1) aNil)) (dC (.int 0)))) [1]) aNil))))
theorem rd_has_nested_script {ds : List D} {P : D → Prop} (h : sp_has_nested_script ds P) : d_has_nested_script (fin false P) (st 2 ds) := by
  obtain ⟨c, ss, rfl, hl, q⟩ := h
  rw [Sc.d, ds_map]
  have l1 : lenD [.tup [.str "repeat", .int c, .lst (ss.map Sc.d)]] = some (.int 3) := rfl
  have e1 : bEqN true (.int 3) (.int 3) = some (.bl false) := rfl
  have x2 : bIx (.tup [.str "repeat", .int c, .lst (ss.map Sc.d)]) (.int 2) = some (.lst (ss.map Sc.d)) := bIx_tp (j := 2) rfl
  simp only [d_has_nested_script, dC, dV, dB, dO2, ob_some, dT, dAndT, dOrT, dNotT, dIf, dAndV, dOrV, dNotV, dChain, aNil, aCons, dTup, dLst, dCut, oNone, oSome, dRev, dNeg, dTru, dCa, dIs, dIsA, dCall, dCallK, sNil, sSeq, sNever, sBrk, sCont, sIf, sRet, sRetO, sRetE, sSet, sSetO, sDrop, sPar, sPar3, kn, enOf, owD, sAsg, gNm, gsNil, gsCons, gTp, sApp, sIns, sExt, sClr, sRev, sPut, sFrz, owAt, fin, st, iRng, iRngB, iSeq, lstD, tupD, sFor, dLc, dDc, wipeE, tYesD, dIndex, dSort, dDictZip, dMeth, dFld, dMk, List.map_cons, List.map_nil, List.length_cons, List.length_nil, List.replicate_succ, List.replicate_zero, List.cons_append, List.nil_append, List.append_nil, List.getElem?_cons_zero, List.getElem?_cons_succ, List.set_cons_zero, List.set_cons_succ, Option.bind_some, Option.map_some, Nat.reduceSub, Nat.reduceAdd, kwP, List.getD_cons_zero, List.getD_cons_succ, l1, e1, x2, Bool.false_eq_true, if_false]
  refine ⟨_, rfl, .inl ⟨_, rfl⟩, ?_⟩
  simp only [Bool.not_true, Bool.false_eq_true, if_false]
  refine .inl (comp_map Sc.d (fun _ => D.bl true) ss [] (fun s hs Q Z hQ => ?_) (by simp; omega) ?_)
  · obtain ⟨xs, e⟩ := s.items
    have t1 : isD "tuple" (.tup (.str s.word :: xs)) = some true := rfl
    have l1 : lenD [.tup (.str s.word :: xs)] = some (.int ((xs.length + 1 : Nat) : Int)) := rfl
    have g1 : bGt (.int ((xs.length + 1 : Nat) : Int)) (.int 0) = some (.bl true) := by
      show some (D.bl (decide _)) = _
      rw [decide_eq_true (by omega)]
    simp only [e, dC, dV, dB, dO2, ob_some, dT, dAndT, dOrT, dNotT, dIf, dAndV, dOrV, dNotV, dChain, aNil, aCons, dTup, dLst, dCut, oNone, oSome, dRev, dNeg, dTru, dCa, dIs, dIsA, dCall, dCallK, sNil, sSeq, sNever, sBrk, sCont, sIf, sRet, sRetO, sRetE, sSet, sSetO, sDrop, sPar, sPar3, kn, enOf, owD, sAsg, gNm, gsNil, gsCons, gTp, sApp, sIns, sExt, sClr, sRev, sPut, sFrz, owAt, fin, st, iRng, iRngB, iSeq, lstD, tupD, sFor, dLc, dDc, wipeE, tYesD, dIndex, dSort, dDictZip, dMeth, dFld, dMk, List.map_cons, List.map_nil, List.length_cons, List.length_nil, List.replicate_succ, List.replicate_zero, List.cons_append, List.nil_append, List.append_nil, List.getElem?_cons_zero, List.getElem?_cons_succ, List.set_cons_zero, List.set_cons_succ, Option.bind_some, Option.map_some, Nat.reduceSub, Nat.reduceAdd, kwP, List.getD_cons_zero, List.getD_cons_succ, t1, l1, g1, if_true]
    exact hQ
  · rw [List.nil_append, allD_f]
    have : (ss.all fun _ => true) = true := by simp
    rw [this]
    exact q
theorem ln_has_nested_script {ds : List D} {P : D → Prop} (h : sp_has_nested_script ds P) : ds.length = 1 := by obtain ⟨_, _, rfl, _⟩ := h; rfl
def sp_inner_steps : DSp := fun ds P => ∃ c ss, ds = [(Sc.rp c ss).d] ∧ ss.length ≤ 100000 ∧ P (.lst (ss.map Sc.d))
def d_inner_steps : TDS := (sRet (dIf (dT (dCall sp_has_nested_script (aCons (dV 0) aNil))) (dCa listD (aCons (dO2 bIx (dV 0) (dC (.int 2))) aNil)) (dLst aNil)))
theorem rd_inner_steps {ds : List D} {P : D → Prop} (h : sp_inner_steps ds P) : d_inner_steps (fin false P) (st 1 ds) := by
  obtain ⟨c, ss, rfl, hl, q⟩ := h
  simp only [d_inner_steps, dC, dV, dB, dO2, ob_some, dT, dAndT, dOrT, dNotT, dIf, dAndV, dOrV, dNotV, dChain, aNil, aCons, dTup, dLst, dCut, oNone, oSome, dRev, dNeg, dTru, dCa, dIs, dIsA, dCall, dCallK, sNil, sSeq, sNever, sBrk, sCont, sIf, sRet, sRetO, sRetE, sSet, sSetO, sDrop, sPar, sPar3, kn, enOf, owD, sAsg, gNm, gsNil, gsCons, gTp, sApp, sIns, sExt, sClr, sRev, sPut, sFrz, owAt, fin, st, iRng, iRngB, iSeq, lstD, tupD, sFor, dLc, dDc, wipeE, tYesD, dIndex, dSort, dDictZip, dMeth, dFld, dMk, List.map_cons, List.map_nil, List.length_cons, List.length_nil, List.replicate_succ, List.replicate_zero, List.cons_append, List.nil_append, List.append_nil, List.getElem?_cons_zero, List.getElem?_cons_succ, List.set_cons_zero, List.set_cons_succ, Option.bind_some, Option.map_some, Nat.reduceSub, Nat.reduceAdd, kwP, List.getD_cons_zero, List.getD_cons_succ]
  refine ⟨c, ss, rfl, hl, ?_⟩
  rw [Sc.d, ds_map]
  have x2 : bIx (.tup [.str "repeat", .int c, .lst (ss.map Sc.d)]) (.int 2) = some (.lst (ss.map Sc.d)) := bIx_tp (j := 2) rfl
  have l2 : listD [.lst (ss.map Sc.d)] = some (.lst (ss.map Sc.d)) := rfl
  simp only [x2, l2, ob_some, if_true]
  exact q
theorem ln_inner_steps {ds : List D} {P : D → Prop} (h : sp_inner_steps ds P) : ds.length = 1 := by obtain ⟨_, _, rfl, _⟩ := h; rfl
end DL

namespace DL
open PySem PySem.Spec PyProof.Rows L2 RK
/-! ### comprehensions over two -/
theorem dIn_map {β : Type} {g : TDG} {tt : TDT} {te : TDE} {k : List D → Prop} {env : De} (enc h : β → D) : ∀ (l : List β) (acc : List D), (∀ b ∈ l, ∀ (Q : D → Prop) (Z : Prop), Q (h b) → g (enc b) env fun env' => tt env' fun c => if c = true then te env' Q else Z) → acc.length + l.length ≤ 1000000 →
    k (acc ++ l.map h) → dIn g tt te k env (l.map enc) acc
  | [], acc, _, _, q => by
    rw [List.map_nil, List.append_nil] at q
    exact q
  | b :: l, acc, hs, hl, q => hs b List.mem_cons_self _ _ (by
      refine ⟨szM (by simp at hl; omega), dIn_map enc h l (acc ++ [h b]) (fun c hc => hs c (List.mem_cons_of_mem _ hc)) (by simp at hl ⊢; omega) ?_⟩
      rw [List.append_assoc]
      exact q)
theorem comp2_map {α β : Type} {g g1 : TDG} {tt tt1 : TDT} {it1 : TDI} {te : TDE} {vs1 : List Nat} {P : D → Prop} {env : De} (enc : α → D) (enc1 h : β → D) (f : α → List β) (S : α → De → Prop) : ∀ (l : List α) (acc : List D),
    (∀ a ∈ l, ∀ (K : De → List D → Prop) (Z : Prop), (∀ env', S a env' → K env' ((f a).map enc1)) → g (enc a) env fun env' => tt env' fun b => if b = true then it1 env' (K env') else Z) →
    (∀ a ∈ l, ∀ env', S a env' → ∀ b ∈ f a, ∀ (Q : D → Prop) (Z : Prop), Q (h b) → g1 (enc1 b) (wipeE env' vs1) fun e2 => tt1 e2 fun c => if c = true then te e2 Q else Z) → acc.length + (l.flatMap f).length ≤ 1000000 →
    P (.lst (acc ++ (l.flatMap f).map h)) → dComp2 g tt it1 g1 tt1 te vs1 P env (l.map enc) acc
  | [], acc, _, _, _, q => by
    rw [List.flatMap_nil, List.map_nil, List.append_nil] at q
    exact q
  | a :: l, acc, h1, h2, hl, q => by
    rw [List.flatMap_cons, List.length_append] at hl
    refine h1 a List.mem_cons_self (fun env' ys => dIn g1 tt1 te (fun acc' => dComp2 g tt it1 g1 tt1 te vs1 P env (l.map enc) acc') (wipeE env' vs1) ys acc) _ fun env' hs => ?_
    refine dIn_map enc1 h (f a) acc (fun b hb => h2 a List.mem_cons_self env' hs b hb) (by omega) ?_
    refine comp2_map enc enc1 h f S l _ (fun b hb => h1 b (List.mem_cons_of_mem _ hb)) (fun b hb => h2 b (List.mem_cons_of_mem _ hb)) (by rw [List.length_append, List.length_map]; omega) ?_
    rw [List.append_assoc, ← List.map_append]
    rw [List.flatMap_cons] at q
    exact q
/-! ### how deep, how many -/
inductive Dp : Nat → Sc → Prop
  | mv {n : Nat} {up : Bool} {ns : List Str} : Dp n (.mv up ns)
  | pl {n : Nat} {x : Str} {r : R} : Dp n (.pl x r)
  | rp {n : Nat} {c : Int} {ss : List Sc} : (∀ s ∈ ss, Dp n s) → Dp (n + 1) (.rp c ss)
theorem Dp.up {n : Nat} {s : Sc} (h : Dp n s) : Dp (n + 1) s := by
  induction h with
  | mv => exact .mv
  | pl => exact .pl
  | rp _ ih => exact .rp ih
mutual
def Sc.sz : Sc → Nat
  | .mv _ _ => 1
  | .pl _ _ => 1
  | .rp _ ss => 1 + Sc.szs ss
def Sc.szs : List Sc → Nat
  | [] => 0
  | s :: ss => s.sz + Sc.szs ss
end
def Sc.inner : Sc → List Sc
  | .rp _ ss => ss
  | _ => []
theorem sz_pos (s : Sc) : 1 + Sc.szs s.inner = s.sz := by
  cases s <;> simp [Sc.sz, Sc.inner, Sc.szs]
theorem len_szs : ∀ ss : List Sc, ss.length ≤ Sc.szs ss
  | [] => Nat.zero_le _
  | s :: ss => by
    rw [Sc.szs, List.length_cons]
    have := len_szs ss
    have := sz_pos s
    omega
theorem szs_app : ∀ a b : List Sc, Sc.szs (a ++ b) = Sc.szs a + Sc.szs b
  | [], b => by rw [List.nil_append, Sc.szs]; omega
  | s :: a, b => by
    rw [List.cons_append, Sc.szs, Sc.szs, szs_app a b]
    omega
theorem szs_mem : ∀ {ss : List Sc} {s : Sc}, s ∈ ss → s.sz ≤ Sc.szs ss
  | [], _, h => by cases h
  | t :: ss, s, h => by
    rw [Sc.szs]
    rcases List.mem_cons.mp h with rfl | h
    · omega
    · have := szs_mem h
      omega
def nxt (ss : List Sc) : List Sc := (ss.filter Sc.isRp).flatMap Sc.inner
theorem szs_nxt : ∀ ss : List Sc, ss.length + Sc.szs (nxt ss) = Sc.szs ss
  | [] => rfl
  | s :: ss => by
    have ih := szs_nxt ss
    unfold nxt at ih ⊢
    rw [Sc.szs, List.length_cons]
    have := sz_pos s
    cases h : s.isRp with
    | true =>
      rw [List.filter_cons_of_pos h, List.flatMap_cons, szs_app]
      omega
    | false =>
      rw [List.filter_cons_of_neg (by rw [h]; exact Bool.false_ne_true)]
      have e : Sc.szs s.inner = 0 := by cases s <;> first | rfl | cases h
      omega
theorem dp_nxt {n : Nat} {ss : List Sc} (h : ∀ s ∈ ss, Dp (n + 1) s) : ∀ s ∈ nxt ss, Dp n s := fun s hs => by
  obtain ⟨r, hr, hi⟩ := List.mem_flatMap.mp hs
  have := h r (List.mem_filter.mp hr).1
  cases this with
  | mv => cases hi
  | pl => cases hi
  | rp q => exact q s hi
/-- the steps, then those of nested scripts, and so on -/
def lev : Nat → List Sc → List (List Sc)
  | 0, ss => [ss]
  | n + 1, ss => if (ss.filter Sc.isRp).isEmpty = true then [ss] else ss :: lev n (nxt ss)
theorem lev_len : ∀ (n : Nat) (ss : List Sc), (lev n ss).length ≤ n + 1
  | 0, _ => Nat.le_refl _
  | n + 1, ss => by
    rw [lev]
    split
    · simp
    · rw [List.length_cons]
      have := lev_len n (nxt ss)
      omega
theorem lev_sum : ∀ {n : Nat} {ss : List Sc}, (∀ s ∈ ss, Dp n s) → ((lev n ss).map List.length).sum = Sc.szs ss
  | 0, ss, h => by
    rw [lev, List.map_cons, List.map_nil, List.sum_cons, List.sum_nil]
    have := szs_nxt ss
    have e : nxt ss = [] := by
      unfold nxt
      rw [List.filter_eq_nil_iff.mpr fun s hs => by have := h s hs; cases this <;> exact Bool.false_ne_true]
      rfl
    rw [e, Sc.szs] at this
    omega
  | n + 1, ss, h => by
    have := szs_nxt ss
    rw [lev]
    split
    · rename_i e
      rw [List.map_cons, List.map_nil, List.sum_cons, List.sum_nil]
      have e2 : nxt ss = [] := by
        unfold nxt
        rw [List.isEmpty_iff.mp e]
        rfl
      rw [e2, Sc.szs] at this
      omega
    · rw [List.map_cons, List.sum_cons, lev_sum (dp_nxt h)]
      omega
def lvD (ss : List Sc) : D := .lst (ss.map Sc.d)
def sp_levels : DSp := fun ds P => ∃ d ss n, ds = [d] ∧ IsSs d ss ∧ (∀ s ∈ ss, Dp n s) ∧ n ≤ 1000 ∧ Sc.szs ss ≤ 100000 ∧ P (.lst ((lev n ss).map lvD))
def d_levels : TDS := (sSeq (sSetO 1 (dLst (aCons (dCa listD (aCons (dV 0) aNil)) aNil)))
  (sWhile (dT (dC (.bl true))) (sSeq (sSet 2 (dLc (iSeq (dO2 bIx (dB 1) (dNeg (dC (.int 1))))) (gNm 3) (dT (dCall sp_is_repeat (aCons (dV 3) aNil))) (dV 3) [3]))
  (sSeq (sIf (dNotT (dTru (dV 2))) (sRetO 1) sNil)
  (sApp 1 (dLc2 (iSeq (dV 2)) (gNm 3) tYesD (iSeq (dCall sp_inner_steps (aCons (dV 3) aNil))) (gNm 4) tYesD (dV 4) [3, 4] [4]))))))
theorem rd_levels {ds : List D} {P : D → Prop} (h : sp_levels ds P) : d_levels (fin true P) (st 5 ds) := by
  obtain ⟨d, ss, n, rfl, hd, dp, hn, hz, q⟩ := h
  have l1 : listD [d] = some (lvD ss) := by rcases hd with rfl | rfl <;> rfl
  simp only [d_levels, dC, dV, dB, dO2, ob_some, dT, dAndT, dOrT, dNotT, dIf, dAndV, dOrV, dNotV, dChain, aNil, aCons, dTup, dLst, dCut, oNone, oSome, dRev, dNeg, dTru, dCa, dIs, dIsA, dCall, dCallK, sNil, sSeq, sNever, sBrk, sCont, sIf, sRet, sRetO, sRetE, sSet, sSetO, sDrop, sPar, sPar3, kn, enOf, owD, sAsg, gNm, gsNil, gsCons, gTp, sApp, sIns, sExt, sClr, sRev, sPut, sFrz, owAt, fin, st, iRng, iRngB, iSeq, lstD, tupD, sFor, dLc, dDc, wipeE, tYesD, dIndex, dSort, dDictZip, dMeth, dFld, dMk, List.map_cons, List.map_nil, List.length_cons, List.length_nil, List.replicate_succ, List.replicate_zero, List.cons_append, List.nil_append, List.append_nil, List.getElem?_cons_zero, List.getElem?_cons_succ, List.set_cons_zero, List.set_cons_succ, Option.bind_some, Option.map_some, Nat.reduceSub, Nat.reduceAdd, kwP, List.getD_cons_zero, List.getD_cons_succ, l1, sWhile]
  refine ⟨by decide, ?_⟩
  refine ⟨fun m env => ∃ (pre : List (List Sc)) (cur : List Sc) (e2 e3 e4 : En), env = [.fz d, .ow ((pre ++ [cur]).map lvD), e2, e3, e4] ∧ pre ++ lev m cur = lev n ss ∧ (∀ s ∈ cur, Dp m s) ∧ Sc.szs cur ≤ 100000 ∧ pre.length + m ≤ 1000, ⟨n, [], ss, _, _, _, rfl, rfl, dp, hz, by simp; omega⟩, ?_⟩
  rintro m env ⟨pre, cur, e2, e3, e4, rfl, he, dc, hc, hp⟩
  have xl : bIx (.lst ((pre ++ [cur]).map lvD)) (.int (-1)) = some (lvD cur) := by
    show (atI ((pre ++ [cur]).map lvD) (-1)).or _ = _
    rw [List.map_append, List.map_cons, List.map_nil, atI_last]
    rfl
  simp only [dC, dV, dB, dO2, ob_some, dT, dAndT, dOrT, dNotT, dIf, dAndV, dOrV, dNotV, dChain, aNil, aCons, dTup, dLst, dCut, oNone, oSome, dRev, dNeg, dTru, dCa, dIs, dIsA, dCall, dCallK, sNil, sSeq, sNever, sBrk, sCont, sIf, sRet, sRetO, sRetE, sSet, sSetO, sDrop, sPar, sPar3, kn, enOf, owD, sAsg, gNm, gsNil, gsCons, gTp, sApp, sIns, sExt, sClr, sRev, sPut, sFrz, owAt, fin, st, iRng, iRngB, iSeq, lstD, tupD, sFor, dLc, dDc, wipeE, tYesD, dIndex, dSort, dDictZip, dMeth, dFld, dMk, List.map_cons, List.map_nil, List.length_cons, List.length_nil, List.replicate_succ, List.replicate_zero, List.cons_append, List.nil_append, List.append_nil, List.getElem?_cons_zero, List.getElem?_cons_succ, List.set_cons_zero, List.set_cons_succ, Option.bind_some, Option.map_some, Nat.reduceSub, Nat.reduceAdd, kwP, List.getD_cons_zero, List.getD_cons_succ, xl, if_true]
  have lc := len_szs cur
  refine .inl (comp_filter Sc.d Sc.d Sc.isRp cur [] (fun s hs Q Z h1 h2 => ?_) (by simp; omega) ?_)
  · simp only [dC, dV, dB, dO2, ob_some, dT, dAndT, dOrT, dNotT, dIf, dAndV, dOrV, dNotV, dChain, aNil, aCons, dTup, dLst, dCut, oNone, oSome, dRev, dNeg, dTru, dCa, dIs, dIsA, dCall, dCallK, sNil, sSeq, sNever, sBrk, sCont, sIf, sRet, sRetO, sRetE, sSet, sSetO, sDrop, sPar, sPar3, kn, enOf, owD, sAsg, gNm, gsNil, gsCons, gTp, sApp, sIns, sExt, sClr, sRev, sPut, sFrz, owAt, fin, st, iRng, iRngB, iSeq, lstD, tupD, sFor, dLc, dDc, wipeE, tYesD, dIndex, dSort, dDictZip, dMeth, dFld, dMk, List.map_cons, List.map_nil, List.length_cons, List.length_nil, List.replicate_succ, List.replicate_zero, List.cons_append, List.nil_append, List.append_nil, List.getElem?_cons_zero, List.getElem?_cons_succ, List.set_cons_zero, List.set_cons_succ, Option.bind_some, Option.map_some, Nat.reduceSub, Nat.reduceAdd, kwP, List.getD_cons_zero, List.getD_cons_succ]
    refine ⟨s, rfl, ?_⟩
    cases hr : s.isRp with
    | true => exact h1 hr
    | false => exact h2 hr
  · rw [List.nil_append]
    cases hf : cur.filter Sc.isRp with
    | nil =>
      have t0 : truD (.lst (([] : List Sc).map Sc.d)) = some false := rfl
      simp only [t0, ob_some, Bool.not_false, if_true]
      have e : lev m cur = [cur] := by
        cases m with
        | zero => rfl
        | succ m => rw [lev, hf]; rfl
      rw [e] at he
      rw [he]
      exact q
    | cons r rs =>
      have t1 : truD (.lst ((r :: rs).map Sc.d)) = some true := rfl
      simp only [t1, ob_some, Bool.not_true, Bool.false_eq_true, if_false]
      have hr : r ∈ cur ∧ r.isRp = true := List.mem_filter.mp (by rw [hf]; exact List.mem_cons_self)
      obtain ⟨m, rfl⟩ : ∃ k, m = k + 1 := by
        cases m with
        | succ k => exact ⟨k, rfl⟩
        | zero =>
          have := dc r hr.1
          cases this with
          | mv => cases hr.2
          | pl => cases hr.2
      have el : lev (m + 1) cur = cur :: lev m (nxt cur) := by rw [lev, hf]; rfl
      have sn := szs_nxt cur
      refine .inl ?_
      rw [← hf]
      refine comp2_map Sc.d Sc.d Sc.d Sc.inner (fun s env' => env' = [.fz d, .ow ((pre ++ [cur]).map lvD), .fz (.lst ((cur.filter Sc.isRp).map Sc.d)), .fz s.d, .no]) (cur.filter Sc.isRp) [] (fun s hs K Z hK => ?_) (fun s hs env' he' t ht Q Z hQ => ?_) ?_ ?_
      · obtain ⟨hs1, hs2⟩ := List.mem_filter.mp hs
        have si := szs_mem hs1
        cases s with
        | rp c ts =>
          have li := len_szs ts
          rw [Sc.sz] at si
          simp only [dC, dV, dB, dO2, ob_some, dT, dAndT, dOrT, dNotT, dIf, dAndV, dOrV, dNotV, dChain, aNil, aCons, dTup, dLst, dCut, oNone, oSome, dRev, dNeg, dTru, dCa, dIs, dIsA, dCall, dCallK, sNil, sSeq, sNever, sBrk, sCont, sIf, sRet, sRetO, sRetE, sSet, sSetO, sDrop, sPar, sPar3, kn, enOf, owD, sAsg, gNm, gsNil, gsCons, gTp, sApp, sIns, sExt, sClr, sRev, sPut, sFrz, owAt, fin, st, iRng, iRngB, iSeq, lstD, tupD, sFor, dLc, dDc, wipeE, tYesD, dIndex, dSort, dDictZip, dMeth, dFld, dMk, List.map_cons, List.map_nil, List.length_cons, List.length_nil, List.replicate_succ, List.replicate_zero, List.cons_append, List.nil_append, List.append_nil, List.getElem?_cons_zero, List.getElem?_cons_succ, List.set_cons_zero, List.set_cons_succ, Option.bind_some, Option.map_some, Nat.reduceSub, Nat.reduceAdd, kwP, List.getD_cons_zero, List.getD_cons_succ, wipeE, if_true]
          refine .inl ⟨c, ts, rfl, by omega, ?_⟩
          exact hK _ rfl
        | _ => cases hs2
      · subst he'
        simp only [dC, dV, dB, dO2, ob_some, dT, dAndT, dOrT, dNotT, dIf, dAndV, dOrV, dNotV, dChain, aNil, aCons, dTup, dLst, dCut, oNone, oSome, dRev, dNeg, dTru, dCa, dIs, dIsA, dCall, dCallK, sNil, sSeq, sNever, sBrk, sCont, sIf, sRet, sRetO, sRetE, sSet, sSetO, sDrop, sPar, sPar3, kn, enOf, owD, sAsg, gNm, gsNil, gsCons, gTp, sApp, sIns, sExt, sClr, sRev, sPut, sFrz, owAt, fin, st, iRng, iRngB, iSeq, lstD, tupD, sFor, dLc, dDc, wipeE, tYesD, dIndex, dSort, dDictZip, dMeth, dFld, dMk, List.map_cons, List.map_nil, List.length_cons, List.length_nil, List.replicate_succ, List.replicate_zero, List.cons_append, List.nil_append, List.append_nil, List.getElem?_cons_zero, List.getElem?_cons_succ, List.set_cons_zero, List.set_cons_succ, Option.bind_some, Option.map_some, Nat.reduceSub, Nat.reduceAdd, kwP, List.getD_cons_zero, List.getD_cons_succ, wipeE, if_true]
        exact hQ
      · have := len_szs (nxt cur)
        unfold nxt at this sn
        simp only [List.length_nil]
        omega
      · rw [List.nil_append]
        refine ⟨by rw [List.length_map, List.length_append]; exact szM (by simp; omega), m, by omega, pre ++ [cur], nxt cur, .fz (.lst ((cur.filter Sc.isRp).map Sc.d)), e3, e4, ?_, ?_, dp_nxt dc, by omega, by simp; omega⟩
        · rw [List.map_append (l₂ := [nxt cur])]
          rfl
        · rw [el] at he
          rw [List.append_assoc]
          exact he
theorem ln_levels {ds : List D} {P : D → Prop} (h : sp_levels ds P) : ds.length = 1 := by obtain ⟨_, _, _, rfl, _⟩ := h; rfl
end DL

namespace DL
open PySem PySem.Spec PyProof.Rows L2 RK
def sp_script_size : DSp := fun ds P => ∃ d ss n, ds = [d] ∧ IsSs d ss ∧ (∀ s ∈ ss, Dp n s) ∧ n ≤ 1000 ∧ Sc.szs ss ≤ 100000 ∧ P (.int (Sc.szs ss))
def d_script_size : TDS := (sRet (dCa sumD (aCons (dLc (iSeq (dCall sp_levels (aCons (dV 0) aNil))) (gNm 1) tYesD (dCa lenD (aCons (dV 1) aNil)) [1]) aNil)))
theorem lev_mem : ∀ {n : Nat} {ss l : List Sc}, l ∈ lev n ss → l.length ≤ Sc.szs ss
  | 0, ss, l, h => by
    rw [lev, List.mem_singleton] at h
    rw [h]
    exact len_szs ss
  | n + 1, ss, l, h => by
    rw [lev] at h
    split at h
    · rw [List.mem_singleton] at h
      rw [h]
      exact len_szs ss
    · rcases List.mem_cons.mp h with rfl | h
      · exact len_szs _
      · have h1 := lev_mem h
        have h2 := szs_nxt ss
        omega
theorem rd_script_size {ds : List D} {P : D → Prop} (h : sp_script_size ds P) : d_script_size (fin false P) (st 2 ds) := by
  obtain ⟨d, ss, n, rfl, hd, dp, hn, hz, q⟩ := h
  simp only [d_script_size, dC, dV, dB, dO2, ob_some, dT, dAndT, dOrT, dNotT, dIf, dAndV, dOrV, dNotV, dChain, aNil, aCons, dTup, dLst, dCut, oNone, oSome, dRev, dNeg, dTru, dCa, dIs, dIsA, dCall, dCallK, sNil, sSeq, sNever, sBrk, sCont, sIf, sRet, sRetO, sRetE, sSet, sSetO, sDrop, sPar, sPar3, kn, enOf, owD, sAsg, gNm, gsNil, gsCons, gTp, sApp, sIns, sExt, sClr, sRev, sPut, sFrz, owAt, fin, st, iRng, iRngB, iSeq, lstD, tupD, sFor, dLc, dDc, wipeE, tYesD, dIndex, dSort, dDictZip, dMeth, dFld, dMk, List.map_cons, List.map_nil, List.length_cons, List.length_nil, List.replicate_succ, List.replicate_zero, List.cons_append, List.nil_append, List.append_nil, List.getElem?_cons_zero, List.getElem?_cons_succ, List.set_cons_zero, List.set_cons_succ, Option.bind_some, Option.map_some, Nat.reduceSub, Nat.reduceAdd, kwP, List.getD_cons_zero, List.getD_cons_succ]
  refine .inl ⟨d, ss, n, rfl, hd, dp, hn, hz, ?_⟩
  simp only [lstD, ob_some]
  refine comp_map lvD (fun l : List Sc => D.int (l.length : Nat)) (lev n ss) [] (fun l hl Q Z hQ => ?_) (by have := lev_len n ss; simp; omega) ?_
  · have e : lenD [lvD l] = some (.int (l.length : Nat)) := by
      show some (D.int ((l.map Sc.d).length : Nat)) = _
      rw [List.length_map]
    simp only [dC, dV, dB, dO2, ob_some, dT, dAndT, dOrT, dNotT, dIf, dAndV, dOrV, dNotV, dChain, aNil, aCons, dTup, dLst, dCut, oNone, oSome, dRev, dNeg, dTru, dCa, dIs, dIsA, dCall, dCallK, sNil, sSeq, sNever, sBrk, sCont, sIf, sRet, sRetO, sRetE, sSet, sSetO, sDrop, sPar, sPar3, kn, enOf, owD, sAsg, gNm, gsNil, gsCons, gTp, sApp, sIns, sExt, sClr, sRev, sPut, sFrz, owAt, fin, st, iRng, iRngB, iSeq, lstD, tupD, sFor, dLc, dDc, wipeE, tYesD, dIndex, dSort, dDictZip, dMeth, dFld, dMk, List.map_cons, List.map_nil, List.length_cons, List.length_nil, List.replicate_succ, List.replicate_zero, List.cons_append, List.nil_append, List.append_nil, List.getElem?_cons_zero, List.getElem?_cons_succ, List.set_cons_zero, List.set_cons_succ, Option.bind_some, Option.map_some, Nat.reduceSub, Nat.reduceAdd, kwP, List.getD_cons_zero, List.getD_cons_succ, e, if_true]
    exact hQ
  · rw [List.nil_append]
    have e : ((lev n ss).map fun l : List Sc => D.int (l.length : Nat)) = ((lev n ss).map fun l => ((l.length : Nat) : Int)).map D.int := by rw [List.map_map]; rfl
    rw [e, sumD_map]
    have e2 : ((lev n ss).map fun l => ((l.length : Nat) : Int)).sum = ((Sc.szs ss : Nat) : Int) := by
      rw [← lev_sum dp]
      generalize lev n ss = ls
      induction ls with
      | nil => rfl
      | cons l ls ih =>
        rw [List.map_cons, List.sum_cons, List.map_cons, List.sum_cons, ih]
        push_cast
        rfl
    rw [e2]
    exact q
theorem ln_script_size {ds : List D} {P : D → Prop} (h : sp_script_size ds P) : ds.length = 1 := by obtain ⟨_, _, _, rfl, _⟩ := h; rfl
def sp_check_length : DSp := fun ds P => ∃ d ss, ds = [d] ∧ IsSs d ss ∧ (∀ s ∈ ss, Dp 5 s) ∧ Sc.szs ss ≤ 400 ∧ P .non
def d_check_length : TDS := (sIf (dOrT (dT (dO2 bGt (dCall sp_script_size (aCons (dV 0) aNil)) (dC (.int 400)))) (dT (dO2 bGt (dCa lenD (aCons (dCall sp_levels (aCons (dV 0) aNil)) aNil)) (dC (.int 6))))) sNever sNil)
theorem bGt_n {a b : Nat} (h : a ≤ b) : bGt (.int (a : Int)) (.int (b : Int)) = some (.bl false) := by
  show some (D.bl (decide _)) = _
  rw [decide_eq_false (by omega)]
theorem rd_check_length {ds : List D} {P : D → Prop} (h : sp_check_length ds P) : d_check_length (fin false P) (st 1 ds) := by
  obtain ⟨d, ss, rfl, hd, dp, hz, q⟩ := h
  simp only [d_check_length, dC, dV, dB, dO2, ob_some, dT, dAndT, dOrT, dNotT, dIf, dAndV, dOrV, dNotV, dChain, aNil, aCons, dTup, dLst, dCut, oNone, oSome, dRev, dNeg, dTru, dCa, dIs, dIsA, dCall, dCallK, sNil, sSeq, sNever, sBrk, sCont, sIf, sRet, sRetO, sRetE, sSet, sSetO, sDrop, sPar, sPar3, kn, enOf, owD, sAsg, gNm, gsNil, gsCons, gTp, sApp, sIns, sExt, sClr, sRev, sPut, sFrz, owAt, fin, st, iRng, iRngB, iSeq, lstD, tupD, sFor, dLc, dDc, wipeE, tYesD, dIndex, dSort, dDictZip, dMeth, dFld, dMk, List.map_cons, List.map_nil, List.length_cons, List.length_nil, List.replicate_succ, List.replicate_zero, List.cons_append, List.nil_append, List.append_nil, List.getElem?_cons_zero, List.getElem?_cons_succ, List.set_cons_zero, List.set_cons_succ, Option.bind_some, Option.map_some, Nat.reduceSub, Nat.reduceAdd, kwP, List.getD_cons_zero, List.getD_cons_succ]
  refine ⟨d, ss, 5, rfl, hd, dp, by decide, by omega, ?_⟩
  have g1 := bGt_n (a := Sc.szs ss) (b := 400) hz
  have g1' : bGt (.int (Sc.szs ss : Nat)) (.int 400) = some (.bl false) := g1
  simp only [g1', ob_some, Bool.false_eq_true, if_false]
  refine ⟨d, ss, 5, rfl, hd, dp, by decide, by omega, ?_⟩
  have e : lenD [.lst ((lev 5 ss).map lvD)] = some (.int ((lev 5 ss).length : Nat)) := by
    show some (D.int (((lev 5 ss).map lvD).length : Nat)) = _
    rw [List.length_map]
  have g2 : bGt (.int ((lev 5 ss).length : Nat)) (.int 6) = some (.bl false) := bGt_n (b := 6) (lev_len 5 ss)
  simp only [e, g2, ob_some, Bool.false_eq_true, if_false]
  exact ⟨trivial, q⟩
theorem ln_check_length {ds : List D} {P : D → Prop} (h : sp_check_length ds P) : ds.length = 1 := by obtain ⟨_, _, rfl, _⟩ := h; rfl
def sp_refuse_first_wrong : DSp := fun ds P => ∃ n : Nat, ds = [.lst (List.replicate n (.bl true))] ∧ P .non
def d_refuse_first_wrong : TDS := (sIf (dT (dO2 (bIn false) (dC (.bl false)) (dV 0))) sNever sNil)
theorem in_true (n : Nat) : bIn false (.bl false) (.lst (List.replicate n (.bl true))) = some (.bl false) := by
  show ((if D.leaf (.bl false) = true ∧ (List.replicate n (D.bl true)).all D.leaf = true then some (D.bl (false ^^ (List.replicate n (D.bl true)).any fun y => eqF y (.bl false))) else none)).or _ = _
  rw [if_pos ⟨rfl, by rw [List.all_eq_true]; intro x hx; rw [(List.mem_replicate.mp hx).2]; rfl⟩]
  have : ((List.replicate n (D.bl true)).any fun y => eqF y (.bl false)) = false := by
    rw [List.any_eq_false]
    intro x hx
    rw [(List.mem_replicate.mp hx).2]
    exact Bool.false_ne_true
  rw [this]
  rfl
theorem rd_refuse_first_wrong {ds : List D} {P : D → Prop} (h : sp_refuse_first_wrong ds P) : d_refuse_first_wrong (fin false P) (st 1 ds) := by
  obtain ⟨n, rfl, q⟩ := h
  simp only [d_refuse_first_wrong, dC, dV, dB, dO2, ob_some, dT, dAndT, dOrT, dNotT, dIf, dAndV, dOrV, dNotV, dChain, aNil, aCons, dTup, dLst, dCut, oNone, oSome, dRev, dNeg, dTru, dCa, dIs, dIsA, dCall, dCallK, sNil, sSeq, sNever, sBrk, sCont, sIf, sRet, sRetO, sRetE, sSet, sSetO, sDrop, sPar, sPar3, kn, enOf, owD, sAsg, gNm, gsNil, gsCons, gTp, sApp, sIns, sExt, sClr, sRev, sPut, sFrz, owAt, fin, st, iRng, iRngB, iSeq, lstD, tupD, sFor, dLc, dDc, wipeE, tYesD, dIndex, dSort, dDictZip, dMeth, dFld, dMk, List.map_cons, List.map_nil, List.length_cons, List.length_nil, List.replicate_succ, List.replicate_zero, List.cons_append, List.nil_append, List.append_nil, List.getElem?_cons_zero, List.getElem?_cons_succ, List.set_cons_zero, List.set_cons_succ, Option.bind_some, Option.map_some, Nat.reduceSub, Nat.reduceAdd, kwP, List.getD_cons_zero, List.getD_cons_succ, in_true, Bool.false_eq_true, if_false]
  exact ⟨trivial, q⟩
theorem ln_refuse_first_wrong {ds : List D} {P : D → Prop} (h : sp_refuse_first_wrong ds P) : ds.length = 1 := by obtain ⟨_, rfl, _⟩ := h; rfl
/-! ### right steps -/
def RtM (nm ns : List Str) : Prop := ns ≠ [] ∧ ns.Nodup ∧ (∀ n ∈ ns, n ∈ nm) ∧ ns.length ≤ 1000
def sp_are_windows (C : Addr) : DSp := fun ds P => ∃ us ns, ds = [deskD C us, .lst (ns.map D.str)] ∧ RtM (nms us) ns ∧ P (.bl true)
def d_are_windows (C_Desk : Addr) : TDS := (sSeq (sIf (dOrT (dNotT (dT (dCall sp_is_list (aCons (dV 1) aNil)))) (dT (dO2 (bEqN false) (dCa lenD (aCons (dV 1) aNil)) (dC (.int 0))))) (sRet (dC (.bl false))) sNil)
  (sSeq (sSet 2 (dMeth C_Desk "names" (sp_Desk_names C_Desk) (dV 0) aNil))
  (sRet (dAndV (dCa allD (aCons (dLc (iSeq (dV 1)) (gNm 3) tYesD (dO2 (bIn false) (dV 3) (dV 2)) [3]) aNil)) (dO2 (bEqN false) (dLenSet (dV 1)) (dCa lenD (aCons (dV 1) aNil)))))))
theorem keys_strs : ∀ zs : List Str, keysD (zs.map D.str) = some (zs.map Sum.inr)
  | [] => rfl
  | z :: zs => by
    show (some (Sum.inr z : Key)).bind _ = _
    rw [Option.bind_some, keys_strs zs]
    rfl
theorem nd_inr {zs : List Str} (h : zs.Nodup) : (zs.map (Sum.inr : Str → Key)).Nodup := by
  rw [List.nodup_iff_pairwise_ne, List.pairwise_map]
  exact (List.nodup_iff_pairwise_ne.mp h).imp fun h e => h (Sum.inr.inj e)
theorem rd_are_windows {C : Addr} {ds : List D} {P : D → Prop} (h : sp_are_windows C ds P) : d_are_windows C (fin false P) (st 4 ds) := by
  obtain ⟨us, ns, rfl, ⟨ne, nd, sub, hl⟩, q⟩ := h
  have hn : (("names" : Str) == ("windows" : Str)) = false := by decide +kernel
  have l1 : lenD [.lst (ns.map D.str)] = some (.int ns.length) := len_strs (.inl rfl)
  have e1 : bEqN false (.int ns.length) (.int 0) = some (.bl false) := by
    rw [bEq_i, decide_eq_false]
    cases ns with
    | nil => exact (ne rfl).elim
    | cons _ _ => simp; omega
  have i1 : itemsD (.lst (ns.map D.str)) = some (ns.map D.str) := rfl
  have e2 : bEqN false (.int (ns.length : Nat)) (.int (ns.length : Nat)) = some (.bl true) := by rw [bEq_i, decide_eq_true rfl]
  simp only [d_are_windows, dC, dV, dB, dO2, ob_some, dT, dAndT, dOrT, dNotT, dIf, dAndV, dOrV, dNotV, dChain, aNil, aCons, dTup, dLst, dCut, oNone, oSome, dRev, dNeg, dTru, dCa, dIs, dIsA, dCall, dCallK, sNil, sSeq, sNever, sBrk, sCont, sIf, sRet, sRetO, sRetE, sSet, sSetO, sDrop, sPar, sPar3, kn, enOf, owD, sAsg, gNm, gsNil, gsCons, gTp, sApp, sIns, sExt, sClr, sRev, sPut, sFrz, owAt, fin, st, iRng, iRngB, iSeq, lstD, tupD, sFor, dLc, dDc, wipeE, tYesD, dIndex, dSort, dDictZip, dMeth, dFld, dMk, List.map_cons, List.map_nil, List.length_cons, List.length_nil, List.replicate_succ, List.replicate_zero, List.cons_append, List.nil_append, List.append_nil, List.getElem?_cons_zero, List.getElem?_cons_succ, List.set_cons_zero, List.set_cons_succ, Option.bind_some, Option.map_some, Nat.reduceSub, Nat.reduceAdd, kwP, List.getD_cons_zero, List.getD_cons_succ]
  refine ⟨_, rfl, .inl ⟨_, rfl⟩, ?_⟩
  simp only [l1, e1, ob_some, Bool.not_true, Bool.false_eq_true, if_false, deskD, no_m hn]
  refine ⟨trivial, trivial, us, rfl, .inl ?_⟩
  refine comp_map D.str (fun _ => D.bl true) ns [] (fun z hz Q Z hQ => ?_) (by simp; omega) ?_
  · simp only [dC, dV, dB, dO2, ob_some, dT, dAndT, dOrT, dNotT, dIf, dAndV, dOrV, dNotV, dChain, aNil, aCons, dTup, dLst, dCut, oNone, oSome, dRev, dNeg, dTru, dCa, dIs, dIsA, dCall, dCallK, sNil, sSeq, sNever, sBrk, sCont, sIf, sRet, sRetO, sRetE, sSet, sSetO, sDrop, sPar, sPar3, kn, enOf, owD, sAsg, gNm, gsNil, gsCons, gTp, sApp, sIns, sExt, sClr, sRev, sPut, sFrz, owAt, fin, st, iRng, iRngB, iSeq, lstD, tupD, sFor, dLc, dDc, wipeE, tYesD, dIndex, dSort, dDictZip, dMeth, dFld, dMk, List.map_cons, List.map_nil, List.length_cons, List.length_nil, List.replicate_succ, List.replicate_zero, List.cons_append, List.nil_append, List.append_nil, List.getElem?_cons_zero, List.getElem?_cons_succ, List.set_cons_zero, List.set_cons_succ, Option.bind_some, Option.map_some, Nat.reduceSub, Nat.reduceAdd, kwP, List.getD_cons_zero, List.getD_cons_succ, bIn_strs (.inl rfl : IsSeq (.lst ((nms us).map D.str)) (nms us)), decide_eq_true (sub z hz), Bool.false_xor, if_true]
    exact hQ
  · rw [List.nil_append, allD_f]
    have : (ns.all fun _ => true) = true := by simp
    rw [this]
    have ec : cntL (ns.map (Sum.inr : Str → Key)) = ns.length := by
      rw [cntL_iff.mpr (nd_inr nd), List.length_map]
    simp only [ob_some, if_true, dLenSet, dC, dV, dB, dO2, ob_some, dT, dAndT, dOrT, dNotT, dIf, dAndV, dOrV, dNotV, dChain, aNil, aCons, dTup, dLst, dCut, oNone, oSome, dRev, dNeg, dTru, dCa, dIs, dIsA, dCall, dCallK, sNil, sSeq, sNever, sBrk, sCont, sIf, sRet, sRetO, sRetE, sSet, sSetO, sDrop, sPar, sPar3, kn, enOf, owD, sAsg, gNm, gsNil, gsCons, gTp, sApp, sIns, sExt, sClr, sRev, sPut, sFrz, owAt, fin, st, iRng, iRngB, iSeq, lstD, tupD, sFor, dLc, dDc, wipeE, tYesD, dIndex, dSort, dDictZip, dMeth, dFld, dMk, List.map_cons, List.map_nil, List.length_cons, List.length_nil, List.replicate_succ, List.replicate_zero, List.cons_append, List.nil_append, List.append_nil, List.getElem?_cons_zero, List.getElem?_cons_succ, List.set_cons_zero, List.set_cons_succ, Option.bind_some, Option.map_some, Nat.reduceSub, Nat.reduceAdd, kwP, List.getD_cons_zero, List.getD_cons_succ, i1, keys_strs, ec, l1, e2]
    exact ⟨by rw [List.length_map]; exact hl, q⟩
theorem ln_are_windows {C : Addr} {ds : List D} {P : D → Prop} (h : sp_are_windows C ds P) : ds.length = 2 := by obtain ⟨_, _, rfl, _⟩ := h; rfl
inductive Rt (nm : List Str) : Sc → Prop
  | mv {up : Bool} {ns : List Str} : RtM nm ns → Rt nm (.mv up ns)
  | pl {n : Str} {r : R} : n ∈ nm → r.good → Rt nm (.pl n r)
  | rp {c : Int} {ss : List Sc} : 0 ≤ c → c ≤ 1000000000000000000 → ss.length ≤ 100000 → (∀ s ∈ ss, Rt nm s) → Rt nm (.rp c ss)
def sp_is_plain_step (C : Addr) : DSp := fun ds P => ∃ us s, ds = [deskD C us, s.d] ∧ s.isRp = false ∧ Rt (nms us) s ∧ P (.bl true)
def d_is_plain_step (C_Desk : Addr) : TDS := (sSeq (sIf (dT (dCall sp_begins_with (aCons (dV 1) (aCons (dC (.ktp [.str "raise", .str "lower"])) aNil)))) (sRet (dAndV (dO2 (bEqN false) (dCa lenD (aCons (dV 1) aNil)) (dC (.int 2))) (dCall (sp_are_windows C_Desk) (aCons (dV 0) (aCons (dO2 bIx (dV 1) (dC (.int 1))) aNil))))) sNil)
  (sSeq (sIf (dT (dCall sp_begins_with (aCons (dV 1) (aCons (dTup (aCons (dC (.str "place")) aNil)) aNil)))) (sRet (dAndV (dO2 (bEqN false) (dCa lenD (aCons (dV 1) aNil)) (dC (.int 3))) (dAndV (dO2 (bIn false) (dO2 bIx (dV 1) (dC (.int 1))) (dMeth C_Desk "names" (sp_Desk_names C_Desk) (dV 0) aNil)) (dCall sp_is_rectangle (aCons (dO2 bIx (dV 1) (dC (.int 2))) aNil))))) sNil)
  (sRet (dC (.bl false)))))
theorem rd_is_plain_step {C : Addr} {ds : List D} {P : D → Prop} (h : sp_is_plain_step C ds P) : d_is_plain_step C (fin false P) (st 2 ds) := by
  obtain ⟨us, s, rfl, hp, rt, q⟩ := h
  have hn : (("names" : Str) == ("windows" : Str)) = false := by decide +kernel
  simp only [d_is_plain_step, dC, dV, dB, dO2, ob_some, dT, dAndT, dOrT, dNotT, dIf, dAndV, dOrV, dNotV, dChain, aNil, aCons, dTup, dLst, dCut, oNone, oSome, dRev, dNeg, dTru, dCa, dIs, dIsA, dCall, dCallK, sNil, sSeq, sNever, sBrk, sCont, sIf, sRet, sRetO, sRetE, sSet, sSetO, sDrop, sPar, sPar3, kn, enOf, owD, sAsg, gNm, gsNil, gsCons, gTp, sApp, sIns, sExt, sClr, sRev, sPut, sFrz, owAt, fin, st, iRng, iRngB, iSeq, lstD, tupD, sFor, dLc, dDc, wipeE, tYesD, dIndex, dSort, dDictZip, dMeth, dFld, dMk, List.map_cons, List.map_nil, List.length_cons, List.length_nil, List.replicate_succ, List.replicate_zero, List.cons_append, List.nil_append, List.append_nil, List.getElem?_cons_zero, List.getElem?_cons_succ, List.set_cons_zero, List.set_cons_succ, Option.bind_some, Option.map_some, Nat.reduceSub, Nat.reduceAdd, kwP, List.getD_cons_zero, List.getD_cons_succ]
  refine ⟨s, _, ["raise", "lower"], rfl, .inr rfl, ?_⟩
  have em : decide (s.word ∈ (["raise", "lower"] : List Str)) = s.isMv := by
    rw [← word_mv, ← Bool.decide_or]
    exact decide_eq_decide.mpr (by simp)
  rw [em]
  cases rt with
  | mv rm =>
    rename_i up ns
    have ed : (Sc.mv up ns).d = .tup [.str (Sc.mv up ns).word, .lst (ns.map D.str)] := by cases up <;> rfl
    have l1 : lenD [.tup [.str (Sc.mv up ns).word, .lst (ns.map D.str)]] = some (.int 2) := rfl
    have e1 : bEqN false (.int 2) (.int 2) = some (.bl true) := rfl
    have x1 : bIx (.tup [.str (Sc.mv up ns).word, .lst (ns.map D.str)]) (.int 1) = some (.lst (ns.map D.str)) := bIx_tp (j := 1) rfl
    simp only [Sc.isMv, if_true, ed, l1, e1, x1, ob_some]
    exact ⟨us, ns, rfl, rm, q⟩
  | pl hm hg =>
    rename_i n r
    simp only [Sc.isMv, Bool.false_eq_true, if_false]
    refine ⟨by decide, .pl n r, _, ["place"], rfl, .inl rfl, ?_⟩
    have ep : decide ((Sc.pl n r).word ∈ (["place"] : List Str)) = true := decide_eq_true (List.mem_singleton.mpr rfl)
    have ed : (Sc.pl n r).d = .tup [.str "place", .str n, rectD r] := rfl
    have l1 : lenD [.tup [.str "place", .str n, rectD r]] = some (.int 3) := rfl
    have e1 : bEqN false (.int 3) (.int 3) = some (.bl true) := rfl
    have x1 : bIx (.tup [.str "place", .str n, rectD r]) (.int 1) = some (.str n) := bIx_tp (j := 1) rfl
    have x2 : bIx (.tup [.str "place", .str n, rectD r]) (.int 2) = some (rectD r) := bIx_tp (j := 2) rfl
    rw [ep]
    simp only [if_true, ed, l1, e1, x1, x2, ob_some, deskD, no_m hn]
    refine ⟨trivial, trivial, us, rfl, ?_⟩
    simp only [bIn_strs (.inl rfl : IsSeq (.lst ((nms us).map D.str)) (nms us)), decide_eq_true hm, Bool.false_xor, ob_some, if_true]
    refine ⟨r, rfl, ?_⟩
    rw [decide_eq_true hg]
    exact q
  | rp _ _ _ _ => cases hp
theorem ln_is_plain_step {C : Addr} {ds : List D} {P : D → Prop} (h : sp_is_plain_step C ds P) : ds.length = 2 := by obtain ⟨_, _, rfl, _⟩ := h; rfl
end DL

namespace DL
open PySem PySem.Spec PyProof.Rows L2 RK
def sp_is_step (C : Addr) (n : Nat) : DSp := fun ds P => ∃ us s, ds = [deskD C us, s.d] ∧ Rt (nms us) s ∧ Dp n s ∧ P (.bl true)
def sp_is_right_repeat (C : Addr) : Nat → DSp
  | 0 => fun _ _ => False
  | n + 1 => fun ds P => ∃ us c ss, ds = [deskD C us, (Sc.rp c ss).d] ∧ 0 ≤ c ∧ c ≤ 1000000000000000000 ∧ ss.length ≤ 100000 ∧ (∀ s ∈ ss, Rt (nms us) s ∧ Dp n s) ∧ P (.bl true)
def d_is_step (C_Desk : Addr) (sp_is_right_repeat : DSp) : TDS := (sRet (dIf (dT (dCall sp_is_repeat (aCons (dV 1) aNil))) (dCall sp_is_right_repeat (aCons (dV 0) (aCons (dV 1) aNil))) (dCall (sp_is_plain_step C_Desk) (aCons (dV 0) (aCons (dV 1) aNil)))))
def d_is_right_repeat (C_Desk : Addr) (sp_is_step : DSp) : TDS := (sSeq (sIf (dOrT (dNotT (dT (dCall sp_has_nested_script (aCons (dV 1) aNil)))) (dNotT (dT (dIs "int" (dO2 bIx (dV 1) (dC (.int 1))))))) (sRet (dC (.bl false))) sNil)
  (sRet (dAndV (dChain bLe bLe (dC (.int 0)) (dO2 bIx (dV 1) (dC (.int 1))) (dC (.int 1000000000000000000))) (dCa allD (aCons (dLc (iSeq (dO2 bIx (dV 1) (dC (.int 2)))) (gNm 2) tYesD (dCall sp_is_step (aCons (dV 0) (aCons (dV 2) aNil))) [2]) aNil)))))
theorem rd_is_step {C : Addr} {n : Nat} {ds : List D} {P : D → Prop} (h : sp_is_step C n ds P) : d_is_step C (sp_is_right_repeat C n) (fin false P) (st 2 ds) := by
  obtain ⟨us, s, rfl, rt, dp, q⟩ := h
  simp only [d_is_step, dC, dV, dB, dO2, ob_some, dT, dAndT, dOrT, dNotT, dIf, dAndV, dOrV, dNotV, dChain, aNil, aCons, dTup, dLst, dCut, oNone, oSome, dRev, dNeg, dTru, dCa, dIs, dIsA, dCall, dCallK, sNil, sSeq, sNever, sBrk, sCont, sIf, sRet, sRetO, sRetE, sSet, sSetO, sDrop, sPar, sPar3, kn, enOf, owD, sAsg, gNm, gsNil, gsCons, gTp, sApp, sIns, sExt, sClr, sRev, sPut, sFrz, owAt, fin, st, iRng, iRngB, iSeq, lstD, tupD, sFor, dLc, dDc, wipeE, tYesD, dIndex, dSort, dDictZip, dMeth, dFld, dMk, List.map_cons, List.map_nil, List.length_cons, List.length_nil, List.replicate_succ, List.replicate_zero, List.cons_append, List.nil_append, List.append_nil, List.getElem?_cons_zero, List.getElem?_cons_succ, List.set_cons_zero, List.set_cons_succ, Option.bind_some, Option.map_some, Nat.reduceSub, Nat.reduceAdd, kwP, List.getD_cons_zero, List.getD_cons_succ]
  refine ⟨s, rfl, ?_⟩
  cases hr : s.isRp with
  | false =>
    simp only [Bool.false_eq_true, if_false]
    exact ⟨us, s, rfl, hr, rt, q⟩
  | true =>
    simp only [if_true]
    cases dp with
    | mv => cases hr
    | pl => cases hr
    | rp di =>
      cases rt with
      | rp h1 h2 h3 h4 => exact ⟨us, _, _, rfl, h1, h2, h3, fun t ht => ⟨h4 t ht, di t ht⟩, q⟩
theorem rd_is_right_repeat {C : Addr} {n : Nat} {ds : List D} {P : D → Prop} (h : sp_is_right_repeat C (n + 1) ds P) : d_is_right_repeat C (sp_is_step C n) (fin false P) (st 3 ds) := by
  obtain ⟨us, c, ss, rfl, h1, h2, h3, h4, q⟩ := h
  simp only [d_is_right_repeat, dC, dV, dB, dO2, ob_some, dT, dAndT, dOrT, dNotT, dIf, dAndV, dOrV, dNotV, dChain, aNil, aCons, dTup, dLst, dCut, oNone, oSome, dRev, dNeg, dTru, dCa, dIs, dIsA, dCall, dCallK, sNil, sSeq, sNever, sBrk, sCont, sIf, sRet, sRetO, sRetE, sSet, sSetO, sDrop, sPar, sPar3, kn, enOf, owD, sAsg, gNm, gsNil, gsCons, gTp, sApp, sIns, sExt, sClr, sRev, sPut, sFrz, owAt, fin, st, iRng, iRngB, iSeq, lstD, tupD, sFor, dLc, dDc, wipeE, tYesD, dIndex, dSort, dDictZip, dMeth, dFld, dMk, List.map_cons, List.map_nil, List.length_cons, List.length_nil, List.replicate_succ, List.replicate_zero, List.cons_append, List.nil_append, List.append_nil, List.getElem?_cons_zero, List.getElem?_cons_succ, List.set_cons_zero, List.set_cons_succ, Option.bind_some, Option.map_some, Nat.reduceSub, Nat.reduceAdd, kwP, List.getD_cons_zero, List.getD_cons_succ]
  refine ⟨c, ss, rfl, h3, ?_⟩
  rw [Sc.d, ds_map]
  have x1 : bIx (.tup [.str "repeat", .int c, .lst (ss.map Sc.d)]) (.int 1) = some (.int c) := bIx_tp (j := 1) rfl
  have x2 : bIx (.tup [.str "repeat", .int c, .lst (ss.map Sc.d)]) (.int 2) = some (.lst (ss.map Sc.d)) := bIx_tp (j := 2) rfl
  have t1 : isD "int" (.int c) = some true := (by decide +kernel : kitB "int" "int" = some true)
  have b1 : bLe (.int 0) (.int c) = some (.bl true) := by show some (D.bl (decide _)) = _; rw [decide_eq_true h1]
  have b2 : bLe (.int c) (.int 1000000000000000000) = some (.bl true) := by show some (D.bl (decide _)) = _; rw [decide_eq_true h2]
  simp only [x1, x2, t1, b1, b2, ob_some, if_true, Bool.not_true, Bool.false_eq_true, if_false]
  refine .inl (comp_map Sc.d (fun _ => D.bl true) ss [] (fun s hs Q Z hQ => ?_) (by simp; omega) ?_)
  · simp only [dC, dV, dB, dO2, ob_some, dT, dAndT, dOrT, dNotT, dIf, dAndV, dOrV, dNotV, dChain, aNil, aCons, dTup, dLst, dCut, oNone, oSome, dRev, dNeg, dTru, dCa, dIs, dIsA, dCall, dCallK, sNil, sSeq, sNever, sBrk, sCont, sIf, sRet, sRetO, sRetE, sSet, sSetO, sDrop, sPar, sPar3, kn, enOf, owD, sAsg, gNm, gsNil, gsCons, gTp, sApp, sIns, sExt, sClr, sRev, sPut, sFrz, owAt, fin, st, iRng, iRngB, iSeq, lstD, tupD, sFor, dLc, dDc, wipeE, tYesD, dIndex, dSort, dDictZip, dMeth, dFld, dMk, List.map_cons, List.map_nil, List.length_cons, List.length_nil, List.replicate_succ, List.replicate_zero, List.cons_append, List.nil_append, List.append_nil, List.getElem?_cons_zero, List.getElem?_cons_succ, List.set_cons_zero, List.set_cons_succ, Option.bind_some, Option.map_some, Nat.reduceSub, Nat.reduceAdd, kwP, List.getD_cons_zero, List.getD_cons_succ, if_true]
    exact ⟨us, s, rfl, (h4 s hs).1, (h4 s hs).2, hQ⟩
  · rw [List.nil_append, allD_f]
    have : (ss.all fun _ => true) = true := by simp
    rw [this]
    exact q
theorem ln_is_step {C : Addr} {n : Nat} {ds : List D} {P : D → Prop} (h : sp_is_step C n ds P) : ds.length = 2 := by obtain ⟨_, _, rfl, _⟩ := h; rfl
theorem ln_is_right_repeat {C : Addr} : ∀ {n : Nat} {ds : List D} {P : D → Prop}, sp_is_right_repeat C n ds P → ds.length = 2
  | 0, _, _, h => h.elim
  | n + 1, _, _, h => by obtain ⟨_, _, _, rfl, _⟩ := h; rfl
def sp_check_script (C : Addr) : DSp := fun ds P => ∃ us d ss, ds = [deskD C us, d] ∧ IsSs d ss ∧ (∀ s ∈ ss, Rt (nms us) s ∧ Dp 5 s) ∧ Sc.szs ss ≤ 400 ∧ P .non
def d_check_script (C_Desk : Addr) : TDS := (sSeq (sDrop (dCall sp_check_length (aCons (dV 1) aNil)))
  (sDrop (dCall sp_refuse_first_wrong (aCons (dLc (iSeq (dV 1)) (gNm 2) tYesD (dCall (sp_is_step C_Desk 5) (aCons (dV 0) (aCons (dV 2) aNil))) [2]) aNil))))
theorem rd_check_script {C : Addr} {ds : List D} {P : D → Prop} (h : sp_check_script C ds P) : d_check_script C (fin false P) (st 3 ds) := by
  obtain ⟨us, d, ss, rfl, hd, rt, hz, q⟩ := h
  have hl := len_szs ss
  simp only [d_check_script, dC, dV, dB, dO2, ob_some, dT, dAndT, dOrT, dNotT, dIf, dAndV, dOrV, dNotV, dChain, aNil, aCons, dTup, dLst, dCut, oNone, oSome, dRev, dNeg, dTru, dCa, dIs, dIsA, dCall, dCallK, sNil, sSeq, sNever, sBrk, sCont, sIf, sRet, sRetO, sRetE, sSet, sSetO, sDrop, sPar, sPar3, kn, enOf, owD, sAsg, gNm, gsNil, gsCons, gTp, sApp, sIns, sExt, sClr, sRev, sPut, sFrz, owAt, fin, st, iRng, iRngB, iSeq, lstD, tupD, sFor, dLc, dDc, wipeE, tYesD, dIndex, dSort, dDictZip, dMeth, dFld, dMk, List.map_cons, List.map_nil, List.length_cons, List.length_nil, List.replicate_succ, List.replicate_zero, List.cons_append, List.nil_append, List.append_nil, List.getElem?_cons_zero, List.getElem?_cons_succ, List.set_cons_zero, List.set_cons_succ, Option.bind_some, Option.map_some, Nat.reduceSub, Nat.reduceAdd, kwP, List.getD_cons_zero, List.getD_cons_succ]
  refine ⟨d, ss, rfl, hd, fun s hs => (rt s hs).2, hz, seq_ss hd ?_⟩
  refine comp_map Sc.d (fun _ => D.bl true) ss [] (fun s hs Q Z hQ => ?_) (by simp; omega) ?_
  · simp only [dC, dV, dB, dO2, ob_some, dT, dAndT, dOrT, dNotT, dIf, dAndV, dOrV, dNotV, dChain, aNil, aCons, dTup, dLst, dCut, oNone, oSome, dRev, dNeg, dTru, dCa, dIs, dIsA, dCall, dCallK, sNil, sSeq, sNever, sBrk, sCont, sIf, sRet, sRetO, sRetE, sSet, sSetO, sDrop, sPar, sPar3, kn, enOf, owD, sAsg, gNm, gsNil, gsCons, gTp, sApp, sIns, sExt, sClr, sRev, sPut, sFrz, owAt, fin, st, iRng, iRngB, iSeq, lstD, tupD, sFor, dLc, dDc, wipeE, tYesD, dIndex, dSort, dDictZip, dMeth, dFld, dMk, List.map_cons, List.map_nil, List.length_cons, List.length_nil, List.replicate_succ, List.replicate_zero, List.cons_append, List.nil_append, List.append_nil, List.getElem?_cons_zero, List.getElem?_cons_succ, List.set_cons_zero, List.set_cons_succ, Option.bind_some, Option.map_some, Nat.reduceSub, Nat.reduceAdd, kwP, List.getD_cons_zero, List.getD_cons_succ, if_true]
    exact ⟨us, s, rfl, (rt s hs).1, (rt s hs).2, hQ⟩
  · rw [List.nil_append, List.map_const']
    exact ⟨_, rfl, trivial, q⟩
theorem ln_check_script {C : Addr} {ds : List D} {P : D → Prop} (h : sp_check_script C ds P) : ds.length = 2 := by obtain ⟨_, _, _, rfl, _⟩ := h; rfl
def sp_fresh_step : DSp := fun ds P => ∃ s, ds = [Sc.d s] ∧ s.isRp = false ∧ P s.d
def d_fresh_step : TDS := (sSeq (sIf (dAndT (dT (dCall sp_begins_with (aCons (dV 0) (aCons (dC (.ktp [.str "raise", .str "lower"])) aNil)))) (dAndT (dT (dO2 (bEqN false) (dCa lenD (aCons (dV 0) aNil)) (dC (.int 2)))) (dT (dCall sp_is_list (aCons (dO2 bIx (dV 0) (dC (.int 1))) aNil))))) (sRet (dTup (aCons (dO2 bIx (dV 0) (dC (.int 0))) (aCons (dCa listD (aCons (dO2 bIx (dV 0) (dC (.int 1))) aNil)) aNil)))) sNil)
  (sRet (dV 0)))
theorem rd_fresh_step {ds : List D} {P : D → Prop} (h : sp_fresh_step ds P) : d_fresh_step (fin false P) (st 1 ds) := by
  obtain ⟨s, rfl, hp, q⟩ := h
  simp only [d_fresh_step, dC, dV, dB, dO2, ob_some, dT, dAndT, dOrT, dNotT, dIf, dAndV, dOrV, dNotV, dChain, aNil, aCons, dTup, dLst, dCut, oNone, oSome, dRev, dNeg, dTru, dCa, dIs, dIsA, dCall, dCallK, sNil, sSeq, sNever, sBrk, sCont, sIf, sRet, sRetO, sRetE, sSet, sSetO, sDrop, sPar, sPar3, kn, enOf, owD, sAsg, gNm, gsNil, gsCons, gTp, sApp, sIns, sExt, sClr, sRev, sPut, sFrz, owAt, fin, st, iRng, iRngB, iSeq, lstD, tupD, sFor, dLc, dDc, wipeE, tYesD, dIndex, dSort, dDictZip, dMeth, dFld, dMk, List.map_cons, List.map_nil, List.length_cons, List.length_nil, List.replicate_succ, List.replicate_zero, List.cons_append, List.nil_append, List.append_nil, List.getElem?_cons_zero, List.getElem?_cons_succ, List.set_cons_zero, List.set_cons_succ, Option.bind_some, Option.map_some, Nat.reduceSub, Nat.reduceAdd, kwP, List.getD_cons_zero, List.getD_cons_succ]
  refine ⟨s, _, ["raise", "lower"], rfl, .inr rfl, ?_⟩
  have em : decide (s.word ∈ (["raise", "lower"] : List Str)) = s.isMv := by
    rw [← word_mv, ← Bool.decide_or]
    exact decide_eq_decide.mpr (by simp)
  rw [em]
  cases s with
  | mv up ns =>
    have ed : (Sc.mv up ns).d = .tup [.str (Sc.mv up ns).word, .lst (ns.map D.str)] := by cases up <;> rfl
    have l1 : lenD [.tup [.str (Sc.mv up ns).word, .lst (ns.map D.str)]] = some (.int 2) := rfl
    have e1 : bEqN false (.int 2) (.int 2) = some (.bl true) := rfl
    have x0 : bIx (.tup [.str (Sc.mv up ns).word, .lst (ns.map D.str)]) (.int 0) = some (.str (Sc.mv up ns).word) := bIx_tp (j := 0) rfl
    have x1 : bIx (.tup [.str (Sc.mv up ns).word, .lst (ns.map D.str)]) (.int 1) = some (.lst (ns.map D.str)) := bIx_tp (j := 1) rfl
    have l2 : listD [.lst (ns.map D.str)] = some (.lst (ns.map D.str)) := rfl
    rw [ed] at q ⊢
    simp only [Sc.isMv, if_true, l1, e1, x0, x1, l2, ob_some]
    refine ⟨_, rfl, .inl ⟨_, rfl⟩, ?_⟩
    simp only [if_true]
    exact ⟨by decide, q⟩
  | pl n r =>
    simp only [Sc.isMv, Bool.false_eq_true, if_false]
    exact q
  | rp _ _ => cases hp
theorem ln_fresh_step {ds : List D} {P : D → Prop} (h : sp_fresh_step ds P) : ds.length = 1 := by obtain ⟨_, rfl, _⟩ := h; rfl
mutual
def Sc.fl : Sc → List Sc
  | .mv up ns => [.mv up ns]
  | .pl n r => [.pl n r]
  | .rp c ss => if c = 0 then [] else Sc.fls ss
def Sc.fls : List Sc → List Sc
  | [] => []
  | s :: ss => s.fl ++ Sc.fls ss
end
theorem fls_app : ∀ a b : List Sc, Sc.fls (a ++ b) = Sc.fls a ++ Sc.fls b
  | [], b => by rw [List.nil_append, Sc.fls, List.nil_append]
  | s :: a, b => by rw [List.cons_append, Sc.fls, Sc.fls, fls_app a b, List.append_assoc]
mutual
theorem fl_len : ∀ s : Sc, s.fl.length ≤ s.sz
  | .mv up ns => by rw [Sc.fl, Sc.sz]; exact Nat.le_refl _
  | .pl n r => by rw [Sc.fl, Sc.sz]; exact Nat.le_refl _
  | .rp c ss => by
    rw [Sc.fl, Sc.sz]
    have := fls_len ss
    split
    · simp
    · omega
theorem fls_len : ∀ ss : List Sc, (Sc.fls ss).length ≤ Sc.szs ss
  | [] => by rw [Sc.fls, Sc.szs]; exact Nat.le_refl _
  | s :: ss => by
    rw [Sc.fls, Sc.szs, List.length_append]
    have := fl_len s
    have := fls_len ss
    omega
end
def sp_flat : Nat → DSp
  | 0 => fun _ _ => False
  | n + 1 => fun ds P => ∃ d ss, ds = [d] ∧ IsSs d ss ∧ (∀ s ∈ ss, Dp n s) ∧ Sc.szs ss ≤ 100000 ∧ P (.lst ((Sc.fls ss).map Sc.d))
def d_flat (sp_flat : DSp) : TDS := (sSeq (sSetO 1 (dLst aNil))
  (sSeq (sFor (iSeq (dV 0)) (gNm 2) (sIf (dNotT (dT (dCall sp_is_repeat (aCons (dV 2) aNil)))) (sApp 1 (dCall sp_fresh_step (aCons (dV 2) aNil))) (sIf (dT (dO2 (bEqN true) (dCut cutA (dV 2) (oSome (dC (.int 1))) (oSome (dC (.int 2)))) (dTup (aCons (dC (.int 0)) aNil)))) (sExt 1 (dCall sp_flat (aCons (dCall sp_inner_steps (aCons (dV 2) aNil)) aNil))) sNil)))
  (sRetO 1)))
theorem rd_flat {n : Nat} {ds : List D} {P : D → Prop} (h : sp_flat (n + 1) ds P) : d_flat (sp_flat n) (fin true P) (st 3 ds) := by
  obtain ⟨d, ss, rfl, hd, dp, hz, q⟩ := h
  simp only [d_flat, dC, dV, dB, dO2, ob_some, dT, dAndT, dOrT, dNotT, dIf, dAndV, dOrV, dNotV, dChain, aNil, aCons, dTup, dLst, dCut, oNone, oSome, dRev, dNeg, dTru, dCa, dIs, dIsA, dCall, dCallK, sNil, sSeq, sNever, sBrk, sCont, sIf, sRet, sRetO, sRetE, sSet, sSetO, sDrop, sPar, sPar3, kn, enOf, owD, sAsg, gNm, gsNil, gsCons, gTp, sApp, sIns, sExt, sClr, sRev, sPut, sFrz, owAt, fin, st, iRng, iRngB, iSeq, lstD, tupD, sFor, dLc, dDc, wipeE, tYesD, dIndex, dSort, dDictZip, dMeth, dFld, dMk, List.map_cons, List.map_nil, List.length_cons, List.length_nil, List.replicate_succ, List.replicate_zero, List.cons_append, List.nil_append, List.append_nil, List.getElem?_cons_zero, List.getElem?_cons_succ, List.set_cons_zero, List.set_cons_succ, Option.bind_some, Option.map_some, Nat.reduceSub, Nat.reduceAdd, kwP, List.getD_cons_zero, List.getD_cons_succ]
  refine ⟨by decide, seq_ss hd ?_⟩
  refine loop_all Sc.d ss (fun pre env => ∃ e2, env = [.fz d, .ow ((Sc.fls pre).map Sc.d), e2]) ⟨_, by rw [Sc.fls]; rfl⟩ (fun pre s post env e h k hk => ?_) (fun env h => ?_)
  · obtain ⟨e2, rfl⟩ := h
    have zs : Sc.szs ss = Sc.szs pre + (s.sz + Sc.szs post) := by rw [e, szs_app, Sc.szs]
    have l1 := fls_len pre
    have l2 := fl_len s
    have mem : s ∈ ss := by rw [e]; simp
    have ap : Sc.fls (pre ++ [s]) = Sc.fls pre ++ s.fl := by rw [fls_app, Sc.fls, Sc.fls, List.append_nil]
    simp only [dC, dV, dB, dO2, ob_some, dT, dAndT, dOrT, dNotT, dIf, dAndV, dOrV, dNotV, dChain, aNil, aCons, dTup, dLst, dCut, oNone, oSome, dRev, dNeg, dTru, dCa, dIs, dIsA, dCall, dCallK, sNil, sSeq, sNever, sBrk, sCont, sIf, sRet, sRetO, sRetE, sSet, sSetO, sDrop, sPar, sPar3, kn, enOf, owD, sAsg, gNm, gsNil, gsCons, gTp, sApp, sIns, sExt, sClr, sRev, sPut, sFrz, owAt, fin, st, iRng, iRngB, iSeq, lstD, tupD, sFor, dLc, dDc, wipeE, tYesD, dIndex, dSort, dDictZip, dMeth, dFld, dMk, List.map_cons, List.map_nil, List.length_cons, List.length_nil, List.replicate_succ, List.replicate_zero, List.cons_append, List.nil_append, List.append_nil, List.getElem?_cons_zero, List.getElem?_cons_succ, List.set_cons_zero, List.set_cons_succ, Option.bind_some, Option.map_some, Nat.reduceSub, Nat.reduceAdd, kwP, List.getD_cons_zero, List.getD_cons_succ]
    refine ⟨s, rfl, ?_⟩
    cases hr : s.isRp with
    | false =>
      simp only [Bool.not_false, if_true]
      refine ⟨s, rfl, hr, by rw [List.length_map]; exact szM (by omega), hk _ ⟨.fz s.d, ?_⟩⟩
      have ef : s.fl = [s] := by cases s <;> first | rfl | cases hr
      rw [ap, ef, List.map_append]
      rfl
    | true =>
      simp only [Bool.not_true, Bool.false_eq_true, if_false]
      cases s with
      | rp c ts =>
        have dt := dp _ mem
        have ec : cutA (Sc.rp c ts).d (some 1) (some 2) = some (.tup [.int c]) := by rw [Sc.d]; rfl
        simp only [ec, ob_some]
        refine ⟨by decide, ?_⟩
        refine beq_ob (n := 2) (by decide) rfl rfl (fun h => ?_) (fun h => ?_)
        · have hc : c = 0 := by
            injection h with h
            injection h with h _
            injection h
          simp only [Bool.not_true, Bool.false_eq_true, if_false]
          refine hk _ ⟨.fz (Sc.rp c ts).d, ?_⟩
          rw [ap, Sc.fl, if_pos hc, List.append_nil]
        · have hc : c ≠ 0 := fun z => h (by rw [z])
          simp only [if_true]
          cases dt with
          | rp di =>
            rename_i m
            have lt := len_szs ts
            have sz : (Sc.rp c ts).sz = 1 + Sc.szs ts := by rw [Sc.sz]
            rw [Sc.fl, if_neg hc] at ap
            refine ⟨c, ts, rfl, by omega, _, ts, rfl, .inl rfl, di, by omega, ?_⟩
            have l3 := fls_len ts
            refine ⟨by rw [List.length_map, List.length_map]; exact Nat.le_of_lt (szM (by omega)), hk _ ⟨.fz (Sc.rp c ts).d, ?_⟩⟩
            rw [ap, List.map_append]
      | _ => cases hr
  · obtain ⟨e2, rfl⟩ := h
    simp only [dC, dV, dB, dO2, ob_some, dT, dAndT, dOrT, dNotT, dIf, dAndV, dOrV, dNotV, dChain, aNil, aCons, dTup, dLst, dCut, oNone, oSome, dRev, dNeg, dTru, dCa, dIs, dIsA, dCall, dCallK, sNil, sSeq, sNever, sBrk, sCont, sIf, sRet, sRetO, sRetE, sSet, sSetO, sDrop, sPar, sPar3, kn, enOf, owD, sAsg, gNm, gsNil, gsCons, gTp, sApp, sIns, sExt, sClr, sRev, sPut, sFrz, owAt, fin, st, iRng, iRngB, iSeq, lstD, tupD, sFor, dLc, dDc, wipeE, tYesD, dIndex, dSort, dDictZip, dMeth, dFld, dMk, List.map_cons, List.map_nil, List.length_cons, List.length_nil, List.replicate_succ, List.replicate_zero, List.cons_append, List.nil_append, List.append_nil, List.getElem?_cons_zero, List.getElem?_cons_succ, List.set_cons_zero, List.set_cons_succ, Option.bind_some, Option.map_some, Nat.reduceSub, Nat.reduceAdd, kwP, List.getD_cons_zero, List.getD_cons_succ]
    exact q
theorem ln_flat : ∀ {n : Nat} {ds : List D} {P : D → Prop}, sp_flat n ds P → ds.length = 1
  | 0, _, _, h => h.elim
  | n + 1, _, _, h => by obtain ⟨_, _, rfl, _⟩ := h; rfl
end DL

namespace DL
open PySem PySem.Spec PyProof.Rows L2 RK
/-! ### another rectangle for a window -/
def plW (us : List Win) (n : Str) (r : R) : List Win := us.map fun w => if w.1 = n then (n, r) else w
theorem nms_pl (us : List Win) (n : Str) (r : R) : nms (plW us n r) = nms us := by
  unfold nms plW
  rw [List.map_map]
  refine List.map_congr_left fun w _ => ?_
  show (if w.1 = n then (n, r) else w).1 = w.1
  by_cases h : w.1 = n
  · rw [if_pos h]; exact h.symm
  · rw [if_neg h]
theorem pl_ok {us : List Win} (W : WOk us) {n : Str} {r : R} (g : r.good) (hn : n ∈ nms us) : WOk (plW us n r) := by
  refine ⟨by rw [nms_pl]; exact W.nd, fun w hw => ?_, fun w hw => ?_⟩
  · obtain ⟨v, hv, rfl⟩ := List.mem_map.mp hw
    by_cases h : v.1 = n
    · rw [if_pos h]; rw [← h]; exact W.nm v hv
    · rw [if_neg h]; exact W.nm v hv
  · obtain ⟨v, hv, rfl⟩ := List.mem_map.mp hw
    by_cases h : v.1 = n
    · rw [if_pos h]; exact g
    · rw [if_neg h]; exact W.gd v hv
theorem put_pl {us : List Win} {n : Str} (hn : n ∈ nms us) (r : R) : putD (us.map wk) (Sum.inr n : Key) (rectD r) = (plW us n r).map wk := by
  unfold putD plW
  have h : ((us.map wk).any fun kd => decide (kd.1 = (Sum.inr n : Key))) = true := by
    obtain ⟨w, hw, rfl⟩ := List.mem_map.mp hn
    exact List.any_eq_true.mpr ⟨wk w, List.mem_map.mpr ⟨w, hw, rfl⟩, decide_eq_true rfl⟩
  rw [if_pos h, List.map_map, List.map_map]
  refine List.map_congr_left fun w _ => ?_
  show (if (wk w).1 = (Sum.inr n : Key) then ((wk w).1, rectD r) else wk w) = wk (if w.1 = n then (n, r) else w)
  by_cases h : w.1 = n
  · rw [if_pos h, if_pos (by rw [← h]; rfl)]
    show ((Sum.inr w.1 : Key), rectD r) = _
    rw [h]
    rfl
  · rw [if_neg h, if_neg (show ¬ (wk w).1 = (Sum.inr n : Key) from fun z => h (Sum.inr.inj z))]
theorem sortW_one {us ws : List Win} (nd : (nms ws).Nodup) (p : us.Perm ws) (s1 : SortW us) (s2 : SortW ws) : us = ws := by
  have e : nms us = nms ws := sorted_one (p.map _) s1 s2
  have key : ∀ vs : List Win, (∀ w ∈ vs, w ∈ ws) → vs = (nms vs).map fun z => (z, (look ws z).getD ⟨0, 0, 0, 0⟩) := by
    intro vs hv
    unfold nms
    rw [List.map_map]
    have : ∀ w ∈ vs, ((fun z => (z, (look ws z).getD ⟨0, 0, 0, 0⟩)) ∘ fun w : Win => w.1) w = w := fun w hw => by
      show (w.1, (look ws w.1).getD ⟨0, 0, 0, 0⟩) = w
      rw [look_mem nd (hv w hw)]
      rfl
    rw [List.map_congr_left this, List.map_id']
  exact (key us fun w hw => p.mem_iff.mp hw).trans (by rw [e]; exact (key ws fun _ h => h).symm)
structure DkOk (us : List Win) : Prop where
  w : WOk us
  s : SortW us
  l1 : 1 ≤ us.length
  l2 : us.length ≤ 24
theorem DkOk.pl {us : List Win} (h : DkOk us) {n : Str} {r : R} (g : r.good) (hn : n ∈ nms us) : DkOk (plW us n r) :=
  ⟨pl_ok h.w g hn, by unfold SortW; rw [nms_pl]; exact h.s, by unfold plW; rw [List.length_map]; exact h.l1, by unfold plW; rw [List.length_map]; exact h.l2⟩
def Knows0 (kds : List (Key × D)) (p : Str → Prop) : Prop := ∀ z : Str, (Sum.inr z : Key) ∈ kds.map (·.1) ↔ p z
theorem bIn_kn0 {neg : Bool} {kds : List (Key × D)} {p : Str → Prop} [DecidablePred p] (h : Knows0 kds p) (z : Str) : bIn neg (.str z) (.dic kds) = some (.bl (neg ^^ decide (p z))) := by
  show (none : Option D).or ((some (D.bl (neg ^^ (valD kds (Sum.inr z : Key)).isSome))).or _) = _
  have e : (valD kds (Sum.inr z : Key)).isSome = decide (p z) := by
    rw [Bool.eq_iff_iff, decide_eq_true_iff, ← h z]
    unfold valD
    rw [Option.isSome_map, List.find?_isSome]
    constructor
    · rintro ⟨q, hq, e⟩
      rw [← of_decide_eq_true e]
      exact List.mem_map.mpr ⟨q, hq, rfl⟩
    · intro h
      obtain ⟨q, hq, e⟩ := List.mem_map.mp h
      exact ⟨q, hq, decide_eq_true e⟩
  rw [e]
  rfl
def sp_Desk_placed (C : Addr) : DSp := fun ds P => ∃ us n r, ds = [deskD C us, .str n, rectD r] ∧ DkOk us ∧ n ∈ nms us ∧ r.good ∧ P (deskD C (plW us n r))
def d_Desk_placed (C_Desk : Addr) : TDS := (sSeq (sIf (dT (dO2 (bIn true) (dV 1) (dFld C_Desk "windows" (dV 0)))) sNever sNil)
  (sRet (dMk C_Desk "windows" sp_Desk___init (aCons (dSplat (dFld C_Desk "windows" (dV 0)) (dV 1) (dV 2)) aNil))))
theorem in_win {neg : Bool} (us : List Win) (z : Str) : bIn neg (.str z) (winD us) = some (.bl (neg ^^ decide (z ∈ nms us))) := by
  have kn : Knows0 (us.map wk) (· ∈ nms us) := fun z => by
    show (Sum.inr z : Key) ∈ (us.map wk).map (·.1) ↔ _
    show _ ↔ z ∈ us.map (·.1)
    rw [List.map_map, List.mem_map, List.mem_map]
    constructor
    · rintro ⟨w, hw, e⟩; exact ⟨w, hw, Sum.inr.inj e⟩
    · rintro ⟨w, hw, e⟩; exact ⟨w, hw, by rw [← e]; rfl⟩
  exact bIn_kn0 kn z
theorem rd_Desk_placed {C : Addr} {ds : List D} {P : D → Prop} (h : sp_Desk_placed C ds P) : d_Desk_placed C (fin false P) (st 3 ds) := by
  obtain ⟨us, n, r, rfl, K, hn, g, q⟩ := h
  simp only [d_Desk_placed, dC, dV, dB, dO2, ob_some, dT, dAndT, dOrT, dNotT, dIf, dAndV, dOrV, dNotV, dChain, aNil, aCons, dTup, dLst, dCut, oNone, oSome, dRev, dNeg, dTru, dCa, dIs, dIsA, dCall, dCallK, sNil, sSeq, sNever, sBrk, sCont, sIf, sRet, sRetO, sRetE, sSet, sSetO, sDrop, sPar, sPar3, kn, enOf, owD, sAsg, gNm, gsNil, gsCons, gTp, sApp, sIns, sExt, sClr, sRev, sPut, sFrz, owAt, fin, st, iRng, iRngB, iSeq, lstD, tupD, sFor, dLc, dDc, wipeE, tYesD, dIndex, dSort, dDictZip, dMeth, dFld, dMk, List.map_cons, List.map_nil, List.length_cons, List.length_nil, List.replicate_succ, List.replicate_zero, List.cons_append, List.nil_append, List.append_nil, List.getElem?_cons_zero, List.getElem?_cons_succ, List.set_cons_zero, List.set_cons_succ, Option.bind_some, Option.map_some, Nat.reduceSub, Nat.reduceAdd, kwP, List.getD_cons_zero, List.getD_cons_succ, deskD, lookW, in_win, decide_eq_true hn, Bool.true_xor, Bool.not_true, Bool.false_eq_true, if_false, dSplat]
  simp only [winD, dC, dV, dB, dO2, ob_some, dT, dAndT, dOrT, dNotT, dIf, dAndV, dOrV, dNotV, dChain, aNil, aCons, dTup, dLst, dCut, oNone, oSome, dRev, dNeg, dTru, dCa, dIs, dIsA, dCall, dCallK, sNil, sSeq, sNever, sBrk, sCont, sIf, sRet, sRetO, sRetE, sSet, sSetO, sDrop, sPar, sPar3, kn, enOf, owD, sAsg, gNm, gsNil, gsCons, gTp, sApp, sIns, sExt, sClr, sRev, sPut, sFrz, owAt, fin, st, iRng, iRngB, iSeq, lstD, tupD, sFor, dLc, dDc, wipeE, tYesD, dIndex, dSort, dDictZip, dMeth, dFld, dMk, List.map_cons, List.map_nil, List.length_cons, List.length_nil, List.replicate_succ, List.replicate_zero, List.cons_append, List.nil_append, List.append_nil, List.getElem?_cons_zero, List.getElem?_cons_succ, List.set_cons_zero, List.set_cons_succ, Option.bind_some, Option.map_some, Nat.reduceSub, Nat.reduceAdd, kwP, List.getD_cons_zero, List.getD_cons_succ, keyD, put_pl hn]
  refine ⟨trivial, trivial, by rw [List.length_map]; have := K.l2; omega, plW us n r, rfl, (K.pl g hn).w, (K.pl g hn).l1, (K.pl g hn).l2, fun vs pv sv => ?_⟩
  rw [sortW_one (K.pl g hn).w.nd pv sv (K.pl g hn).s]
  exact q
theorem ln_Desk_placed {C : Addr} {ds : List D} {P : D → Prop} (h : sp_Desk_placed C ds P) : ds.length = 3 := by obtain ⟨_, _, _, rfl, _⟩ := h; rfl
/-! ### moves -/
def movS (zs : List Str) (up : Bool) (ns : List Str) : List Str := if up = true then zs.filter (fun z => !(decide (z ∈ ns))) ++ zs.filter (fun z => decide (z ∈ ns)) else zs.filter (fun z => decide (z ∈ ns)) ++ zs.filter (fun z => !(decide (z ∈ ns)))
theorem mov_perm (zs : List Str) (up : Bool) (ns : List Str) : (movS zs up ns).Perm zs := by
  unfold movS
  have h := List.filter_append_perm (fun z => decide (z ∈ ns)) zs
  split
  · exact List.perm_append_comm.trans h
  · exact h
theorem bEq_s (a b : Str) : bEqN false (.str a) (.str b) = some (.bl (decide (a = b))) := by
  show (some (D.bl (false ^^ decide (a = b)))).or _ = _
  rw [Bool.false_xor]
  rfl
theorem bNe_s (a b : Str) : bEqN true (.str a) (.str b) = some (.bl (!decide (a = b))) := by
  show (some (D.bl (true ^^ decide (a = b)))).or _ = _
  rw [Bool.true_xor]
  rfl
theorem mv_d (up : Bool) (ns : List Str) : (Sc.mv up ns).d = .tup [.str (Sc.mv up ns).word, .lst (ns.map D.str)] := by cases up <;> rfl
theorem word_up (up : Bool) (ns : List Str) : decide ((Sc.mv up ns).word = "raise") = up := by
  cases up
  · exact (by decide +kernel : decide (("lower" : Str) = "raise") = false)
  · exact (by decide +kernel : decide (("raise" : Str) = "raise") = true)
theorem comp_in {te : TDE} {P : D → Prop} {zs ns : List Str} {env : De} {i : Nat} {neg : Bool} {dn : TDE} (hl : zs.length ≤ 100000) (hv : ∀ z Q, te (env.set i (.fz (.str z))) Q = Q (.str z)) (hd : ∀ z Q, dn (env.set i (.fz (.str z))) Q = Q (.lst (ns.map D.str)))
    (q : P (.lst ((zs.filter fun z => neg ^^ decide (z ∈ ns)).map D.str))) : dComp (gNm i) (dT (dO2 (bIn neg) te dn)) te P env (zs.map D.str) [] := by
  refine comp_filter D.str D.str (fun z => neg ^^ decide (z ∈ ns)) zs [] (fun z hz Q Z h1 h2 => ?_) (by simp; omega) (by rw [List.nil_append]; exact q)
  simp only [gNm, dT, dO2, hv, hd, bIn_strs (.inl rfl : IsSeq (.lst (ns.map D.str)) ns), ob_some]
  cases hc : (neg ^^ decide (z ∈ ns)) with
  | true => exact h1 hc
  | false => exact h2 hc
def sp_moved : DSp := fun ds P => ∃ zs up ns, ds = [.lst (zs.map D.str), (Sc.mv up ns).d] ∧ zs.length ≤ 1000 ∧ P (.lst ((movS zs up ns).map D.str))
def d_moved : TDS := (sSeq (sSet 2 (dLc (iSeq (dV 0)) (gNm 4) (dT (dO2 (bIn false) (dV 4) (dO2 bIx (dV 1) (dC (.int 1))))) (dV 4) [4]))
  (sSeq (sSet 3 (dLc (iSeq (dV 0)) (gNm 4) (dT (dO2 (bIn true) (dV 4) (dO2 bIx (dV 1) (dC (.int 1))))) (dV 4) [4]))
  (sRet (dIf (dT (dO2 (bEqN false) (dO2 bIx (dV 1) (dC (.int 0))) (dC (.str "raise")))) (dO2 bAdd (dV 3) (dV 2)) (dO2 bAdd (dV 2) (dV 3))))))
theorem rd_moved {ds : List D} {P : D → Prop} (h : sp_moved ds P) : d_moved (fin false P) (st 5 ds) := by
  obtain ⟨zs, up, ns, rfl, hl, q⟩ := h
  rw [mv_d]
  have x0 : bIx (.tup [.str (Sc.mv up ns).word, .lst (ns.map D.str)]) (.int 0) = some (.str (Sc.mv up ns).word) := bIx_tp (j := 0) rfl
  have x1 : bIx (.tup [.str (Sc.mv up ns).word, .lst (ns.map D.str)]) (.int 1) = some (.lst (ns.map D.str)) := bIx_tp (j := 1) rfl
  simp only [d_moved, dC, dV, dB, dO2, ob_some, dT, dAndT, dOrT, dNotT, dIf, dAndV, dOrV, dNotV, dChain, aNil, aCons, dTup, dLst, dCut, oNone, oSome, dRev, dNeg, dTru, dCa, dIs, dIsA, dCall, dCallK, sNil, sSeq, sNever, sBrk, sCont, sIf, sRet, sRetO, sRetE, sSet, sSetO, sDrop, sPar, sPar3, kn, enOf, owD, sAsg, gNm, gsNil, gsCons, gTp, sApp, sIns, sExt, sClr, sRev, sPut, sFrz, owAt, fin, st, iRng, iRngB, iSeq, lstD, tupD, sFor, dLc, dDc, wipeE, tYesD, dIndex, dSort, dDictZip, dMeth, dFld, dMk, List.map_cons, List.map_nil, List.length_cons, List.length_nil, List.replicate_succ, List.replicate_zero, List.cons_append, List.nil_append, List.append_nil, List.getElem?_cons_zero, List.getElem?_cons_succ, List.set_cons_zero, List.set_cons_succ, Option.bind_some, Option.map_some, Nat.reduceSub, Nat.reduceAdd, kwP, List.getD_cons_zero, List.getD_cons_succ]
  refine .inl (comp_in (ns := ns) (by omega) (fun z Q => by simp only [dC, dV, dB, dO2, ob_some, dT, dAndT, dOrT, dNotT, dIf, dAndV, dOrV, dNotV, dChain, aNil, aCons, dTup, dLst, dCut, oNone, oSome, dRev, dNeg, dTru, dCa, dIs, dIsA, dCall, dCallK, sNil, sSeq, sNever, sBrk, sCont, sIf, sRet, sRetO, sRetE, sSet, sSetO, sDrop, sPar, sPar3, kn, enOf, owD, sAsg, gNm, gsNil, gsCons, gTp, sApp, sIns, sExt, sClr, sRev, sPut, sFrz, owAt, fin, st, iRng, iRngB, iSeq, lstD, tupD, sFor, dLc, dDc, wipeE, tYesD, dIndex, dSort, dDictZip, dMeth, dFld, dMk, List.map_cons, List.map_nil, List.length_cons, List.length_nil, List.replicate_succ, List.replicate_zero, List.cons_append, List.nil_append, List.append_nil, List.getElem?_cons_zero, List.getElem?_cons_succ, List.set_cons_zero, List.set_cons_succ, Option.bind_some, Option.map_some, Nat.reduceSub, Nat.reduceAdd, kwP, List.getD_cons_zero, List.getD_cons_succ]) (fun z Q => by simp only [dC, dV, dB, dO2, ob_some, dT, dAndT, dOrT, dNotT, dIf, dAndV, dOrV, dNotV, dChain, aNil, aCons, dTup, dLst, dCut, oNone, oSome, dRev, dNeg, dTru, dCa, dIs, dIsA, dCall, dCallK, sNil, sSeq, sNever, sBrk, sCont, sIf, sRet, sRetO, sRetE, sSet, sSetO, sDrop, sPar, sPar3, kn, enOf, owD, sAsg, gNm, gsNil, gsCons, gTp, sApp, sIns, sExt, sClr, sRev, sPut, sFrz, owAt, fin, st, iRng, iRngB, iSeq, lstD, tupD, sFor, dLc, dDc, wipeE, tYesD, dIndex, dSort, dDictZip, dMeth, dFld, dMk, List.map_cons, List.map_nil, List.length_cons, List.length_nil, List.replicate_succ, List.replicate_zero, List.cons_append, List.nil_append, List.append_nil, List.getElem?_cons_zero, List.getElem?_cons_succ, List.set_cons_zero, List.set_cons_succ, Option.bind_some, Option.map_some, Nat.reduceSub, Nat.reduceAdd, kwP, List.getD_cons_zero, List.getD_cons_succ, x1]) ?_)
  refine .inl (comp_in (ns := ns) (by omega) (fun z Q => by simp only [dC, dV, dB, dO2, ob_some, dT, dAndT, dOrT, dNotT, dIf, dAndV, dOrV, dNotV, dChain, aNil, aCons, dTup, dLst, dCut, oNone, oSome, dRev, dNeg, dTru, dCa, dIs, dIsA, dCall, dCallK, sNil, sSeq, sNever, sBrk, sCont, sIf, sRet, sRetO, sRetE, sSet, sSetO, sDrop, sPar, sPar3, kn, enOf, owD, sAsg, gNm, gsNil, gsCons, gTp, sApp, sIns, sExt, sClr, sRev, sPut, sFrz, owAt, fin, st, iRng, iRngB, iSeq, lstD, tupD, sFor, dLc, dDc, wipeE, tYesD, dIndex, dSort, dDictZip, dMeth, dFld, dMk, List.map_cons, List.map_nil, List.length_cons, List.length_nil, List.replicate_succ, List.replicate_zero, List.cons_append, List.nil_append, List.append_nil, List.getElem?_cons_zero, List.getElem?_cons_succ, List.set_cons_zero, List.set_cons_succ, Option.bind_some, Option.map_some, Nat.reduceSub, Nat.reduceAdd, kwP, List.getD_cons_zero, List.getD_cons_succ]) (fun z Q => by simp only [dC, dV, dB, dO2, ob_some, dT, dAndT, dOrT, dNotT, dIf, dAndV, dOrV, dNotV, dChain, aNil, aCons, dTup, dLst, dCut, oNone, oSome, dRev, dNeg, dTru, dCa, dIs, dIsA, dCall, dCallK, sNil, sSeq, sNever, sBrk, sCont, sIf, sRet, sRetO, sRetE, sSet, sSetO, sDrop, sPar, sPar3, kn, enOf, owD, sAsg, gNm, gsNil, gsCons, gTp, sApp, sIns, sExt, sClr, sRev, sPut, sFrz, owAt, fin, st, iRng, iRngB, iSeq, lstD, tupD, sFor, dLc, dDc, wipeE, tYesD, dIndex, dSort, dDictZip, dMeth, dFld, dMk, List.map_cons, List.map_nil, List.length_cons, List.length_nil, List.replicate_succ, List.replicate_zero, List.cons_append, List.nil_append, List.append_nil, List.getElem?_cons_zero, List.getElem?_cons_succ, List.set_cons_zero, List.set_cons_succ, Option.bind_some, Option.map_some, Nat.reduceSub, Nat.reduceAdd, kwP, List.getD_cons_zero, List.getD_cons_succ, x1]) ?_)
  simp only [x0, ob_some, bEq_s, word_up, Bool.false_xor, Bool.true_xor]
  have l1 := List.length_filter_le (fun z => decide (z ∈ ns)) zs
  have l2 := List.length_filter_le (fun z => !decide (z ∈ ns)) zs
  cases up with
  | true =>
    rw [if_pos rfl, bAdd_l (by rw [List.length_map, List.length_map]; omega), ← List.map_append]
    exact q
  | false =>
    rw [if_neg Bool.false_ne_true, bAdd_l (by rw [List.length_map, List.length_map]; omega), ← List.map_append]
    exact q
theorem ln_moved {ds : List D} {P : D → Prop} (h : sp_moved ds P) : ds.length = 2 := by obtain ⟨_, _, _, rfl, _⟩ := h; rfl
/-! ### runs -/
def stW (us : List Win) : Sc → List Win
  | .pl n r => plW us n r
  | _ => us
def stO (zs : List Str) : Sc → List Str
  | .mv up ns => movS zs up ns
  | _ => zs
def aftW (us : List Win) (ps : List Sc) : List Win := ps.foldl stW us
def aftO (zs : List Str) (ps : List Sc) : List Str := ps.foldl stO zs
theorem nms_st (us : List Win) (s : Sc) : nms (stW us s) = nms us := by cases s <;> first | rfl | exact nms_pl _ _ _
theorem nms_aft : ∀ (ps : List Sc) (us : List Win), nms (aftW us ps) = nms us
  | [], _ => rfl
  | p :: ps, us => by
    show nms (aftW (stW us p) ps) = _
    rw [nms_aft ps, nms_st]
theorem o_perm (zs : List Str) (s : Sc) : (stO zs s).Perm zs := by
  cases s with
  | mv up ns => exact mov_perm _ _ _
  | _ => exact .refl _
theorem aftO_perm : ∀ (ps : List Sc) (zs : List Str), (aftO zs ps).Perm zs
  | [], _ => .refl _
  | p :: ps, zs => (aftO_perm ps (stO zs p)).trans (o_perm zs p)
def Plain (nm : List Str) (ps : List Sc) : Prop := ∀ s ∈ ps, s.isRp = false ∧ Rt nm s
theorem DkOk.st {us : List Win} (h : DkOk us) {s : Sc} (hp : s.isRp = false ∧ Rt (nms us) s) : DkOk (stW us s) := by
  obtain ⟨h1, h2⟩ := hp
  cases h2 with
  | mv _ => exact h
  | pl hn g => exact h.pl g hn
  | rp _ _ _ _ => cases h1
theorem DkOk.aft : ∀ {ps : List Sc} {us : List Win}, DkOk us → Plain (nms us) ps → DkOk (aftW us ps)
  | [], _, h, _ => h
  | p :: ps, us, h, hp => by
    show DkOk (aftW (stW us p) ps)
    exact (h.st (hp p List.mem_cons_self)).aft fun s hs => by rw [nms_st]; exact hp s (List.mem_cons_of_mem _ hs)
def sp_run_plain (C : Addr) : DSp := fun ds P => ∃ us d zs e ps, ds = [deskD C us, d, e] ∧ IsSeq d zs ∧ IsSs e ps ∧ zs.length ≤ 1000 ∧ Plain (nms us) ps ∧ DkOk us ∧ P (.tup [deskD C (aftW us ps), .lst ((aftO zs ps).map D.str)])
def d_run_plain (C_Desk : Addr) : TDS := (sSeq (sSet 3 (dCa listD (aCons (dV 1) aNil)))
  (sSeq (sFor (iSeq (dV 2)) (gNm 4) (sIf (dT (dO2 (bEqN false) (dO2 bIx (dV 4) (dC (.int 0))) (dC (.str "place")))) (sSet 0 (dMeth C_Desk "placed" (sp_Desk_placed C_Desk) (dV 0) (aCons (dO2 bIx (dV 4) (dC (.int 1))) (aCons (dO2 bIx (dV 4) (dC (.int 2))) aNil)))) (sSet 3 (dCall sp_moved (aCons (dV 3) (aCons (dV 4) aNil))))))
  (sRet (dTup (aCons (dV 0) (aCons (dV 3) aNil))))))
theorem rd_run_plain {C : Addr} {ds : List D} {P : D → Prop} (h : sp_run_plain C ds P) : d_run_plain C (fin false P) (st 5 ds) := by
  obtain ⟨us, d, zs, e, ps, rfl, hd, he, hl, pp, K, q⟩ := h
  have hn : (("placed" : Str) == ("windows" : Str)) = false := by decide +kernel
  have l1 : listD [d] = some (.lst (zs.map D.str)) := by rcases hd with rfl | rfl <;> rfl
  simp only [d_run_plain, dC, dV, dB, dO2, ob_some, dT, dAndT, dOrT, dNotT, dIf, dAndV, dOrV, dNotV, dChain, aNil, aCons, dTup, dLst, dCut, oNone, oSome, dRev, dNeg, dTru, dCa, dIs, dIsA, dCall, dCallK, sNil, sSeq, sNever, sBrk, sCont, sIf, sRet, sRetO, sRetE, sSet, sSetO, sDrop, sPar, sPar3, kn, enOf, owD, sAsg, gNm, gsNil, gsCons, gTp, sApp, sIns, sExt, sClr, sRev, sPut, sFrz, owAt, fin, st, iRng, iRngB, iSeq, lstD, tupD, sFor, dLc, dDc, wipeE, tYesD, dIndex, dSort, dDictZip, dMeth, dFld, dMk, List.map_cons, List.map_nil, List.length_cons, List.length_nil, List.replicate_succ, List.replicate_zero, List.cons_append, List.nil_append, List.append_nil, List.getElem?_cons_zero, List.getElem?_cons_succ, List.set_cons_zero, List.set_cons_succ, Option.bind_some, Option.map_some, Nat.reduceSub, Nat.reduceAdd, kwP, List.getD_cons_zero, List.getD_cons_succ, l1]
  refine seq_ss he ?_
  refine loop_all Sc.d ps (fun pre env => ∃ e4, env = [.fz (deskD C (aftW us pre)), .fz d, .fz e, .fz (.lst ((aftO zs pre).map D.str)), e4]) ⟨_, rfl⟩ (fun pre s post env ee h k hk => ?_) (fun env h => ?_)
  · obtain ⟨e4, rfl⟩ := h
    have sp : s.isRp = false ∧ Rt (nms us) s := pp s (by rw [ee]; simp)
    have pq : Plain (nms us) pre := fun t ht => pp t (by rw [ee]; exact List.mem_append_left _ ht)
    have K1 := K.aft pq
    have aw : aftW us (pre ++ [s]) = stW (aftW us pre) s := by unfold aftW; rw [List.foldl_append]; rfl
    have ao : aftO zs (pre ++ [s]) = stO (aftO zs pre) s := by unfold aftO; rw [List.foldl_append]; rfl
    have lo : (aftO zs pre).length ≤ 1000 := by rw [(aftO_perm pre zs).length_eq]; exact hl
    cases s with
    | mv up ns =>
      have x0 : bIx (Sc.mv up ns).d (.int 0) = some (.str (Sc.mv up ns).word) := by rw [mv_d]; exact bIx_tp (j := 0) rfl
      have wp := word_pl (.mv up ns)
      simp only [dC, dV, dB, dO2, ob_some, dT, dAndT, dOrT, dNotT, dIf, dAndV, dOrV, dNotV, dChain, aNil, aCons, dTup, dLst, dCut, oNone, oSome, dRev, dNeg, dTru, dCa, dIs, dIsA, dCall, dCallK, sNil, sSeq, sNever, sBrk, sCont, sIf, sRet, sRetO, sRetE, sSet, sSetO, sDrop, sPar, sPar3, kn, enOf, owD, sAsg, gNm, gsNil, gsCons, gTp, sApp, sIns, sExt, sClr, sRev, sPut, sFrz, owAt, fin, st, iRng, iRngB, iSeq, lstD, tupD, sFor, dLc, dDc, wipeE, tYesD, dIndex, dSort, dDictZip, dMeth, dFld, dMk, List.map_cons, List.map_nil, List.length_cons, List.length_nil, List.replicate_succ, List.replicate_zero, List.cons_append, List.nil_append, List.append_nil, List.getElem?_cons_zero, List.getElem?_cons_succ, List.set_cons_zero, List.set_cons_succ, Option.bind_some, Option.map_some, Nat.reduceSub, Nat.reduceAdd, kwP, List.getD_cons_zero, List.getD_cons_succ, x0, bEq_s, wp, Sc.isMv, Sc.isRp, Bool.not_true, Bool.false_and, Bool.false_eq_true, if_false]
      refine ⟨_, up, ns, rfl, lo, hk _ ⟨.fz (Sc.mv up ns).d, ?_⟩⟩
      rw [aw, ao]
      rfl
    | pl n r =>
      have ed : (Sc.pl n r).d = .tup [.str "place", .str n, rectD r] := rfl
      have x0 : bIx (.tup [.str "place", .str n, rectD r]) (.int 0) = some (.str "place") := bIx_tp (j := 0) rfl
      have x1 : bIx (.tup [.str "place", .str n, rectD r]) (.int 1) = some (.str n) := bIx_tp (j := 1) rfl
      have x2 : bIx (.tup [.str "place", .str n, rectD r]) (.int 2) = some (rectD r) := bIx_tp (j := 2) rfl
      cases sp.2 with
      | pl h1 h2 =>
        simp only [ed, dC, dV, dB, dO2, ob_some, dT, dAndT, dOrT, dNotT, dIf, dAndV, dOrV, dNotV, dChain, aNil, aCons, dTup, dLst, dCut, oNone, oSome, dRev, dNeg, dTru, dCa, dIs, dIsA, dCall, dCallK, sNil, sSeq, sNever, sBrk, sCont, sIf, sRet, sRetO, sRetE, sSet, sSetO, sDrop, sPar, sPar3, kn, enOf, owD, sAsg, gNm, gsNil, gsCons, gTp, sApp, sIns, sExt, sClr, sRev, sPut, sFrz, owAt, fin, st, iRng, iRngB, iSeq, lstD, tupD, sFor, dLc, dDc, wipeE, tYesD, dIndex, dSort, dDictZip, dMeth, dFld, dMk, List.map_cons, List.map_nil, List.length_cons, List.length_nil, List.replicate_succ, List.replicate_zero, List.cons_append, List.nil_append, List.append_nil, List.getElem?_cons_zero, List.getElem?_cons_succ, List.set_cons_zero, List.set_cons_succ, Option.bind_some, Option.map_some, Nat.reduceSub, Nat.reduceAdd, kwP, List.getD_cons_zero, List.getD_cons_succ, x0, x1, x2, bEq_s, decide_true, if_true, deskD, no_m hn]
        refine ⟨trivial, trivial, aftW us pre, n, r, rfl, K1, by rw [nms_aft]; exact h1, h2, hk _ ⟨.fz (.tup [.str "place", .str n, rectD r]), ?_⟩⟩
        rw [aw, ao]
        rfl
    | rp c ts => cases sp.1
  · obtain ⟨e4, rfl⟩ := h
    simp only [dC, dV, dB, dO2, ob_some, dT, dAndT, dOrT, dNotT, dIf, dAndV, dOrV, dNotV, dChain, aNil, aCons, dTup, dLst, dCut, oNone, oSome, dRev, dNeg, dTru, dCa, dIs, dIsA, dCall, dCallK, sNil, sSeq, sNever, sBrk, sCont, sIf, sRet, sRetO, sRetE, sSet, sSetO, sDrop, sPar, sPar3, kn, enOf, owD, sAsg, gNm, gsNil, gsCons, gTp, sApp, sIns, sExt, sClr, sRev, sPut, sFrz, owAt, fin, st, iRng, iRngB, iSeq, lstD, tupD, sFor, dLc, dDc, wipeE, tYesD, dIndex, dSort, dDictZip, dMeth, dFld, dMk, List.map_cons, List.map_nil, List.length_cons, List.length_nil, List.replicate_succ, List.replicate_zero, List.cons_append, List.nil_append, List.append_nil, List.getElem?_cons_zero, List.getElem?_cons_succ, List.set_cons_zero, List.set_cons_succ, Option.bind_some, Option.map_some, Nat.reduceSub, Nat.reduceAdd, kwP, List.getD_cons_zero, List.getD_cons_succ]
    exact ⟨by decide, q⟩
theorem ln_run_plain {C : Addr} {ds : List D} {P : D → Prop} (h : sp_run_plain C ds P) : ds.length = 3 := by obtain ⟨_, _, _, _, _, rfl, _⟩ := h; rfl
end DL

namespace DL
open PySem PySem.Spec PyProof.Rows L2 RK
/-! ### which steps part two windows -/
def prt (s : Sc) (a b : Str) : Bool := match s with
  | .mv _ ns => decide (a ∈ ns) != decide (b ∈ ns)
  | _ => false
def pov (s : Sc) (a : Str) : Bool := match s with
  | .mv up ns => up == decide (a ∈ ns)
  | _ => false
def sp_parts : DSp := fun ds P => ∃ s a b, ds = [Sc.d s, .str a, .str b] ∧ P (.bl (prt s a b))
def d_parts : TDS := (sRet (dAndV (dO2 (bIn false) (dO2 bIx (dV 0) (dC (.int 0))) (dC (.ktp [.str "raise", .str "lower"]))) (dO2 (bEqN true) (dO2 (bIn false) (dV 1) (dO2 bIx (dV 0) (dC (.int 1)))) (dO2 (bIn false) (dV 2) (dO2 bIx (dV 0) (dC (.int 1)))))))
theorem bNe_b (a b : Bool) : bEqN true (.bl a) (.bl b) = some (.bl (a != b)) := by cases a <;> cases b <;> rfl
theorem bEq_b (a b : Bool) : bEqN false (.bl a) (.bl b) = some (.bl (a == b)) := by cases a <;> cases b <;> rfl
theorem rd_parts {ds : List D} {P : D → Prop} (h : sp_parts ds P) : d_parts (fin false P) (st 3 ds) := by
  obtain ⟨s, a, b, rfl, q⟩ := h
  obtain ⟨xs, e⟩ := s.items
  have x0 : bIx s.d (.int 0) = some (.str s.word) := by rw [e]; exact bIx_tp (j := 0) rfl
  have i0 : bIn false (.str s.word) (.ktp [.str "raise", .str "lower"]) = some (.bl s.isMv) := by
    have := bIn_ktp (neg := false) (ws := ["raise", "lower"]) s.word
    rw [Bool.false_xor] at this
    have em : decide (s.word ∈ (["raise", "lower"] : List Str)) = s.isMv := by
      rw [← word_mv, ← Bool.decide_or]
      exact decide_eq_decide.mpr (by simp)
    rw [em] at this
    exact this
  simp only [d_parts, dC, dV, dB, dO2, ob_some, dT, dAndT, dOrT, dNotT, dIf, dAndV, dOrV, dNotV, dChain, aNil, aCons, dTup, dLst, dCut, oNone, oSome, dRev, dNeg, dTru, dCa, dIs, dIsA, dCall, dCallK, sNil, sSeq, sNever, sBrk, sCont, sIf, sRet, sRetO, sRetE, sSet, sSetO, sDrop, sPar, sPar3, kn, enOf, owD, sAsg, gNm, gsNil, gsCons, gTp, sApp, sIns, sExt, sClr, sRev, sPut, sFrz, owAt, fin, st, iRng, iRngB, iSeq, lstD, tupD, sFor, dLc, dDc, wipeE, tYesD, dIndex, dSort, dDictZip, dMeth, dFld, dMk, List.map_cons, List.map_nil, List.length_cons, List.length_nil, List.replicate_succ, List.replicate_zero, List.cons_append, List.nil_append, List.append_nil, List.getElem?_cons_zero, List.getElem?_cons_succ, List.set_cons_zero, List.set_cons_succ, Option.bind_some, Option.map_some, Nat.reduceSub, Nat.reduceAdd, kwP, List.getD_cons_zero, List.getD_cons_succ, x0, i0]
  cases s with
  | mv up ns =>
    have x1 : bIx (Sc.mv up ns).d (.int 1) = some (.lst (ns.map D.str)) := by rw [mv_d]; exact bIx_tp (j := 1) rfl
    simp only [Sc.isMv, if_true, x1, ob_some, bIn_strs (.inl rfl : IsSeq (.lst (ns.map D.str)) ns), Bool.false_xor, bNe_b]
    exact q
  | pl n r =>
    simp only [Sc.isMv, Bool.false_eq_true, if_false]
    exact q
  | rp c ts =>
    simp only [Sc.isMv, Bool.false_eq_true, if_false]
    exact q
theorem ln_parts {ds : List D} {P : D → Prop} (h : sp_parts ds P) : ds.length = 3 := by obtain ⟨_, _, _, rfl, _⟩ := h; rfl
def idxP (ps : List Sc) (a b : Str) : List Nat := ((ps.zipIdx).filter fun p => prt p.1 a b).map (·.2)
def ixD (i : Nat) : D := .int ((i : Nat) : Int)
def sp_partings : DSp := fun ds P => ∃ d ps a b, ds = [d, .str a, .str b] ∧ IsSs d ps ∧ ps.length ≤ 100000 ∧ P (.lst ((idxP ps a b).map ixD))
def d_partings : TDS := (sRet (dLc (iEnu (dV 0)) (gTp 2 (gsCons (gNm 3) (gsCons (gNm 4) gsNil))) (dT (dCall sp_parts (aCons (dV 4) (aCons (dV 1) (aCons (dV 2) aNil))))) (dV 3) [3, 4]))
theorem enu_zipS {α : Type} (enc : α → D) : ∀ (l : List α) (k : Nat), enuD k (l.map enc) = (l.zipIdx k).map fun p => .tup [.int ((p.2 : Nat) : Int), enc p.1]
  | [], _ => rfl
  | z :: zs, k => by rw [List.map_cons, enuD, enu_zipS enc zs (k + 1), List.zipIdx_cons, List.map_cons]
theorem rd_partings {ds : List D} {P : D → Prop} (h : sp_partings ds P) : d_partings (fin false P) (st 5 ds) := by
  obtain ⟨d, ps, a, b, rfl, hd, hl, q⟩ := h
  have main : ∀ env : De, env = [.fz d, .fz (.str a), .fz (.str b), .no, .no] → dComp (gTp 2 (gsCons (gNm 3) (gsCons (gNm 4) gsNil))) (dT (dCall sp_parts (aCons (dV 4) (aCons (dV 1) (aCons (dV 2) aNil))))) (dV 3) P env (enuD 0 (ps.map Sc.d)) [] := fun env he => by
    subst he
    rw [enu_zipS]
    refine comp_filter (fun p : Sc × Nat => D.tup [.int ((p.2 : Nat) : Int), p.1.d]) (fun p : Sc × Nat => ixD p.2) (fun p => prt p.1 a b) ps.zipIdx [] (fun p hp Q Z h1 h2 => ?_) (by rw [List.length_zipIdx]; simp; omega) ?_
    · simp only [dC, dV, dB, dO2, ob_some, dT, dAndT, dOrT, dNotT, dIf, dAndV, dOrV, dNotV, dChain, aNil, aCons, dTup, dLst, dCut, oNone, oSome, dRev, dNeg, dTru, dCa, dIs, dIsA, dCall, dCallK, sNil, sSeq, sNever, sBrk, sCont, sIf, sRet, sRetO, sRetE, sSet, sSetO, sDrop, sPar, sPar3, kn, enOf, owD, sAsg, gNm, gsNil, gsCons, gTp, sApp, sIns, sExt, sClr, sRev, sPut, sFrz, owAt, fin, st, iRng, iRngB, iSeq, lstD, tupD, sFor, dLc, dDc, wipeE, tYesD, dIndex, dSort, dDictZip, dMeth, dFld, dMk, List.map_cons, List.map_nil, List.length_cons, List.length_nil, List.replicate_succ, List.replicate_zero, List.cons_append, List.nil_append, List.append_nil, List.getElem?_cons_zero, List.getElem?_cons_succ, List.set_cons_zero, List.set_cons_succ, Option.bind_some, Option.map_some, Nat.reduceSub, Nat.reduceAdd, kwP, List.getD_cons_zero, List.getD_cons_succ]
      refine ⟨trivial, trivial, p.1, a, b, rfl, ?_⟩
      cases hc : prt p.1 a b with
      | true => exact h1 hc
      | false => exact h2 hc
    · rw [List.nil_append]
      have e : ((ps.zipIdx).filter fun p => prt p.1 a b).map (fun p : Sc × Nat => ixD p.2) = (idxP ps a b).map ixD := by
        unfold idxP
        rw [List.map_map]
        rfl
      rw [e]
      exact q
  simp only [d_partings, dC, dV, dB, dO2, ob_some, dT, dAndT, dOrT, dNotT, dIf, dAndV, dOrV, dNotV, dChain, aNil, aCons, dTup, dLst, dCut, oNone, oSome, dRev, dNeg, dTru, dCa, dIs, dIsA, dCall, dCallK, sNil, sSeq, sNever, sBrk, sCont, sIf, sRet, sRetO, sRetE, sSet, sSetO, sDrop, sPar, sPar3, kn, enOf, owD, sAsg, gNm, gsNil, gsCons, gTp, sApp, sIns, sExt, sClr, sRev, sPut, sFrz, owAt, fin, st, iRng, iRngB, iSeq, lstD, tupD, sFor, dLc, dDc, wipeE, tYesD, dIndex, dSort, dDictZip, dMeth, dFld, dMk, List.map_cons, List.map_nil, List.length_cons, List.length_nil, List.replicate_succ, List.replicate_zero, List.cons_append, List.nil_append, List.append_nil, List.getElem?_cons_zero, List.getElem?_cons_succ, List.set_cons_zero, List.set_cons_succ, Option.bind_some, Option.map_some, Nat.reduceSub, Nat.reduceAdd, kwP, List.getD_cons_zero, List.getD_cons_succ, iEnu]
  rcases hd with rfl | rfl
  · exact .inl (main _ rfl)
  · exact .inr (main _ rfl)
theorem ln_partings {ds : List D} {P : D → Prop} (h : sp_partings ds P) : ds.length = 3 := by obtain ⟨_, _, _, _, rfl, _⟩ := h; rfl
def sp_puts_over : DSp := fun ds P => ∃ s a, ds = [Sc.d s, .str a] ∧ s.isMv = true ∧ P (.bl (pov s a))
def d_puts_over : TDS := (sRet (dO2 (bEqN false) (dO2 (bEqN false) (dO2 bIx (dV 0) (dC (.int 0))) (dC (.str "raise"))) (dO2 (bIn false) (dV 1) (dO2 bIx (dV 0) (dC (.int 1))))))
theorem rd_puts_over {ds : List D} {P : D → Prop} (h : sp_puts_over ds P) : d_puts_over (fin false P) (st 2 ds) := by
  obtain ⟨s, a, rfl, hm, q⟩ := h
  cases s with
  | mv up ns =>
    have x0 : bIx (Sc.mv up ns).d (.int 0) = some (.str (Sc.mv up ns).word) := by rw [mv_d]; exact bIx_tp (j := 0) rfl
    have x1 : bIx (Sc.mv up ns).d (.int 1) = some (.lst (ns.map D.str)) := by rw [mv_d]; exact bIx_tp (j := 1) rfl
    simp only [d_puts_over, dC, dV, dB, dO2, ob_some, dT, dAndT, dOrT, dNotT, dIf, dAndV, dOrV, dNotV, dChain, aNil, aCons, dTup, dLst, dCut, oNone, oSome, dRev, dNeg, dTru, dCa, dIs, dIsA, dCall, dCallK, sNil, sSeq, sNever, sBrk, sCont, sIf, sRet, sRetO, sRetE, sSet, sSetO, sDrop, sPar, sPar3, kn, enOf, owD, sAsg, gNm, gsNil, gsCons, gTp, sApp, sIns, sExt, sClr, sRev, sPut, sFrz, owAt, fin, st, iRng, iRngB, iSeq, lstD, tupD, sFor, dLc, dDc, wipeE, tYesD, dIndex, dSort, dDictZip, dMeth, dFld, dMk, List.map_cons, List.map_nil, List.length_cons, List.length_nil, List.replicate_succ, List.replicate_zero, List.cons_append, List.nil_append, List.append_nil, List.getElem?_cons_zero, List.getElem?_cons_succ, List.set_cons_zero, List.set_cons_succ, Option.bind_some, Option.map_some, Nat.reduceSub, Nat.reduceAdd, kwP, List.getD_cons_zero, List.getD_cons_succ, x0, x1, bEq_s, word_up, bIn_strs (.inl rfl : IsSeq (.lst (ns.map D.str)) ns), Bool.false_xor, bEq_b]
    exact q
  | _ => cases hm
theorem ln_puts_over {ds : List D} {P : D → Prop} (h : sp_puts_over ds P) : ds.length = 2 := by obtain ⟨_, _, rfl, _⟩ := h; rfl
/-- the last step that parts two windows -/
def lastP (ps : List Sc) (a b : Str) : Option Sc := (ps.filter fun s => prt s a b).getLast?
def wordP (ps : List Sc) (a b : Str) : Str := match lastP ps a b with
  | none => "left"
  | some s => if pov s a = true then "over" else "under"
theorem zip_at : ∀ (ps : List Sc) (k : Nat) (p : Sc × Nat), p ∈ ps.zipIdx k → k ≤ p.2 ∧ ps[p.2 - k]? = some p.1
  | [], _, _, h => by cases h
  | s :: ps, k, p, h => by
    rw [List.zipIdx_cons] at h
    rcases List.mem_cons.mp h with rfl | h
    · exact ⟨Nat.le_refl _, by simp⟩
    · obtain ⟨h1, h2⟩ := zip_at ps (k + 1) p h
      refine ⟨by omega, ?_⟩
      rw [show p.2 - k = (p.2 - (k + 1)) + 1 by omega, List.getElem?_cons_succ]
      exact h2
theorem filter_zip (f : Sc → Bool) : ∀ (ps : List Sc) (k : Nat), ((ps.zipIdx k).filter fun p => f p.1).map (·.1) = ps.filter f
  | [], _ => rfl
  | s :: ps, k => by
    rw [List.zipIdx_cons, List.filter_cons, List.filter_cons]
    by_cases h : f s = true
    · rw [if_pos h, if_pos h, List.map_cons, filter_zip f ps (k + 1)]
    · rw [if_neg h, if_neg h, filter_zip f ps (k + 1)]
theorem last_idx {ps : List Sc} {a b : Str} : (lastP ps a b = none ∧ idxP ps a b = []) ∨ ∃ s l i, lastP ps a b = some s ∧ idxP ps a b = l ++ [i] ∧ ps[i]? = some s ∧ prt s a b = true := by
  unfold lastP idxP
  rw [← filter_zip (fun s => prt s a b) ps 0]
  generalize hz : (ps.zipIdx).filter (fun p => prt p.1 a b) = zs
  rcases List.eq_nil_or_concat zs with h | ⟨l, p, h⟩
  · rw [h]; exact .inl ⟨rfl, rfl⟩
  · rw [List.concat_eq_append] at h
    have hm : p ∈ (ps.zipIdx).filter (fun p => prt p.1 a b) := by rw [hz, h]; simp
    obtain ⟨h1, h2⟩ := List.mem_filter.mp hm
    obtain ⟨_, h3⟩ := zip_at ps 0 p h1
    refine .inr ⟨p.1, l.map (·.2), p.2, ?_, ?_, h3, h2⟩
    · rw [h, List.map_append, List.getLast?_append]
      rfl
    · rw [h, List.map_append]
      rfl
theorem prt_mv {s : Sc} {a b : Str} (h : prt s a b = true) : s.isMv = true := by cases s <;> first | rfl | cases h
def sp_effect_word : DSp := fun ds P => ∃ ps a b, ds = [.lst (ps.map Sc.d), .str a, .str b] ∧ ps.length ≤ 100000 ∧ P (.str (wordP ps a b))
def d_effect_word : TDS := (sSeq (sSet 3 (dCall sp_partings (aCons (dV 0) (aCons (dV 1) (aCons (dV 2) aNil)))))
  (sSeq (sIf (dNotT (dTru (dV 3))) (sRet (dC (.str "left"))) sNil)
  (sRet (dIf (dT (dCall sp_puts_over (aCons (dO2 bIx (dV 0) (dO2 bIx (dV 3) (dNeg (dC (.int 1))))) (aCons (dV 1) aNil)))) (dC (.str "over")) (dC (.str "under"))))))
theorem rd_effect_word {ds : List D} {P : D → Prop} (h : sp_effect_word ds P) : d_effect_word (fin false P) (st 4 ds) := by
  obtain ⟨ps, a, b, rfl, hl, q⟩ := h
  simp only [d_effect_word, dC, dV, dB, dO2, ob_some, dT, dAndT, dOrT, dNotT, dIf, dAndV, dOrV, dNotV, dChain, aNil, aCons, dTup, dLst, dCut, oNone, oSome, dRev, dNeg, dTru, dCa, dIs, dIsA, dCall, dCallK, sNil, sSeq, sNever, sBrk, sCont, sIf, sRet, sRetO, sRetE, sSet, sSetO, sDrop, sPar, sPar3, kn, enOf, owD, sAsg, gNm, gsNil, gsCons, gTp, sApp, sIns, sExt, sClr, sRev, sPut, sFrz, owAt, fin, st, iRng, iRngB, iSeq, lstD, tupD, sFor, dLc, dDc, wipeE, tYesD, dIndex, dSort, dDictZip, dMeth, dFld, dMk, List.map_cons, List.map_nil, List.length_cons, List.length_nil, List.replicate_succ, List.replicate_zero, List.cons_append, List.nil_append, List.append_nil, List.getElem?_cons_zero, List.getElem?_cons_succ, List.set_cons_zero, List.set_cons_succ, Option.bind_some, Option.map_some, Nat.reduceSub, Nat.reduceAdd, kwP, List.getD_cons_zero, List.getD_cons_succ]
  refine ⟨_, ps, a, b, rfl, .inl rfl, hl, ?_⟩
  unfold wordP at q
  rcases last_idx (ps := ps) (a := a) (b := b) with ⟨h1, h2⟩ | ⟨s, l, i, h1, h2, h3, h4⟩
  · rw [h1] at q
    rw [h2]
    have t0 : truD (.lst (([] : List Nat).map ixD)) = some false := rfl
    simp only [t0, ob_some, Bool.not_false, if_true]
    exact q
  · rw [h1] at q
    rw [h2]
    have t1 : truD (.lst ((l ++ [i]).map ixD)) = some true := by
      rw [List.map_append]
      show some (!(l.map ixD ++ [ixD i]).isEmpty) = _
      cases l <;> rfl
    have xl : bIx (.lst ((l ++ [i]).map ixD)) (.int (-1)) = some (.int ((i : Nat) : Int)) := by
      show (atI ((l ++ [i]).map ixD) (-1)).or _ = _
      rw [List.map_append, List.map_cons, List.map_nil, atI_last]
      rfl
    have xi : bIx (.lst (ps.map Sc.d)) (.int ((i : Nat) : Int)) = some s.d := bIx_l (by rw [List.getElem?_map, h3]; rfl)
    simp only [t1, ob_some, Bool.not_true, Bool.false_eq_true, if_false, xl, xi]
    refine ⟨s, a, rfl, prt_mv h4, ?_⟩
    have q' : P (.str (if pov s a = true then "over" else "under")) := q
    cases hc : pov s a with
    | true => rw [hc] at q'; exact q'
    | false => rw [hc] at q'; exact q'
theorem ln_effect_word {ds : List D} {P : D → Prop} (h : sp_effect_word ds P) : ds.length = 3 := by obtain ⟨_, _, _, rfl, _⟩ := h; rfl
def sp_last_desk (C : Addr) : DSp := fun ds P => ∃ us d ps, ds = [deskD C us, d] ∧ IsSs d ps ∧ Plain (nms us) ps ∧ DkOk us ∧ P (deskD C (aftW us ps))
def d_last_desk (C_Desk : Addr) : TDS := (sRet (dO2 bIx (dCall (sp_run_plain C_Desk) (aCons (dV 0) (aCons (dMeth C_Desk "names" (sp_Desk_names C_Desk) (dV 0) aNil) (aCons (dV 1) aNil)))) (dC (.int 0))))
theorem rd_last_desk {C : Addr} {ds : List D} {P : D → Prop} (h : sp_last_desk C ds P) : d_last_desk C (fin false P) (st 2 ds) := by
  obtain ⟨us, d, ps, rfl, hd, pp, K, q⟩ := h
  have hn : (("names" : Str) == ("windows" : Str)) = false := by decide +kernel
  have nl : (nms us).length = us.length := List.length_map _
  have k2 := K.l2
  simp only [d_last_desk, dC, dV, dB, dO2, ob_some, dT, dAndT, dOrT, dNotT, dIf, dAndV, dOrV, dNotV, dChain, aNil, aCons, dTup, dLst, dCut, oNone, oSome, dRev, dNeg, dTru, dCa, dIs, dIsA, dCall, dCallK, sNil, sSeq, sNever, sBrk, sCont, sIf, sRet, sRetO, sRetE, sSet, sSetO, sDrop, sPar, sPar3, kn, enOf, owD, sAsg, gNm, gsNil, gsCons, gTp, sApp, sIns, sExt, sClr, sRev, sPut, sFrz, owAt, fin, st, iRng, iRngB, iSeq, lstD, tupD, sFor, dLc, dDc, wipeE, tYesD, dIndex, dSort, dDictZip, dMeth, dFld, dMk, List.map_cons, List.map_nil, List.length_cons, List.length_nil, List.replicate_succ, List.replicate_zero, List.cons_append, List.nil_append, List.append_nil, List.getElem?_cons_zero, List.getElem?_cons_succ, List.set_cons_zero, List.set_cons_succ, Option.bind_some, Option.map_some, Nat.reduceSub, Nat.reduceAdd, kwP, List.getD_cons_zero, List.getD_cons_succ, deskD, no_m hn]
  refine ⟨trivial, trivial, us, rfl, us, _, nms us, _, ps, rfl, .inl rfl, hd, by omega, pp, K, ?_⟩
  have x0 : ∀ y, bIx (.tup [deskD C (aftW us ps), y]) (.int 0) = some (deskD C (aftW us ps)) := fun y => bIx_tp (j := 0) rfl
  simp only [x0, ob_some]
  exact q
theorem ln_last_desk {C : Addr} {ds : List D} {P : D → Prop} (h : sp_last_desk C ds P) : ds.length = 2 := by obtain ⟨_, _, _, rfl, _⟩ := h; rfl
/-! ### plain steps of right scripts -/
theorem plain_fl {nm : List Str} : ∀ {n : Nat} {s : Sc}, Dp n s → Rt nm s → Plain nm s.fl := by
  intro n s h
  induction h with
  | mv => intro rt t ht; rw [Sc.fl, List.mem_singleton] at ht; rw [ht]; exact ⟨rfl, rt⟩
  | pl => intro rt t ht; rw [Sc.fl, List.mem_singleton] at ht; rw [ht]; exact ⟨rfl, rt⟩
  | rp _ ih =>
    rename_i c ss _
    intro rt t ht
    rw [Sc.fl] at ht
    split at ht
    · cases ht
    · cases rt with
      | rp _ _ _ h4 =>
        have key : ∀ ts : List Sc, (∀ s ∈ ts, s ∈ ss) → t ∈ Sc.fls ts → t.isRp = false ∧ Rt nm t := by
          intro ts
          induction ts with
          | nil => intro _ h; rw [Sc.fls] at h; cases h
          | cons s ts ih2 =>
            intro hs h
            rw [Sc.fls] at h
            rcases List.mem_append.mp h with h | h
            · exact ih s (hs s List.mem_cons_self) (h4 s (hs s List.mem_cons_self)) t h
            · exact ih2 (fun x hx => hs x (List.mem_cons_of_mem _ hx)) h
        exact key ss (fun _ h => h) ht
theorem plain_fls {nm : List Str} {n : Nat} : ∀ {ss : List Sc}, (∀ s ∈ ss, Rt nm s ∧ Dp n s) → Plain nm (Sc.fls ss)
  | [], _ => fun t ht => by rw [Sc.fls] at ht; cases ht
  | s :: ss, h => fun t ht => by
    rw [Sc.fls] at ht
    rcases List.mem_append.mp ht with ht | ht
    · exact plain_fl (h s List.mem_cons_self).2 (h s List.mem_cons_self).1 t ht
    · exact plain_fls (fun x hx => h x (List.mem_cons_of_mem _ hx)) t ht
/-- a right script -/
def RtS (nm : List Str) (ss : List Sc) : Prop := (∀ s ∈ ss, Rt nm s ∧ Dp 5 s) ∧ Sc.szs ss ≤ 400
theorem RtS.plain {nm : List Str} {ss : List Sc} (h : RtS nm ss) : Plain nm (Sc.fls ss) := plain_fls h.1
def tripD (ps : List Sc) (p : SP) : D := .tup [.str p.1, .str p.2, .str (wordP ps p.1 p.2)]
def effP (us : List Win) (ps : List Sc) : List SP := prs (ovl (aftW us ps)) (nms us)
def sp_effect (C : Addr) : DSp := fun ds P => ∃ us d ss, ds = [deskD C us, d] ∧ IsSs d ss ∧ RtS (nms us) ss ∧ DkOk us ∧ P (.lst ((effP us (Sc.fls ss)).map (tripD (Sc.fls ss))))
def d_effect (C_Desk : Addr) : TDS := (sSeq (sDrop (dCall (sp_check_script C_Desk) (aCons (dV 0) (aCons (dV 1) aNil))))
  (sSeq (sSet 2 (dCall (sp_flat 6) (aCons (dV 1) aNil)))
  (sRet (dLc (iSeq (dMeth C_Desk "pairs" (sp_Desk_pairs C_Desk) (dCall (sp_last_desk C_Desk) (aCons (dV 0) (aCons (dV 2) aNil))) aNil)) (gTp 2 (gsCons (gNm 3) (gsCons (gNm 4) gsNil))) tYesD (dTup (aCons (dV 3) (aCons (dV 4) (aCons (dCall sp_effect_word (aCons (dV 2) (aCons (dV 3) (aCons (dV 4) aNil)))) aNil)))) [3, 4]))))
theorem rd_effect {C : Addr} {ds : List D} {P : D → Prop} (h : sp_effect C ds P) : d_effect C (fin true P) (st 5 ds) := by
  obtain ⟨us, d, ss, rfl, hd, rt, K, q⟩ := h
  have hn : (("pairs" : Str) == ("windows" : Str)) = false := by decide +kernel
  have pp := rt.plain
  have K1 := K.aft pp
  have hz := rt.2
  have lf := fls_len ss
  have nl : (nms us).length ≤ 24 := by unfold nms; rw [List.length_map]; exact K.l2
  simp only [d_effect, dC, dV, dB, dO2, ob_some, dT, dAndT, dOrT, dNotT, dIf, dAndV, dOrV, dNotV, dChain, aNil, aCons, dTup, dLst, dCut, oNone, oSome, dRev, dNeg, dTru, dCa, dIs, dIsA, dCall, dCallK, sNil, sSeq, sNever, sBrk, sCont, sIf, sRet, sRetO, sRetE, sSet, sSetO, sDrop, sPar, sPar3, kn, enOf, owD, sAsg, gNm, gsNil, gsCons, gTp, sApp, sIns, sExt, sClr, sRev, sPut, sFrz, owAt, fin, st, iRng, iRngB, iSeq, lstD, tupD, sFor, dLc, dDc, wipeE, tYesD, dIndex, dSort, dDictZip, dMeth, dFld, dMk, List.map_cons, List.map_nil, List.length_cons, List.length_nil, List.replicate_succ, List.replicate_zero, List.cons_append, List.nil_append, List.append_nil, List.getElem?_cons_zero, List.getElem?_cons_succ, List.set_cons_zero, List.set_cons_succ, Option.bind_some, Option.map_some, Nat.reduceSub, Nat.reduceAdd, kwP, List.getD_cons_zero, List.getD_cons_succ]
  refine ⟨us, d, ss, rfl, hd, rt.1, rt.2, d, ss, rfl, hd, fun s hs => (rt.1 s hs).2, by omega, .inl ⟨us, _, Sc.fls ss, rfl, .inl rfl, pp, K, ?_⟩⟩
  simp only [deskD, no_m hn]
  refine ⟨trivial, trivial, aftW us (Sc.fls ss), rfl, K1.l2, K1.w.nd, ?_⟩
  simp only [lstD, ob_some]
  rw [nms_aft]
  refine comp_map pairD (tripD (Sc.fls ss)) (prs (ovl (aftW us (Sc.fls ss))) (nms us)) [] (fun p hp Q Z hQ => ?_) ?_ ?_
  · simp only [pairD, dC, dV, dB, dO2, ob_some, dT, dAndT, dOrT, dNotT, dIf, dAndV, dOrV, dNotV, dChain, aNil, aCons, dTup, dLst, dCut, oNone, oSome, dRev, dNeg, dTru, dCa, dIs, dIsA, dCall, dCallK, sNil, sSeq, sNever, sBrk, sCont, sIf, sRet, sRetO, sRetE, sSet, sSetO, sDrop, sPar, sPar3, kn, enOf, owD, sAsg, gNm, gsNil, gsCons, gTp, sApp, sIns, sExt, sClr, sRev, sPut, sFrz, owAt, fin, st, iRng, iRngB, iSeq, lstD, tupD, sFor, dLc, dDc, wipeE, tYesD, dIndex, dSort, dDictZip, dMeth, dFld, dMk, List.map_cons, List.map_nil, List.length_cons, List.length_nil, List.replicate_succ, List.replicate_zero, List.cons_append, List.nil_append, List.append_nil, List.getElem?_cons_zero, List.getElem?_cons_succ, List.set_cons_zero, List.set_cons_succ, Option.bind_some, Option.map_some, Nat.reduceSub, Nat.reduceAdd, kwP, List.getD_cons_zero, List.getD_cons_succ, if_true]
    refine ⟨trivial, trivial, Sc.fls ss, p.1, p.2, rfl, by omega, by decide, hQ⟩
  · have h1 := prs_len (ovl (aftW us (Sc.fls ss))) (nms us)
    have h2 : (nms us).length * (nms us).length ≤ 24 * 24 := Nat.mul_le_mul nl nl
    simp only [List.length_nil]
    omega
  · exact q
theorem ln_effect {C : Addr} {ds : List D} {P : D → Prop} (h : sp_effect C ds P) : ds.length = 2 := by obtain ⟨_, _, _, rfl, _⟩ := h; rfl
end DL

namespace DL
open PySem PySem.Spec PyProof.Rows L2 RK
/-! ### rectangles -/
instance decR : DecidableEq R := fun a b => decidable_of_iff (a.l = b.l ∧ a.t = b.t ∧ a.r = b.r ∧ a.b = b.b) ⟨fun ⟨h1, h2, h3, h4⟩ => by cases a; cases b; cases h1; cases h2; cases h3; cases h4; rfl, fun h => by rw [h]; exact ⟨rfl, rfl, rfl, rfl⟩⟩
theorem rect_inj {a b : R} (h : rectD a = rectD b) : a = b := by
  cases a
  cases b
  unfold rectD at h
  injection h with h
  injection h with h1 h
  injection h with h2 h
  injection h with h3 h
  injection h with h4 h
  injection h1 with h1
  injection h2 with h2
  injection h3 with h3
  injection h4 with h4
  cases h1
  cases h2
  cases h3
  cases h4
  rfl
theorem sh_rect {n : Nat} (r : R) : sh (n + 1) (rectD r) = true := by cases n <;> rfl
/-! ### plain scripts -/
theorem dp_plain {n : Nat} {s : Sc} (h : s.isRp = false) : Dp n s := by
  cases s with
  | mv => exact .mv
  | pl => exact .pl
  | rp => cases h
theorem szs_plain : ∀ {ss : List Sc}, (∀ s ∈ ss, s.isRp = false) → Sc.szs ss = ss.length
  | [], _ => rfl
  | s :: ss, h => by
    have e : s.sz = 1 := by
      have := h s List.mem_cons_self
      cases s with
      | mv => rfl
      | pl => rfl
      | rp => cases this
    rw [Sc.szs, szs_plain (fun t ht => h t (List.mem_cons_of_mem _ ht)), e, List.length_cons]
    omega
theorem fls_plain : ∀ {ss : List Sc}, (∀ s ∈ ss, s.isRp = false) → Sc.fls ss = ss
  | [], _ => by rw [Sc.fls]
  | s :: ss, h => by
    have e : s.fl = [s] := by
      have := h s List.mem_cons_self
      cases s with
      | mv => rfl
      | pl => rfl
      | rp => cases this
    rw [Sc.fls, fls_plain (fun t ht => h t (List.mem_cons_of_mem _ ht)), e]
    rfl
theorem Plain.rts {nm : List Str} {ss : List Sc} (h : Plain nm ss) (hl : ss.length ≤ 400) : RtS nm ss := ⟨fun s hs => ⟨(h s hs).2, dp_plain (h s hs).1⟩, by rw [szs_plain fun s hs => (h s hs).1]; exact hl⟩
def sp_check_plain_script (C : Addr) : DSp := fun ds P => ∃ us d ss, ds = [deskD C us, d] ∧ IsSs d ss ∧ Plain (nms us) ss ∧ ss.length ≤ 400 ∧ P .non
def d_check_plain_script (C_Desk : Addr) : TDS := (sSeq (sDrop (dCall sp_check_length (aCons (dV 1) aNil)))
  (sDrop (dCall sp_refuse_first_wrong (aCons (dLc (iSeq (dV 1)) (gNm 2) tYesD (dCall (sp_is_plain_step C_Desk) (aCons (dV 0) (aCons (dV 2) aNil))) [2]) aNil))))
theorem rd_check_plain_script {C : Addr} {ds : List D} {P : D → Prop} (h : sp_check_plain_script C ds P) : d_check_plain_script C (fin false P) (st 3 ds) := by
  obtain ⟨us, d, ss, rfl, hd, pp, hl, q⟩ := h
  simp only [d_check_plain_script, dC, dV, dB, dO2, ob_some, dT, dAndT, dOrT, dNotT, dIf, dAndV, dOrV, dNotV, dChain, aNil, aCons, dTup, dLst, dCut, oNone, oSome, dRev, dNeg, dTru, dCa, dIs, dIsA, dCall, dCallK, sNil, sSeq, sNever, sBrk, sCont, sIf, sRet, sRetO, sRetE, sSet, sSetO, sDrop, sPar, sPar3, kn, enOf, owD, sAsg, gNm, gsNil, gsCons, gTp, sApp, sIns, sExt, sClr, sRev, sPut, sFrz, owAt, fin, st, iRng, iRngB, iSeq, lstD, tupD, sFor, dLc, dDc, wipeE, tYesD, dIndex, dSort, dDictZip, dMeth, dFld, dMk, List.map_cons, List.map_nil, List.length_cons, List.length_nil, List.replicate_succ, List.replicate_zero, List.cons_append, List.nil_append, List.append_nil, List.getElem?_cons_zero, List.getElem?_cons_succ, List.set_cons_zero, List.set_cons_succ, Option.bind_some, Option.map_some, Nat.reduceSub, Nat.reduceAdd, kwP, List.getD_cons_zero, List.getD_cons_succ]
  refine ⟨d, ss, rfl, hd, fun s hs => dp_plain (pp s hs).1, by rw [szs_plain fun s hs => (pp s hs).1]; exact hl, seq_ss hd ?_⟩
  refine comp_map Sc.d (fun _ => D.bl true) ss [] (fun s hs Q Z hQ => ?_) (by simp; omega) ?_
  · simp only [dC, dV, dB, dO2, ob_some, dT, dAndT, dOrT, dNotT, dIf, dAndV, dOrV, dNotV, dChain, aNil, aCons, dTup, dLst, dCut, oNone, oSome, dRev, dNeg, dTru, dCa, dIs, dIsA, dCall, dCallK, sNil, sSeq, sNever, sBrk, sCont, sIf, sRet, sRetO, sRetE, sSet, sSetO, sDrop, sPar, sPar3, kn, enOf, owD, sAsg, gNm, gsNil, gsCons, gTp, sApp, sIns, sExt, sClr, sRev, sPut, sFrz, owAt, fin, st, iRng, iRngB, iSeq, lstD, tupD, sFor, dLc, dDc, wipeE, tYesD, dIndex, dSort, dDictZip, dMeth, dFld, dMk, List.map_cons, List.map_nil, List.length_cons, List.length_nil, List.replicate_succ, List.replicate_zero, List.cons_append, List.nil_append, List.append_nil, List.getElem?_cons_zero, List.getElem?_cons_succ, List.set_cons_zero, List.set_cons_succ, Option.bind_some, Option.map_some, Nat.reduceSub, Nat.reduceAdd, kwP, List.getD_cons_zero, List.getD_cons_succ, if_true]
    exact ⟨us, s, rfl, (pp s hs).1, (pp s hs).2, hQ⟩
  · rw [List.nil_append, List.map_const']
    exact ⟨_, rfl, trivial, q⟩
theorem ln_check_plain_script {C : Addr} {ds : List D} {P : D → Prop} (h : sp_check_plain_script C ds P) : ds.length = 2 := by obtain ⟨_, _, _, rfl, _⟩ := h; rfl
/-! ### differences -/
def mvdW (us : List Win) (a b : List Sc) : List Str := (nms us).filter fun n => !decide (look (aftW us a) n = look (aftW us b) n)
def sp_moved_windows (C : Addr) : DSp := fun ds P => ∃ us d1 a d2 b, ds = [deskD C us, d1, d2] ∧ IsSs d1 a ∧ IsSs d2 b ∧ RtS (nms us) a ∧ RtS (nms us) b ∧ DkOk us ∧ P (.lst ((mvdW us (Sc.fls a) (Sc.fls b)).map D.str))
def d_moved_windows (C_Desk : Addr) : TDS := (sSeq (sSet 3 (dCall (sp_last_desk C_Desk) (aCons (dV 0) (aCons (dCall (sp_flat 6) (aCons (dV 1) aNil)) aNil))))
  (sSeq (sSet 4 (dCall (sp_last_desk C_Desk) (aCons (dV 0) (aCons (dCall (sp_flat 6) (aCons (dV 2) aNil)) aNil))))
  (sRet (dLc (iSeq (dMeth C_Desk "names" (sp_Desk_names C_Desk) (dV 0) aNil)) (gNm 5) (dT (dO2 (bEqN true) (dMeth C_Desk "rectangle" (sp_Desk_rectangle C_Desk) (dV 3) (aCons (dV 5) aNil)) (dMeth C_Desk "rectangle" (sp_Desk_rectangle C_Desk) (dV 4) (aCons (dV 5) aNil)))) (dV 5) [5]))))
theorem rd_moved_windows {C : Addr} {ds : List D} {P : D → Prop} (h : sp_moved_windows C ds P) : d_moved_windows C (fin false P) (st 6 ds) := by
  obtain ⟨us, d1, a, d2, b, rfl, h1, h2, ra, rb, K, q⟩ := h
  have hn : (("names" : Str) == ("windows" : Str)) = false := by decide +kernel
  have hr : (("rectangle" : Str) == ("windows" : Str)) = false := by decide +kernel
  have za := ra.2
  have zb := rb.2
  have ka := K.aft ra.plain
  have kb := K.aft rb.plain
  have nl : (nms us).length ≤ 24 := by unfold nms; rw [List.length_map]; exact K.l2
  simp only [d_moved_windows, dC, dV, dB, dO2, ob_some, dT, dAndT, dOrT, dNotT, dIf, dAndV, dOrV, dNotV, dChain, aNil, aCons, dTup, dLst, dCut, oNone, oSome, dRev, dNeg, dTru, dCa, dIs, dIsA, dCall, dCallK, sNil, sSeq, sNever, sBrk, sCont, sIf, sRet, sRetO, sRetE, sSet, sSetO, sDrop, sPar, sPar3, kn, enOf, owD, sAsg, gNm, gsNil, gsCons, gTp, sApp, sIns, sExt, sClr, sRev, sPut, sFrz, owAt, fin, st, iRng, iRngB, iSeq, lstD, tupD, sFor, dLc, dDc, wipeE, tYesD, dIndex, dSort, dDictZip, dMeth, dFld, dMk, List.map_cons, List.map_nil, List.length_cons, List.length_nil, List.replicate_succ, List.replicate_zero, List.cons_append, List.nil_append, List.append_nil, List.getElem?_cons_zero, List.getElem?_cons_succ, List.set_cons_zero, List.set_cons_succ, Option.bind_some, Option.map_some, Nat.reduceSub, Nat.reduceAdd, kwP, List.getD_cons_zero, List.getD_cons_succ]
  refine ⟨d1, a, rfl, h1, fun s hs => (ra.1 s hs).2, by omega, us, _, Sc.fls a, rfl, .inl rfl, ra.plain, K, ?_⟩
  refine ⟨d2, b, rfl, h2, fun s hs => (rb.1 s hs).2, by omega, us, _, Sc.fls b, rfl, .inl rfl, rb.plain, K, ?_⟩
  simp only [deskD, no_m hn]
  refine .inl ⟨trivial, trivial, us, rfl, ?_⟩
  simp only [lstD, ob_some]
  refine comp_filter D.str D.str (fun n => !decide (look (aftW us (Sc.fls a)) n = look (aftW us (Sc.fls b)) n)) (nms us) [] (fun z hz Q Z g1 g2 => ?_) (by simp only [List.length_nil]; omega) q
  obtain ⟨r1, e1, _⟩ := look_ex ka.w.nd (z := z) (by rw [nms_aft]; exact hz)
  obtain ⟨r2, e2, _⟩ := look_ex kb.w.nd (z := z) (by rw [nms_aft]; exact hz)
  rw [e1, e2] at g1 g2
  simp only [dC, dV, dB, dO2, ob_some, dT, dAndT, dOrT, dNotT, dIf, dAndV, dOrV, dNotV, dChain, aNil, aCons, dTup, dLst, dCut, oNone, oSome, dRev, dNeg, dTru, dCa, dIs, dIsA, dCall, dCallK, sNil, sSeq, sNever, sBrk, sCont, sIf, sRet, sRetO, sRetE, sSet, sSetO, sDrop, sPar, sPar3, kn, enOf, owD, sAsg, gNm, gsNil, gsCons, gTp, sApp, sIns, sExt, sClr, sRev, sPut, sFrz, owAt, fin, st, iRng, iRngB, iSeq, lstD, tupD, sFor, dLc, dDc, wipeE, tYesD, dIndex, dSort, dDictZip, dMeth, dFld, dMk, List.map_cons, List.map_nil, List.length_cons, List.length_nil, List.replicate_succ, List.replicate_zero, List.cons_append, List.nil_append, List.append_nil, List.getElem?_cons_zero, List.getElem?_cons_succ, List.set_cons_zero, List.set_cons_succ, Option.bind_some, Option.map_some, Nat.reduceSub, Nat.reduceAdd, kwP, List.getD_cons_zero, List.getD_cons_succ, no_m hr]
  refine ⟨trivial, trivial, aftW us (Sc.fls a), z, r1, rfl, e1, trivial, trivial, aftW us (Sc.fls b), z, r2, rfl, e2, ?_⟩
  refine beq_ob (n := 1) (by decide) (sh_rect _) (sh_rect _) (fun h => ?_) (fun h => ?_)
  · exact g2 (by rw [rect_inj h]; simp)
  · exact g1 (by rw [decide_eq_false fun w => h (by rw [Option.some.inj w])]; rfl)
theorem ln_moved_windows {C : Addr} {ds : List D} {P : D → Prop} (h : sp_moved_windows C ds P) : ds.length = 3 := by obtain ⟨_, _, _, _, _, rfl, _⟩ := h; rfl
end DL

namespace DL
open PySem PySem.Spec PyProof.Rows L2 RK
/-! ### scripts that are alike have no difference -/
def Alk (us : List Win) (a b : List Sc) : Prop := aftW us a = aftW us b ∧ ∀ p ∈ effP us a, wordP a p.1 p.2 = wordP b p.1 p.2
theorem Alk.refl (us : List Win) (a : List Sc) : Alk us a a := ⟨rfl, fun _ _ => rfl⟩
theorem Alk.trans {us : List Win} {a b c : List Sc} (h : Alk us a b) (g : Alk us b c) : Alk us a c := ⟨h.1.trans g.1, fun p hp => (h.2 p hp).trans (g.2 p (by unfold effP at hp ⊢; rw [← h.1]; exact hp))⟩
def sp_pair_difference (C : Addr) : DSp := fun _ _ => False
def d_pair_difference (C_Desk : Addr) : TDS := (sSeq (sAsg (dV 1) (gTp 3 (gsCons (gNm 3) (gsCons (gNm 4) (gsCons (gNm 5) gsNil)))))
  (sSeq (sSet 6 (dIf (dT (dO2 (bEqN false) (dV 5) (dC (.str "left")))) (dO2 (bEqN false) (dV 2) (dC (.str "under"))) (dO2 (bEqN false) (dV 5) (dC (.str "over")))))
  (sSeq (sAsg (dIf (dTru (dV 6)) (dTup (aCons (dV 4) (aCons (dV 3) aNil))) (dTup (aCons (dV 3) (aCons (dV 4) aNil)))) (gTp 2 (gsCons (gNm 7) (gsCons (gNm 8) gsNil))))
  (sSeq (sSet 9 (dIf (dT (dO2 (bEqN false) (dV 2) (dC (.str "left")))) (dLst (aCons (dV 8) (aCons (dV 7) aNil))) (dLst (aCons (dV 7) (aCons (dV 8) aNil)))))
  (sRet (dTup (aCons (dC (.str "pair")) (aCons (dV 7) (aCons (dV 8) (aCons (dO2 bAdd (dV 9) (dLc (iSeq (dMeth C_Desk "names" (sp_Desk_names C_Desk) (dV 0) aNil)) (gNm 10) (dT (dO2 (bIn true) (dV 10) (dV 9))) (dV 10) [10])) aNil))))))))))
theorem rd_pair_difference {C : Addr} {ds : List D} {P : D → Prop} (h : sp_pair_difference C ds P) : d_pair_difference C (fin false P) (st 11 ds) := h.elim
theorem ln_pair_difference {C : Addr} {ds : List D} {P : D → Prop} (h : sp_pair_difference C ds P) : ds.length = 3 := h.elim
def sp_difference (C : Addr) : DSp := fun ds P => ∃ us d1 a d2 b, ds = [deskD C us, d1, d2] ∧ IsSs d1 a ∧ IsSs d2 b ∧ RtS (nms us) a ∧ RtS (nms us) b ∧ DkOk us ∧ Alk us (Sc.fls a) (Sc.fls b) ∧ P .non
def d_difference (C_Desk : Addr) : TDS := (sSeq (sSet 3 (dCall (sp_effect C_Desk) (aCons (dV 0) (aCons (dV 1) aNil))))
  (sSeq (sSet 4 (dCall (sp_effect C_Desk) (aCons (dV 0) (aCons (dV 2) aNil))))
  (sSeq (sSet 5 (dCall (sp_moved_windows C_Desk) (aCons (dV 0) (aCons (dV 1) (aCons (dV 2) aNil)))))
  (sSeq (sIf (dTru (dV 5)) (sRet (dTup (aCons (dC (.str "rectangle")) (aCons (dO2 bIx (dV 5) (dC (.int 0))) aNil)))) sNil)
  (sSeq (sFor (iZp (dV 3) (dV 4)) (gTp 2 (gsCons (gNm 6) (gsCons (gNm 7) gsNil))) (sIf (dT (dO2 (bEqN true) (dV 6) (dV 7))) (sRet (dCall (sp_pair_difference C_Desk) (aCons (dV 0) (aCons (dV 6) (aCons (dO2 bIx (dV 7) (dC (.int 2))) aNil))))) sNil))
  (sRet (dC .non)))))))
theorem word_ok (ps : List Sc) (a b : Str) : PyData.strOk (wordP ps a b) = true := by
  unfold wordP
  cases lastP ps a b with
  | none => exact (by decide +kernel : PyData.strOk "left" = true)
  | some s =>
    show PyData.strOk (if pov s a = true then "over" else "under") = true
    cases pov s a
    · exact (by decide +kernel : PyData.strOk "under" = true)
    · exact (by decide +kernel : PyData.strOk "over" = true)
theorem win_name {us : List Win} (W : WOk us) {z : Str} (h : z ∈ nms us) : NameOk z := by
  obtain ⟨w, hw, rfl⟩ := List.mem_map.mp h
  exact W.nm w hw
theorem eff_mem {us : List Win} {ps : List Sc} {p : SP} (h : p ∈ effP us ps) : p.1 ∈ nms us ∧ p.2 ∈ nms us := prs_mem _ _ _ h
theorem sh_trip {n : Nat} {us : List Win} (W : WOk us) {ps qs : List Sc} {p : SP} (h : p ∈ effP us ps) : sh (n + 1) (tripD qs p) = true := by
  have m := eff_mem h
  show (sh n (.str p.1) && (sh n (.str p.2) && (sh n (.str (wordP qs p.1 p.2)) && true))) = true
  have e1 : sh n (.str p.1) = true := by cases n <;> exact name_ok (win_name W m.1)
  have e2 : sh n (.str p.2) = true := by cases n <;> exact name_ok (win_name W m.2)
  have e3 : sh n (.str (wordP qs p.1 p.2)) = true := by cases n <;> exact word_ok _ _ _
  rw [e1, e2, e3]
  rfl
theorem zip_self {α : Type} (f : α → D) : ∀ l : List α, zipD (l.map f) (l.map f) = l.map fun p => .tup [f p, f p]
  | [] => rfl
  | p :: l => by rw [List.map_cons, zipD, zip_self f l, List.map_cons]
theorem rd_difference {C : Addr} {ds : List D} {P : D → Prop} (h : sp_difference C ds P) : d_difference C (fin false P) (st 8 ds) := by
  obtain ⟨us, d1, a, d2, b, rfl, h1, h2, ra, rb, K, ak, q⟩ := h
  have e0 : mvdW us (Sc.fls a) (Sc.fls b) = [] := by
    unfold mvdW
    rw [ak.1]
    exact List.filter_eq_nil_iff.mpr fun z _ => by simp
  have e1 : (effP us (Sc.fls b)).map (tripD (Sc.fls b)) = (effP us (Sc.fls a)).map (tripD (Sc.fls a)) := by
    have : effP us (Sc.fls b) = effP us (Sc.fls a) := by unfold effP; rw [ak.1]
    rw [this]
    refine List.map_congr_left fun p hp => ?_
    unfold tripD
    rw [ak.2 p hp]
  simp only [d_difference, dC, dV, dB, dO2, ob_some, dT, dAndT, dOrT, dNotT, dIf, dAndV, dOrV, dNotV, dChain, aNil, aCons, dTup, dLst, dCut, oNone, oSome, dRev, dNeg, dTru, dCa, dIs, dIsA, dCall, dCallK, sNil, sSeq, sNever, sBrk, sCont, sIf, sRet, sRetO, sRetE, sSet, sSetO, sDrop, sPar, sPar3, kn, enOf, owD, sAsg, gNm, gsNil, gsCons, gTp, sApp, sIns, sExt, sClr, sRev, sPut, sFrz, owAt, fin, st, iRng, iRngB, iSeq, lstD, tupD, sFor, dLc, dDc, wipeE, tYesD, dIndex, dSort, dDictZip, dMeth, dFld, dMk, List.map_cons, List.map_nil, List.length_cons, List.length_nil, List.replicate_succ, List.replicate_zero, List.cons_append, List.nil_append, List.append_nil, List.getElem?_cons_zero, List.getElem?_cons_succ, List.set_cons_zero, List.set_cons_succ, Option.bind_some, Option.map_some, Nat.reduceSub, Nat.reduceAdd, kwP, List.getD_cons_zero, List.getD_cons_succ]
  refine ⟨us, d1, a, rfl, h1, ra, K, us, d2, b, rfl, h2, rb, K, us, d1, a, d2, b, rfl, h1, h2, ra, rb, K, ?_⟩
  rw [e0, e1]
  have t0 : truD (.lst (([] : List Str).map D.str)) = some false := rfl
  simp only [t0, ob_some, Bool.false_eq_true, if_false, iZp, twoD]
  refine .inl ?_
  simp only [dC, dV, dB, dO2, ob_some, dT, dAndT, dOrT, dNotT, dIf, dAndV, dOrV, dNotV, dChain, aNil, aCons, dTup, dLst, dCut, oNone, oSome, dRev, dNeg, dTru, dCa, dIs, dIsA, dCall, dCallK, sNil, sSeq, sNever, sBrk, sCont, sIf, sRet, sRetO, sRetE, sSet, sSetO, sDrop, sPar, sPar3, kn, enOf, owD, sAsg, gNm, gsNil, gsCons, gTp, sApp, sIns, sExt, sClr, sRev, sPut, sFrz, owAt, fin, st, iRng, iRngB, iSeq, lstD, tupD, sFor, dLc, dDc, wipeE, tYesD, dIndex, dSort, dDictZip, dMeth, dFld, dMk, List.map_cons, List.map_nil, List.length_cons, List.length_nil, List.replicate_succ, List.replicate_zero, List.cons_append, List.nil_append, List.append_nil, List.getElem?_cons_zero, List.getElem?_cons_succ, List.set_cons_zero, List.set_cons_succ, Option.bind_some, Option.map_some, Nat.reduceSub, Nat.reduceAdd, kwP, List.getD_cons_zero, List.getD_cons_succ, zip_self]
  refine loop_all (fun p : SP => D.tup [tripD (Sc.fls a) p, tripD (Sc.fls a) p]) (effP us (Sc.fls a)) (fun _ env => ∃ e6 e7, env = [.fz (deskD C us), .fz d1, .fz d2, .fz (.lst ((effP us (Sc.fls a)).map (tripD (Sc.fls a)))), .fz (.lst ((effP us (Sc.fls a)).map (tripD (Sc.fls a)))), .fz (.lst (([] : List Str).map D.str)), e6, e7]) ⟨_, _, rfl⟩ (fun pre p post env e h k hk => ?_) (fun env h => ?_)
  · obtain ⟨e6, e7, rfl⟩ := h
    have hp : p ∈ effP us (Sc.fls a) := by rw [e]; simp
    simp only [dC, dV, dB, dO2, ob_some, dT, dAndT, dOrT, dNotT, dIf, dAndV, dOrV, dNotV, dChain, aNil, aCons, dTup, dLst, dCut, oNone, oSome, dRev, dNeg, dTru, dCa, dIs, dIsA, dCall, dCallK, sNil, sSeq, sNever, sBrk, sCont, sIf, sRet, sRetO, sRetE, sSet, sSetO, sDrop, sPar, sPar3, kn, enOf, owD, sAsg, gNm, gsNil, gsCons, gTp, sApp, sIns, sExt, sClr, sRev, sPut, sFrz, owAt, fin, st, iRng, iRngB, iSeq, lstD, tupD, sFor, dLc, dDc, wipeE, tYesD, dIndex, dSort, dDictZip, dMeth, dFld, dMk, List.map_cons, List.map_nil, List.length_cons, List.length_nil, List.replicate_succ, List.replicate_zero, List.cons_append, List.nil_append, List.append_nil, List.getElem?_cons_zero, List.getElem?_cons_succ, List.set_cons_zero, List.set_cons_succ, Option.bind_some, Option.map_some, Nat.reduceSub, Nat.reduceAdd, kwP, List.getD_cons_zero, List.getD_cons_succ]
    refine ⟨trivial, trivial, ?_⟩
    refine beq_ob (n := 1) (by decide) (sh_trip K.w hp) (sh_trip K.w hp) (fun _ => ?_) (fun h => (h rfl).elim)
    simp only [Bool.not_true, Bool.false_eq_true, if_false]
    exact hk _ ⟨_, _, rfl⟩
  · obtain ⟨e6, e7, rfl⟩ := h
    simp only [dC, dV, dB, dO2, ob_some, dT, dAndT, dOrT, dNotT, dIf, dAndV, dOrV, dNotV, dChain, aNil, aCons, dTup, dLst, dCut, oNone, oSome, dRev, dNeg, dTru, dCa, dIs, dIsA, dCall, dCallK, sNil, sSeq, sNever, sBrk, sCont, sIf, sRet, sRetO, sRetE, sSet, sSetO, sDrop, sPar, sPar3, kn, enOf, owD, sAsg, gNm, gsNil, gsCons, gTp, sApp, sIns, sExt, sClr, sRev, sPut, sFrz, owAt, fin, st, iRng, iRngB, iSeq, lstD, tupD, sFor, dLc, dDc, wipeE, tYesD, dIndex, dSort, dDictZip, dMeth, dFld, dMk, List.map_cons, List.map_nil, List.length_cons, List.length_nil, List.replicate_succ, List.replicate_zero, List.cons_append, List.nil_append, List.append_nil, List.getElem?_cons_zero, List.getElem?_cons_succ, List.set_cons_zero, List.set_cons_succ, Option.bind_some, Option.map_some, Nat.reduceSub, Nat.reduceAdd, kwP, List.getD_cons_zero, List.getD_cons_succ]
    exact q
theorem ln_difference {C : Addr} {ds : List D} {P : D → Prop} (h : sp_difference C ds P) : ds.length = 3 := by obtain ⟨_, _, _, _, _, rfl, _⟩ := h; rfl
end DL

namespace DL
open PySem PySem.Spec PyProof.Rows L2 RK
/-! ### idle steps -/
def isPl (n : Str) : Sc → Bool
  | .pl m _ => decide (m = n)
  | _ => false
def rcOf : Sc → R
  | .pl _ r => r
  | _ => ⟨0, 0, 0, 0⟩
def zf (f : Sc → Bool) (ss : List Sc) : List (Sc × Nat) := (ss.zipIdx).filter fun p => f p.1
def ndZ {β : Type} [DecidableEq β] (init : Option β) (g : Sc → β) (zs : List (Sc × Nat)) : List Nat := match zs.getLast? with
  | none => []
  | some p => if some (g p.1) = ((zs.dropLast.getLast?).map fun q => g q.1).or init then [] else [p.2]
theorem ndZ_snoc {β : Type} [DecidableEq β] (init : Option β) (g : Sc → β) (l : List (Sc × Nat)) (p : Sc × Nat) : ndZ init g (l ++ [p]) = if some (g p.1) = ((l.getLast?).map fun q => g q.1).or init then [] else [p.2] := by
  unfold ndZ
  rw [List.getLast?_append, List.dropLast_concat]
  rfl
theorem ndZ_len {β : Type} [DecidableEq β] (init : Option β) (g : Sc → β) (zs : List (Sc × Nat)) : (ndZ init g zs).length ≤ 1 := by
  unfold ndZ
  split
  · exact Nat.zero_le _
  · split
    · exact Nat.zero_le _
    · exact Nat.le_refl _
def ndP (us : List Win) (ss : List Sc) (ns : List Str) : List Nat := ns.flatMap fun n => ndZ (look us n) rcOf (zf (isPl n) ss)
def ndM (ss : List Sc) (ps : List SP) : List Nat := ps.flatMap fun p => ndZ none (fun s => pov s p.1) (zf (fun s => prt s p.1 p.2) ss)
theorem flat_len {α : Type} {f : α → List Nat} (h : ∀ a, (f a).length ≤ 1) : ∀ l : List α, (l.flatMap f).length ≤ l.length
  | [] => Nat.le_refl _
  | a :: l => by
    rw [List.flatMap_cons, List.length_append, List.length_cons]
    have := h a
    have := flat_len h l
    omega
theorem enu_ss {d : D} {ss : List Sc} {g : TDG} {tt : TDT} {te : TDE} {P : D → Prop} {env : De} (h : IsSs d ss) (q : dComp g tt te P env (enuD 0 (ss.map Sc.d)) []) : (ob (lstD d) fun xs => dComp g tt te P env (enuD 0 xs) []) ∨ (ob (tupD d) fun xs => dComp g tt te P env (enuD 0 xs) []) := by
  rcases h with rfl | rfl
  · exact .inl q
  · exact .inr q
theorem ix_ss {d : D} {ss : List Sc} (h : IsSs d ss) {i : Nat} {s : Sc} (e : ss[i]? = some s) : bIx d (.int ((i : Nat) : Int)) = some s.d := by
  rcases h with rfl | rfl
  · exact bIx_l (by rw [List.getElem?_map, e]; rfl)
  · exact bIx_tp (by rw [List.getElem?_map, e]; rfl)
theorem atI_2 {α : Type} (xs : List α) (w v : α) : atI (xs ++ [w, v]) (-2) = some w := by
  have hl : (xs ++ [w, v]).length = xs.length + 2 := by simp
  have e : ixN (xs ++ [w, v]).length (-2) = some xs.length := by
    unfold ixN
    rw [hl, if_neg (by decide), if_pos (by omega)]
    congr 1
    omega
  unfold atI
  rw [e]
  simp
theorem snd_last (r0 : R) (l : List (Sc × Nat)) (v : D) : ∃ r, bIx (.lst ((rectD r0 :: l.map fun p => rectD (rcOf p.1)) ++ [v])) (.int (-2)) = some (rectD r) ∧ some r = ((l.getLast?).map fun q => rcOf q.1).or (some r0) := by
  rcases List.eq_nil_or_concat l with h | ⟨l', p, h⟩
  · subst h
    exact ⟨r0, by show (atI ([] ++ [rectD r0, v]) (-2)).or _ = _; rw [atI_2]; rfl, rfl⟩
  · rw [List.concat_eq_append] at h
    subst h
    refine ⟨rcOf p.1, ?_, by rw [List.getLast?_append]; rfl⟩
    have e : (rectD r0 :: (l' ++ [p]).map fun p => rectD (rcOf p.1)) ++ [v] = (rectD r0 :: l'.map fun p => rectD (rcOf p.1)) ++ [rectD (rcOf p.1), v] := by simp
    rw [e]
    show (atI _ (-2)).or _ = _
    rw [atI_2]
    rfl
theorem zf_at {f : Sc → Bool} {ss : List Sc} {p : Sc × Nat} (h : p ∈ zf f ss) : ss[p.2]? = some p.1 ∧ f p.1 = true := by
  obtain ⟨h1, h2⟩ := List.mem_filter.mp h
  have := (zip_at ss 0 p h1).2
  exact ⟨this, h2⟩
theorem zf_len (f : Sc → Bool) (ss : List Sc) : (zf f ss).length ≤ ss.length := by
  have := List.length_filter_le (fun p : Sc × Nat => f p.1) ss.zipIdx
  rw [List.length_zipIdx] at this
  exact this
def sp_needed_places (C : Addr) : DSp := fun ds P => ∃ us d ss, ds = [deskD C us, d] ∧ IsSs d ss ∧ Plain (nms us) ss ∧ ss.length ≤ 400 ∧ DkOk us ∧ P (.lst ((ndP us ss (nms us)).map ixD))
def d_needed_places (C_Desk : Addr) : TDS := (sSeq (sSetO 2 (dLst aNil))
  (sSeq (sFor (iSeq (dMeth C_Desk "names" (sp_Desk_names C_Desk) (dV 0) aNil)) (gNm 3) (sSeq (sSet 4 (dLc (iEnu (dV 1)) (gTp 2 (gsCons (gNm 6) (gsCons (gNm 7) gsNil))) (dAndT (dT (dO2 (bEqN false) (dO2 bIx (dV 7) (dC (.int 0))) (dC (.str "place")))) (dT (dO2 (bEqN false) (dO2 bIx (dV 7) (dC (.int 1))) (dV 3)))) (dV 6) [6, 7]))
  (sSeq (sSet 5 (dO2 bAdd (dLst (aCons (dMeth C_Desk "rectangle" (sp_Desk_rectangle C_Desk) (dV 0) (aCons (dV 3) aNil)) aNil)) (dLc (iSeq (dV 4)) (gNm 6) tYesD (dO2 bIx (dO2 bIx (dV 1) (dV 6)) (dC (.int 2))) [6])))
  (sIf (dAndT (dTru (dV 4)) (dT (dO2 (bEqN true) (dO2 bIx (dV 5) (dNeg (dC (.int 1)))) (dO2 bIx (dV 5) (dNeg (dC (.int 2))))))) (sApp 2 (dO2 bIx (dV 4) (dNeg (dC (.int 1))))) sNil))))
  (sRetO 2)))
theorem rd_needed_places {C : Addr} {ds : List D} {P : D → Prop} (h : sp_needed_places C ds P) : d_needed_places C (fin false P) (st 8 ds) := by
  obtain ⟨us, d, ss, rfl, hd, pp, hl, K, q⟩ := h
  have hn : (("names" : Str) == ("windows" : Str)) = false := by decide +kernel
  have hr : (("rectangle" : Str) == ("windows" : Str)) = false := by decide +kernel
  have nl : (nms us).length ≤ 24 := by unfold nms; rw [List.length_map]; exact K.l2
  simp only [d_needed_places, dC, dV, dB, dO2, ob_some, dT, dAndT, dOrT, dNotT, dIf, dAndV, dOrV, dNotV, dChain, aNil, aCons, dTup, dLst, dCut, oNone, oSome, dRev, dNeg, dTru, dCa, dIs, dIsA, dCall, dCallK, sNil, sSeq, sNever, sBrk, sCont, sIf, sRet, sRetO, sRetE, sSet, sSetO, sDrop, sPar, sPar3, kn, enOf, owD, sAsg, gNm, gsNil, gsCons, gTp, sApp, sIns, sExt, sClr, sRev, sPut, sFrz, owAt, fin, st, iRng, iRngB, iSeq, lstD, tupD, sFor, dLc, dDc, wipeE, tYesD, dIndex, dSort, dDictZip, dMeth, dFld, dMk, List.map_cons, List.map_nil, List.length_cons, List.length_nil, List.replicate_succ, List.replicate_zero, List.cons_append, List.nil_append, List.append_nil, List.getElem?_cons_zero, List.getElem?_cons_succ, List.set_cons_zero, List.set_cons_succ, Option.bind_some, Option.map_some, Nat.reduceSub, Nat.reduceAdd, kwP, List.getD_cons_zero, List.getD_cons_succ, deskD, no_m hn]
  refine ⟨by decide, .inl ⟨trivial, trivial, us, rfl, ?_⟩⟩
  simp only [ob_some]
  refine loop_all D.str (nms us) (fun pre env => ∃ e3 e4 e5 e6 e7, env = [.fz (deskD C us), .fz d, .ow ((ndP us ss pre).map ixD), e3, e4, e5, e6, e7]) ⟨_, _, _, _, _, rfl⟩ (fun pre z post env e h k hk => ?_) (fun env h => ?_)
  · obtain ⟨e3, e4, e5, e6, e7, rfl⟩ := h
    have hz : z ∈ nms us := by rw [e]; simp
    obtain ⟨r0, er, _⟩ := look_ex K.w.nd hz
    have hap : ndP us ss (pre ++ [z]) = ndP us ss pre ++ ndZ (look us z) rcOf (zf (isPl z) ss) := by
      unfold ndP
      rw [List.flatMap_append, List.flatMap_cons, List.flatMap_nil, List.append_nil]
    have lz := zf_len (isPl z) ss
    have ln : (ndP us ss pre).length ≤ 24 := by
      have h1 := flat_len (f := fun n => ndZ (look us n) rcOf (zf (isPl n) ss)) (fun n => ndZ_len _ _ _) pre
      have h2 := congrArg List.length e
      rw [List.length_append, List.length_cons] at h2
      unfold ndP
      omega
    simp only [dC, dV, dB, dO2, ob_some, dT, dAndT, dOrT, dNotT, dIf, dAndV, dOrV, dNotV, dChain, aNil, aCons, dTup, dLst, dCut, oNone, oSome, dRev, dNeg, dTru, dCa, dIs, dIsA, dCall, dCallK, sNil, sSeq, sNever, sBrk, sCont, sIf, sRet, sRetO, sRetE, sSet, sSetO, sDrop, sPar, sPar3, kn, enOf, owD, sAsg, gNm, gsNil, gsCons, gTp, sApp, sIns, sExt, sClr, sRev, sPut, sFrz, owAt, fin, st, iRng, iRngB, iSeq, lstD, tupD, sFor, dLc, dDc, wipeE, tYesD, dIndex, dSort, dDictZip, dMeth, dFld, dMk, List.map_cons, List.map_nil, List.length_cons, List.length_nil, List.replicate_succ, List.replicate_zero, List.cons_append, List.nil_append, List.append_nil, List.getElem?_cons_zero, List.getElem?_cons_succ, List.set_cons_zero, List.set_cons_succ, Option.bind_some, Option.map_some, Nat.reduceSub, Nat.reduceAdd, kwP, List.getD_cons_zero, List.getD_cons_succ, iEnu]
    refine enu_ss hd ?_
    rw [enu_zipS]
    refine comp_filter (fun p : Sc × Nat => D.tup [.int ((p.2 : Nat) : Int), p.1.d]) (fun p : Sc × Nat => ixD p.2) (fun p => isPl z p.1) ss.zipIdx [] (fun p hp Q Z h1 h2 => ?_) (by rw [List.length_zipIdx]; simp only [List.length_nil]; omega) ?_
    · simp only [dC, dV, dB, dO2, ob_some, dT, dAndT, dOrT, dNotT, dIf, dAndV, dOrV, dNotV, dChain, aNil, aCons, dTup, dLst, dCut, oNone, oSome, dRev, dNeg, dTru, dCa, dIs, dIsA, dCall, dCallK, sNil, sSeq, sNever, sBrk, sCont, sIf, sRet, sRetO, sRetE, sSet, sSetO, sDrop, sPar, sPar3, kn, enOf, owD, sAsg, gNm, gsNil, gsCons, gTp, sApp, sIns, sExt, sClr, sRev, sPut, sFrz, owAt, fin, st, iRng, iRngB, iSeq, lstD, tupD, sFor, dLc, dDc, wipeE, tYesD, dIndex, dSort, dDictZip, dMeth, dFld, dMk, List.map_cons, List.map_nil, List.length_cons, List.length_nil, List.replicate_succ, List.replicate_zero, List.cons_append, List.nil_append, List.append_nil, List.getElem?_cons_zero, List.getElem?_cons_succ, List.set_cons_zero, List.set_cons_succ, Option.bind_some, Option.map_some, Nat.reduceSub, Nat.reduceAdd, kwP, List.getD_cons_zero, List.getD_cons_succ]
      refine ⟨trivial, trivial, ?_⟩
      obtain ⟨s, j⟩ := p
      have hs : s ∈ ss := by
        have := (zip_at ss 0 _ hp).2
        exact List.mem_of_getElem? this
      cases s with
      | mv up ns =>
        have x0 : bIx (Sc.mv up ns).d (.int 0) = some (.str (Sc.mv up ns).word) := by rw [mv_d]; exact bIx_tp (j := 0) rfl
        have wp := word_pl (.mv up ns)
        simp only [x0, bEq_s, wp, Sc.isMv, Sc.isRp, Bool.not_true, Bool.false_and, ob_some, Bool.false_eq_true, if_false]
        exact h2 rfl
      | pl n r =>
        have ed : (Sc.pl n r).d = .tup [.str "place", .str n, rectD r] := rfl
        have x0 : bIx (.tup [.str "place", .str n, rectD r]) (.int 0) = some (.str "place") := bIx_tp (j := 0) rfl
        have x1 : bIx (.tup [.str "place", .str n, rectD r]) (.int 1) = some (.str n) := bIx_tp (j := 1) rfl
        simp only [ed, x0, x1, bEq_s, decide_true, if_true, ob_some]
        cases hc : decide (n = z) with
        | true => exact h1 hc
        | false => exact h2 hc
      | rp c ts => cases (pp _ hs).1
    · rw [List.nil_append]
      show _
      simp only [dC, dV, dB, dO2, ob_some, dT, dAndT, dOrT, dNotT, dIf, dAndV, dOrV, dNotV, dChain, aNil, aCons, dTup, dLst, dCut, oNone, oSome, dRev, dNeg, dTru, dCa, dIs, dIsA, dCall, dCallK, sNil, sSeq, sNever, sBrk, sCont, sIf, sRet, sRetO, sRetE, sSet, sSetO, sDrop, sPar, sPar3, kn, enOf, owD, sAsg, gNm, gsNil, gsCons, gTp, sApp, sIns, sExt, sClr, sRev, sPut, sFrz, owAt, fin, st, iRng, iRngB, iSeq, lstD, tupD, sFor, dLc, dDc, wipeE, tYesD, dIndex, dSort, dDictZip, dMeth, dFld, dMk, List.map_cons, List.map_nil, List.length_cons, List.length_nil, List.replicate_succ, List.replicate_zero, List.cons_append, List.nil_append, List.append_nil, List.getElem?_cons_zero, List.getElem?_cons_succ, List.set_cons_zero, List.set_cons_succ, Option.bind_some, Option.map_some, Nat.reduceSub, Nat.reduceAdd, kwP, List.getD_cons_zero, List.getD_cons_succ, deskD, no_m hr]
      refine ⟨trivial, trivial, us, z, r0, rfl, er, by decide, .inl ?_⟩
      refine comp_map (fun p : Sc × Nat => ixD p.2) (fun p => rectD (rcOf p.1)) (zf (isPl z) ss) [] (fun p hp Q Z hQ => ?_) (by simp only [List.length_nil]; omega) ?_
      · obtain ⟨g1, g2⟩ := zf_at hp
        obtain ⟨s, j⟩ := p
        cases s with
        | pl n r =>
          have x1 : bIx d (.int ((j : Nat) : Int)) = some (Sc.pl n r).d := ix_ss hd g1
          have x2 : bIx (Sc.pl n r).d (.int 2) = some (rectD r) := bIx_tp (j := 2) rfl
          simp only [ixD, dC, dV, dB, dO2, ob_some, dT, dAndT, dOrT, dNotT, dIf, dAndV, dOrV, dNotV, dChain, aNil, aCons, dTup, dLst, dCut, oNone, oSome, dRev, dNeg, dTru, dCa, dIs, dIsA, dCall, dCallK, sNil, sSeq, sNever, sBrk, sCont, sIf, sRet, sRetO, sRetE, sSet, sSetO, sDrop, sPar, sPar3, kn, enOf, owD, sAsg, gNm, gsNil, gsCons, gTp, sApp, sIns, sExt, sClr, sRev, sPut, sFrz, owAt, fin, st, iRng, iRngB, iSeq, lstD, tupD, sFor, dLc, dDc, wipeE, tYesD, dIndex, dSort, dDictZip, dMeth, dFld, dMk, List.map_cons, List.map_nil, List.length_cons, List.length_nil, List.replicate_succ, List.replicate_zero, List.cons_append, List.nil_append, List.append_nil, List.getElem?_cons_zero, List.getElem?_cons_succ, List.set_cons_zero, List.set_cons_succ, Option.bind_some, Option.map_some, Nat.reduceSub, Nat.reduceAdd, kwP, List.getD_cons_zero, List.getD_cons_succ, x1, x2, if_true]
          exact hQ
        | _ => cases g2
      · rw [List.nil_append, bAdd_l (by simp only [List.length_cons, List.length_nil, List.length_map]; omega)]
        simp only [ob_some]
        have ez : (List.filter (fun p : Sc × Nat => isPl z p.1) ss.zipIdx) = zf (isPl z) ss := rfl
        rw [ez]
        rcases List.eq_nil_or_concat (zf (isPl z) ss) with hc | ⟨l, p, hc⟩
        · rw [hc] at hap ⊢
          have t0 : truD (.lst (([] : List (Sc × Nat)).map fun p => ixD p.2)) = some false := rfl
          simp only [t0, ob_some, Bool.false_eq_true, if_false]
          have h0 : ndP us ss (pre ++ [z]) = ndP us ss pre := by rw [hap]; exact List.append_nil _
          rw [h0] at hk
          exact hk _ ⟨_, _, _, _, _, rfl⟩
        · rw [List.concat_eq_append] at hc
          rw [hc, ndZ_snoc, er] at hap
          rw [hc]
          have t1 : truD (.lst ((l ++ [p]).map fun p => ixD p.2)) = some true := by
            rw [List.map_append]
            show some (!((l.map fun p => ixD p.2) ++ [ixD p.2]).isEmpty) = _
            cases l <;> rfl
          have ea : [rectD r0] ++ ((l ++ [p]).map fun p => rectD (rcOf p.1)) = (rectD r0 :: l.map fun p => rectD (rcOf p.1)) ++ [rectD (rcOf p.1)] := by simp
          obtain ⟨r2, y2, y3⟩ := snd_last r0 l (rectD (rcOf p.1))
          have y1 : bIx (.lst ((rectD r0 :: l.map fun p => rectD (rcOf p.1)) ++ [rectD (rcOf p.1)])) (.int (-1)) = some (rectD (rcOf p.1)) := by
            show (atI _ (-1)).or _ = _
            rw [atI_last]
            rfl
          have y4 : bIx (.lst ((l ++ [p]).map fun p => ixD p.2)) (.int (-1)) = some (ixD p.2) := by
            show (atI _ (-1)).or _ = _
            rw [List.map_append, List.map_cons, List.map_nil, atI_last]
            rfl
          rw [ea]
          simp only [t1, ob_some, if_true, y1, y2, y4]
          refine beq_ob (n := 1) (by decide) (sh_rect _) (sh_rect _) (fun h => ?_) (fun h => ?_)
          · simp only [Bool.not_true, Bool.false_eq_true, if_false]
            rw [if_pos (by rw [← y3, rect_inj h]), List.append_nil] at hap
            rw [hap] at hk
            exact hk _ ⟨_, _, _, _, _, rfl⟩
          · simp only [if_true]
            rw [if_neg (by rw [← y3]; exact fun w => h (by rw [Option.some.inj w]))] at hap
            rw [hap, List.map_append] at hk
            exact ⟨by rw [List.length_map]; exact szM (by omega), hk _ ⟨_, _, _, _, _, rfl⟩⟩
  · obtain ⟨e3, e4, e5, e6, e7, rfl⟩ := h
    simp only [dC, dV, dB, dO2, ob_some, dT, dAndT, dOrT, dNotT, dIf, dAndV, dOrV, dNotV, dChain, aNil, aCons, dTup, dLst, dCut, oNone, oSome, dRev, dNeg, dTru, dCa, dIs, dIsA, dCall, dCallK, sNil, sSeq, sNever, sBrk, sCont, sIf, sRet, sRetO, sRetE, sSet, sSetO, sDrop, sPar, sPar3, kn, enOf, owD, sAsg, gNm, gsNil, gsCons, gTp, sApp, sIns, sExt, sClr, sRev, sPut, sFrz, owAt, fin, st, iRng, iRngB, iSeq, lstD, tupD, sFor, dLc, dDc, wipeE, tYesD, dIndex, dSort, dDictZip, dMeth, dFld, dMk, List.map_cons, List.map_nil, List.length_cons, List.length_nil, List.replicate_succ, List.replicate_zero, List.cons_append, List.nil_append, List.append_nil, List.getElem?_cons_zero, List.getElem?_cons_succ, List.set_cons_zero, List.set_cons_succ, Option.bind_some, Option.map_some, Nat.reduceSub, Nat.reduceAdd, kwP, List.getD_cons_zero, List.getD_cons_succ]
    exact q
theorem ln_needed_places {C : Addr} {ds : List D} {P : D → Prop} (h : sp_needed_places C ds P) : ds.length = 2 := by obtain ⟨_, _, _, rfl, _⟩ := h; rfl
end DL

namespace DL
open PySem PySem.Spec PyProof.Rows L2 RK
theorem cut_1 (xs : List D) (v : D) : cutA (.lst (xs ++ [v])) (some (-1)) none = some (.lst [v]) := by
  show some (D.lst (cutD _ _ _)) = _
  unfold cutD
  have h1 : HT.sIx (xs ++ [v]).length 0 (some (-1)) = xs.length := by
    unfold HT.sIx
    simp only [List.length_append, List.length_cons, List.length_nil]
    rw [if_pos (by decide)]
    omega
  rw [h1, HT.sIx_none]
  simp
theorem cut_2 (xs : List D) (w v : D) : cutA (.lst (xs ++ [w, v])) (some (-2)) (some (-1)) = some (.lst [w]) := by
  show some (D.lst (cutD _ _ _)) = _
  unfold cutD
  have h1 : HT.sIx (xs ++ [w, v]).length 0 (some (-2)) = xs.length := by
    unfold HT.sIx
    simp only [List.length_append, List.length_cons, List.length_nil]
    rw [if_pos (by decide)]
    omega
  have h2 : HT.sIx (xs ++ [w, v]).length (xs ++ [w, v]).length (some (-1)) = xs.length + 1 := by
    unfold HT.sIx
    simp only [List.length_append, List.length_cons, List.length_nil]
    rw [if_pos (by decide)]
    omega
  rw [h1, h2]
  simp
theorem ne_b1 (x y : Bool) : bEqN true (.lst [.bl x]) (.lst [.bl y]) = some (.bl (!decide (x = y))) := by
  cases x <;> cases y <;> rfl
theorem ne_b0 (x : Bool) : bEqN true (.lst [.bl x]) (.lst []) = some (.bl true) := by
  cases x <;> rfl
theorem ne_00 : bEqN true (.lst []) (.lst []) = some (.bl false) := rfl
def sp_needed_moves (C : Addr) : DSp := fun ds P => ∃ us d ss, ds = [deskD C us, d] ∧ IsSs d ss ∧ ss.length ≤ 400 ∧ DkOk us ∧ P (.lst ((ndM ss (prs (ovl us) (nms us))).map ixD))
def d_needed_moves (C_Desk : Addr) : TDS := (sSeq (sSetO 2 (dLst aNil))
  (sSeq (sFor (iSeq (dMeth C_Desk "pairs" (sp_Desk_pairs C_Desk) (dV 0) aNil)) (gTp 2 (gsCons (gNm 3) (gsCons (gNm 4) gsNil))) (sSeq (sSet 5 (dCall sp_partings (aCons (dV 1) (aCons (dV 3) (aCons (dV 4) aNil)))))
  (sSeq (sSet 6 (dLc (iSeq (dV 5)) (gNm 7) tYesD (dCall sp_puts_over (aCons (dO2 bIx (dV 1) (dV 7)) (aCons (dV 3) aNil))) [7]))
  (sIf (dT (dO2 (bEqN true) (dCut cutA (dV 6) (oSome (dNeg (dC (.int 1)))) oNone) (dCut cutA (dV 6) (oSome (dNeg (dC (.int 2)))) (oSome (dNeg (dC (.int 1))))))) (sApp 2 (dO2 bIx (dV 5) (dNeg (dC (.int 1))))) sNil))))
  (sRetO 2)))
theorem rd_needed_moves {C : Addr} {ds : List D} {P : D → Prop} (h : sp_needed_moves C ds P) : d_needed_moves C (fin false P) (st 8 ds) := by
  obtain ⟨us, d, ss, rfl, hd, hl, K, q⟩ := h
  have hn : (("pairs" : Str) == ("windows" : Str)) = false := by decide +kernel
  have nl : (nms us).length ≤ 24 := by unfold nms; rw [List.length_map]; exact K.l2
  have np := prs_len (ovl us) (nms us)
  have np2 : (nms us).length * (nms us).length ≤ 24 * 24 := Nat.mul_le_mul nl nl
  simp only [d_needed_moves, dC, dV, dB, dO2, ob_some, dT, dAndT, dOrT, dNotT, dIf, dAndV, dOrV, dNotV, dChain, aNil, aCons, dTup, dLst, dCut, oNone, oSome, dRev, dNeg, dTru, dCa, dIs, dIsA, dCall, dCallK, sNil, sSeq, sNever, sBrk, sCont, sIf, sRet, sRetO, sRetE, sSet, sSetO, sDrop, sPar, sPar3, kn, enOf, owD, sAsg, gNm, gsNil, gsCons, gTp, sApp, sIns, sExt, sClr, sRev, sPut, sFrz, owAt, fin, st, iRng, iRngB, iSeq, lstD, tupD, sFor, dLc, dDc, wipeE, tYesD, dIndex, dSort, dDictZip, dMeth, dFld, dMk, List.map_cons, List.map_nil, List.length_cons, List.length_nil, List.replicate_succ, List.replicate_zero, List.cons_append, List.nil_append, List.append_nil, List.getElem?_cons_zero, List.getElem?_cons_succ, List.set_cons_zero, List.set_cons_succ, Option.bind_some, Option.map_some, Nat.reduceSub, Nat.reduceAdd, kwP, List.getD_cons_zero, List.getD_cons_succ, deskD, no_m hn]
  refine ⟨by decide, .inl ⟨trivial, trivial, us, rfl, K.l2, K.w.nd, ?_⟩⟩
  simp only [ob_some]
  refine loop_all pairD (prs (ovl us) (nms us)) (fun pre env => ∃ e3 e4 e5 e6 e7, env = [.fz (deskD C us), .fz d, .ow ((ndM ss pre).map ixD), e3, e4, e5, e6, e7]) ⟨_, _, _, _, _, rfl⟩ (fun pre z post env e h k hk => ?_) (fun env h => ?_)
  · obtain ⟨e3, e4, e5, e6, e7, rfl⟩ := h
    have hap : ndM ss (pre ++ [z]) = ndM ss pre ++ ndZ none (fun s => pov s z.1) (zf (fun s => prt s z.1 z.2) ss) := by
      unfold ndM
      rw [List.flatMap_append, List.flatMap_cons, List.flatMap_nil, List.append_nil]
    have lz := zf_len (fun s => prt s z.1 z.2) ss
    have ln : (ndM ss pre).length ≤ 576 := by
      have h1 := flat_len (f := fun p : SP => ndZ none (fun s => pov s p.1) (zf (fun s => prt s p.1 p.2) ss)) (fun n => ndZ_len _ _ _) pre
      have h2 := congrArg List.length e
      rw [List.length_append, List.length_cons] at h2
      unfold ndM
      omega
    simp only [pairD, dC, dV, dB, dO2, ob_some, dT, dAndT, dOrT, dNotT, dIf, dAndV, dOrV, dNotV, dChain, aNil, aCons, dTup, dLst, dCut, oNone, oSome, dRev, dNeg, dTru, dCa, dIs, dIsA, dCall, dCallK, sNil, sSeq, sNever, sBrk, sCont, sIf, sRet, sRetO, sRetE, sSet, sSetO, sDrop, sPar, sPar3, kn, enOf, owD, sAsg, gNm, gsNil, gsCons, gTp, sApp, sIns, sExt, sClr, sRev, sPut, sFrz, owAt, fin, st, iRng, iRngB, iSeq, lstD, tupD, sFor, dLc, dDc, wipeE, tYesD, dIndex, dSort, dDictZip, dMeth, dFld, dMk, List.map_cons, List.map_nil, List.length_cons, List.length_nil, List.replicate_succ, List.replicate_zero, List.cons_append, List.nil_append, List.append_nil, List.getElem?_cons_zero, List.getElem?_cons_succ, List.set_cons_zero, List.set_cons_succ, Option.bind_some, Option.map_some, Nat.reduceSub, Nat.reduceAdd, kwP, List.getD_cons_zero, List.getD_cons_succ]
    refine ⟨trivial, trivial, d, ss, z.1, z.2, rfl, hd, by omega, .inl ?_⟩
    have ei : (idxP ss z.1 z.2).map ixD = (zf (fun s => prt s z.1 z.2) ss).map fun p => ixD p.2 := by
      unfold idxP zf
      rw [List.map_map]
      rfl
    rw [ei]
    refine comp_map (fun p : Sc × Nat => ixD p.2) (fun p => D.bl (pov p.1 z.1)) (zf (fun s => prt s z.1 z.2) ss) [] (fun p hp Q Z hQ => ?_) (by simp only [List.length_nil]; omega) ?_
    · obtain ⟨g1, g2⟩ := zf_at hp
      obtain ⟨s, j⟩ := p
      have x1 : bIx d (.int ((j : Nat) : Int)) = some s.d := ix_ss hd g1
      simp only [ixD, dC, dV, dB, dO2, ob_some, dT, dAndT, dOrT, dNotT, dIf, dAndV, dOrV, dNotV, dChain, aNil, aCons, dTup, dLst, dCut, oNone, oSome, dRev, dNeg, dTru, dCa, dIs, dIsA, dCall, dCallK, sNil, sSeq, sNever, sBrk, sCont, sIf, sRet, sRetO, sRetE, sSet, sSetO, sDrop, sPar, sPar3, kn, enOf, owD, sAsg, gNm, gsNil, gsCons, gTp, sApp, sIns, sExt, sClr, sRev, sPut, sFrz, owAt, fin, st, iRng, iRngB, iSeq, lstD, tupD, sFor, dLc, dDc, wipeE, tYesD, dIndex, dSort, dDictZip, dMeth, dFld, dMk, List.map_cons, List.map_nil, List.length_cons, List.length_nil, List.replicate_succ, List.replicate_zero, List.cons_append, List.nil_append, List.append_nil, List.getElem?_cons_zero, List.getElem?_cons_succ, List.set_cons_zero, List.set_cons_succ, Option.bind_some, Option.map_some, Nat.reduceSub, Nat.reduceAdd, kwP, List.getD_cons_zero, List.getD_cons_succ, x1, if_true]
      exact ⟨s, z.1, rfl, prt_mv g2, hQ⟩
    · rw [List.nil_append]
      rcases List.eq_nil_or_concat (zf (fun s => prt s z.1 z.2) ss) with hc | ⟨l, p, hc⟩
      · rw [hc] at hap ⊢
        have c1 : cutA (.lst (([] : List (Sc × Nat)).map fun p => D.bl (pov p.1 z.1))) (some (-1)) none = some (.lst []) := rfl
        have c2 : cutA (.lst (([] : List (Sc × Nat)).map fun p => D.bl (pov p.1 z.1))) (some (-2)) (some (-1)) = some (.lst []) := rfl
        simp only [c1, c2, ne_00, ob_some, Bool.false_eq_true, if_false]
        have h0 : ndM ss (pre ++ [z]) = ndM ss pre := by rw [hap]; exact List.append_nil _
        rw [h0] at hk
        exact hk _ ⟨_, _, _, _, _, rfl⟩
      · rw [List.concat_eq_append] at hc
        rw [hc, ndZ_snoc] at hap
        rw [hc]
        have y4 : bIx (.lst ((l ++ [p]).map fun p => ixD p.2)) (.int (-1)) = some (ixD p.2) := by
          show (atI _ (-1)).or _ = _
          rw [List.map_append, List.map_cons, List.map_nil, atI_last]
          rfl
        have c1 : cutA (.lst ((l ++ [p]).map fun p => D.bl (pov p.1 z.1))) (some (-1)) none = some (.lst [.bl (pov p.1 z.1)]) := by
          rw [List.map_append, List.map_cons, List.map_nil]
          exact cut_1 _ _
        have fin1 : (if some (pov p.1 z.1) = ((l.getLast?).map fun q => pov q.1 z.1).or none then [] else [p.2]) = [] → ndM ss (pre ++ [z]) = ndM ss pre := fun h => by rw [hap, h, List.append_nil]
        have fin2 : (if some (pov p.1 z.1) = ((l.getLast?).map fun q => pov q.1 z.1).or none then [] else [p.2]) = [p.2] → (ndM ss (pre ++ [z])).map ixD = (ndM ss pre).map ixD ++ [ixD p.2] := fun h => by rw [hap, h, List.map_append]; rfl
        rcases List.eq_nil_or_concat l with hd' | ⟨l', p', hd'⟩
        · subst hd'
          have c2 : cutA (.lst (([] ++ [p]).map fun p : Sc × Nat => D.bl (pov p.1 z.1))) (some (-2)) (some (-1)) = some (.lst []) := rfl
          simp only [c1, c2, ne_b0, ob_some, if_true, y4]
          rw [fin2 (if_neg (by simp))] at hk
          exact ⟨by rw [List.length_map]; exact szM (by omega), hk _ ⟨_, _, _, _, _, rfl⟩⟩
        · rw [List.concat_eq_append] at hd'
          subst hd'
          have c2 : cutA (.lst ((l' ++ [p'] ++ [p]).map fun p : Sc × Nat => D.bl (pov p.1 z.1))) (some (-2)) (some (-1)) = some (.lst [.bl (pov p'.1 z.1)]) := by
            rw [List.append_assoc, List.map_append]
            exact cut_2 _ _ _
          have eg : (((l' ++ [p']).getLast?).map fun q : Sc × Nat => pov q.1 z.1).or none = some (pov p'.1 z.1) := by rw [List.getLast?_append]; rfl
          rw [eg] at fin1 fin2
          simp only [c1, c2, ne_b1, ob_some, y4]
          by_cases hx : pov p.1 z.1 = pov p'.1 z.1
          · rw [decide_eq_true hx]
            simp only [Bool.not_true, Bool.false_eq_true, if_false]
            rw [fin1 (if_pos (by rw [hx]))] at hk
            exact hk _ ⟨_, _, _, _, _, rfl⟩
          · rw [decide_eq_false hx]
            simp only [Bool.not_false, if_true]
            rw [fin2 (if_neg fun w => hx (Option.some.inj w))] at hk
            exact ⟨by rw [List.length_map]; exact szM (by omega), hk _ ⟨_, _, _, _, _, rfl⟩⟩
  · obtain ⟨e3, e4, e5, e6, e7, rfl⟩ := h
    simp only [dC, dV, dB, dO2, ob_some, dT, dAndT, dOrT, dNotT, dIf, dAndV, dOrV, dNotV, dChain, aNil, aCons, dTup, dLst, dCut, oNone, oSome, dRev, dNeg, dTru, dCa, dIs, dIsA, dCall, dCallK, sNil, sSeq, sNever, sBrk, sCont, sIf, sRet, sRetO, sRetE, sSet, sSetO, sDrop, sPar, sPar3, kn, enOf, owD, sAsg, gNm, gsNil, gsCons, gTp, sApp, sIns, sExt, sClr, sRev, sPut, sFrz, owAt, fin, st, iRng, iRngB, iSeq, lstD, tupD, sFor, dLc, dDc, wipeE, tYesD, dIndex, dSort, dDictZip, dMeth, dFld, dMk, List.map_cons, List.map_nil, List.length_cons, List.length_nil, List.replicate_succ, List.replicate_zero, List.cons_append, List.nil_append, List.append_nil, List.getElem?_cons_zero, List.getElem?_cons_succ, List.set_cons_zero, List.set_cons_succ, Option.bind_some, Option.map_some, Nat.reduceSub, Nat.reduceAdd, kwP, List.getD_cons_zero, List.getD_cons_succ]
    exact q
theorem ln_needed_moves {C : Addr} {ds : List D} {P : D → Prop} (h : sp_needed_moves C ds P) : ds.length = 2 := by obtain ⟨_, _, _, rfl, _⟩ := h; rfl
def needI (us : List Win) (ss : List Sc) : List Nat := ndP us ss (nms us) ++ ndM ss (prs (ovl (aftW us ss)) (nms us))
def idl (us : List Win) (ss : List Sc) : List Nat := (List.range ss.length).filter fun i => !decide (i ∈ needI us ss)
def sp_idle (C : Addr) : DSp := fun ds P => ∃ us d ss, ds = [deskD C us, d] ∧ IsSs d ss ∧ Plain (nms us) ss ∧ ss.length ≤ 400 ∧ DkOk us ∧ P (.lst ((idl us ss).map ixD))
def d_idle (C_Desk : Addr) : TDS := (sSeq (sDrop (dCall (sp_check_plain_script C_Desk) (aCons (dV 0) (aCons (dV 1) aNil))))
  (sSeq (sSet 2 (dO2 bAdd (dCall (sp_needed_places C_Desk) (aCons (dV 0) (aCons (dV 1) aNil))) (dCall (sp_needed_moves C_Desk) (aCons (dCall (sp_last_desk C_Desk) (aCons (dV 0) (aCons (dV 1) aNil))) (aCons (dV 1) aNil)))))
  (sRet (dLc (iRng (aCons (dCa lenD (aCons (dV 1) aNil)) aNil)) (gNm 3) (dT (dO2 (bIn true) (dV 3) (dV 2))) (dV 3) [3]))))
theorem any_ix (l : List Nat) (i : Nat) : ((l.map ixD).any fun y => eqF y (.int (i : Nat))) = decide (i ∈ l) := by
  induction l with
  | nil => rfl
  | cons j l ih =>
    rw [List.map_cons, List.any_cons, ih]
    have e : eqF (ixD j) (.int (i : Nat)) = decide (j = i) := by
      show decide (((j : Nat) : Int) = ((i : Nat) : Int)) = _
      exact decide_eq_decide.mpr Int.ofNat_inj
    rw [e, ← Bool.decide_or]
    exact decide_eq_decide.mpr (by rw [List.mem_cons]; exact or_congr eq_comm Iff.rfl)
theorem leaf_ix (l : List Nat) : (l.map ixD).all D.leaf = true := by
  rw [List.all_eq_true]
  intro x hx
  obtain ⟨i, _, rfl⟩ := List.mem_map.mp hx
  rfl
theorem bIn_ix {neg : Bool} (l : List Nat) (i : Nat) : bIn neg (.int (i : Nat)) (.lst (l.map ixD)) = some (.bl (neg ^^ decide (i ∈ l))) := by
  show ((if D.leaf (.int (i : Nat)) = true ∧ (l.map ixD).all D.leaf = true then some (D.bl (neg ^^ (l.map ixD).any fun y => eqF y (.int (i : Nat)))) else none)).or _ = _
  rw [if_pos ⟨rfl, leaf_ix l⟩, any_ix]
  rfl
theorem len_ss {d : D} {ss : List Sc} (h : IsSs d ss) : lenD [d] = some (.int (ss.length : Nat)) := by
  rcases h with rfl | rfl
  · show some (D.int ((ss.map Sc.d).length : Nat)) = _
    rw [List.length_map]
  · show some (D.int ((ss.map Sc.d).length : Nat)) = _
    rw [List.length_map]
theorem rd_idle {C : Addr} {fr : Bool} {ds : List D} {P : D → Prop} (h : sp_idle C ds P) : d_idle C (fin fr P) (st 4 ds) := by
  obtain ⟨us, d, ss, rfl, hd, pp, hl, K, q⟩ := h
  have nl : (nms us).length ≤ 24 := by unfold nms; rw [List.length_map]; exact K.l2
  have np := prs_len (ovl (aftW us ss)) (nms us)
  have np2 : (nms us).length * (nms us).length ≤ 24 * 24 := Nat.mul_le_mul nl nl
  have l1 : (ndP us ss (nms us)).length ≤ 24 := by
    have := flat_len (f := fun n => ndZ (look us n) rcOf (zf (isPl n) ss)) (fun n => ndZ_len _ _ _) (nms us)
    unfold ndP
    omega
  have l2 : (ndM ss (prs (ovl (aftW us ss)) (nms us))).length ≤ 576 := by
    have := flat_len (f := fun p : SP => ndZ none (fun s => pov s p.1) (zf (fun s => prt s p.1 p.2) ss)) (fun n => ndZ_len _ _ _) (prs (ovl (aftW us ss)) (nms us))
    unfold ndM
    omega
  simp only [d_idle, dC, dV, dB, dO2, ob_some, dT, dAndT, dOrT, dNotT, dIf, dAndV, dOrV, dNotV, dChain, aNil, aCons, dTup, dLst, dCut, oNone, oSome, dRev, dNeg, dTru, dCa, dIs, dIsA, dCall, dCallK, sNil, sSeq, sNever, sBrk, sCont, sIf, sRet, sRetO, sRetE, sSet, sSetO, sDrop, sPar, sPar3, kn, enOf, owD, sAsg, gNm, gsNil, gsCons, gTp, sApp, sIns, sExt, sClr, sRev, sPut, sFrz, owAt, fin, st, iRng, iRngB, iSeq, lstD, tupD, sFor, dLc, dDc, wipeE, tYesD, dIndex, dSort, dDictZip, dMeth, dFld, dMk, List.map_cons, List.map_nil, List.length_cons, List.length_nil, List.replicate_succ, List.replicate_zero, List.cons_append, List.nil_append, List.append_nil, List.getElem?_cons_zero, List.getElem?_cons_succ, List.set_cons_zero, List.set_cons_succ, Option.bind_some, Option.map_some, Nat.reduceSub, Nat.reduceAdd, kwP, List.getD_cons_zero, List.getD_cons_succ, len_ss hd]
  refine ⟨us, d, ss, rfl, hd, pp, hl, us, d, ss, rfl, hd, pp, hl, K, us, d, ss, rfl, hd, pp, K, aftW us ss, d, ss, rfl, hd, hl, K.aft pp, ?_⟩
  rw [nms_aft]
  show ob (bAdd (.lst ((ndP us ss (nms us)).map ixD)) (.lst ((ndM ss (prs (ovl (aftW us ss)) (nms us))).map ixD))) _
  rw [bAdd_l (by rw [List.length_map, List.length_map]; omega), ← List.map_append]
  simp only [ob_some]
  refine ⟨by omega, by omega, ?_⟩
  rw [Int.toNat_natCast, rng_map]
  refine comp_filter (fun k : Nat => D.int ((k : Nat) : Int)) ixD (fun i => !decide (i ∈ needI us ss)) (List.range ss.length) [] (fun i hi Q Z h1 h2 => ?_) (by rw [List.length_range]; simp only [List.length_nil]; omega) q
  have eb := bIn_ix (neg := true) (needI us ss) i
  unfold needI at eb h1 h2
  simp only [dC, dV, dB, dO2, ob_some, dT, dAndT, dOrT, dNotT, dIf, dAndV, dOrV, dNotV, dChain, aNil, aCons, dTup, dLst, dCut, oNone, oSome, dRev, dNeg, dTru, dCa, dIs, dIsA, dCall, dCallK, sNil, sSeq, sNever, sBrk, sCont, sIf, sRet, sRetO, sRetE, sSet, sSetO, sDrop, sPar, sPar3, kn, enOf, owD, sAsg, gNm, gsNil, gsCons, gTp, sApp, sIns, sExt, sClr, sRev, sPut, sFrz, owAt, fin, st, iRng, iRngB, iSeq, lstD, tupD, sFor, dLc, dDc, wipeE, tYesD, dIndex, dSort, dDictZip, dMeth, dFld, dMk, List.map_cons, List.map_nil, List.length_cons, List.length_nil, List.replicate_succ, List.replicate_zero, List.cons_append, List.nil_append, List.append_nil, List.getElem?_cons_zero, List.getElem?_cons_succ, List.set_cons_zero, List.set_cons_succ, Option.bind_some, Option.map_some, Nat.reduceSub, Nat.reduceAdd, kwP, List.getD_cons_zero, List.getD_cons_succ, eb, Bool.true_xor]
  cases hc : decide (i ∈ ndP us ss (nms us) ++ ndM ss (prs (ovl (aftW us ss)) (nms us))) with
  | true => rw [hc] at h2; exact h2 rfl
  | false => rw [hc] at h1; exact h1 rfl
theorem ln_idle {C : Addr} {ds : List D} {P : D → Prop} (h : sp_idle C ds P) : ds.length = 2 := by obtain ⟨_, _, _, rfl, _⟩ := h; rfl
end DL

namespace DL
open PySem PySem.Spec PyProof.Rows L2 RK
/-! ### drawn steps -/
theorem cut_to (xs : List D) (k : Nat) : cutD xs none (some ((k : Nat) : Int)) = xs.take k := by
  unfold cutD
  rw [HT.sIx_nat, HT.sIx_none, List.drop_zero, Nat.sub_zero]
  rcases Nat.le_total k xs.length with h | h
  · rw [Nat.min_eq_left h]
  · rw [Nat.min_eq_right h, List.take_of_length_le (Nat.le_refl _), List.take_of_length_le h]
def sp_some : DSp := fun ds P => ∃ zs : List Str, ds = [.bag, .lst (zs.map D.str)] ∧ zs ≠ [] ∧ zs.Nodup ∧ zs.length ≤ 1000 ∧ ∀ ys : List Str, RtM zs ys → P (.lst (ys.map D.str))
def d_some : TDS := (sSeq (sSet 2 (dCall sp_mixed (aCons (dV 0) (aCons (dV 1) aNil))))
  (sRet (dCut cutL (dV 2) oNone (oSome (dO2 bAdd (dC (.int 1)) (dCall sp_pull (aCons (dV 0) (aCons (dCa lenD (aCons (dV 2) aNil)) aNil))))))))
theorem rd_some {ds : List D} {P : D → Prop} (h : sp_some ds P) : d_some (fin true P) (st 3 ds) := by
  obtain ⟨zs, rfl, ne, nd, hl, q⟩ := h
  simp only [d_some, dC, dV, dB, dO2, ob_some, dT, dAndT, dOrT, dNotT, dIf, dAndV, dOrV, dNotV, dChain, aNil, aCons, dTup, dLst, dCut, oNone, oSome, dRev, dNeg, dTru, dCa, dIs, dIsA, dCall, dCallK, sNil, sSeq, sNever, sBrk, sCont, sIf, sRet, sRetO, sRetE, sSet, sSetO, sDrop, sPar, sPar3, kn, enOf, owD, sAsg, gNm, gsNil, gsCons, gTp, sApp, sIns, sExt, sClr, sRev, sPut, sFrz, owAt, fin, st, iRng, iRngB, iSeq, lstD, tupD, sFor, dLc, dDc, wipeE, tYesD, dIndex, dSort, dDictZip, dMeth, dFld, dMk, List.map_cons, List.map_nil, List.length_cons, List.length_nil, List.replicate_succ, List.replicate_zero, List.cons_append, List.nil_append, List.append_nil, List.getElem?_cons_zero, List.getElem?_cons_succ, List.set_cons_zero, List.set_cons_succ, Option.bind_some, Option.map_some, Nat.reduceSub, Nat.reduceAdd, kwP, List.getD_cons_zero, List.getD_cons_succ]
  refine ⟨_, .inl rfl, by rw [List.length_map]; omega, fun ys hp => ?_⟩
  obtain ⟨us, rfl, pu⟩ := perm_str hp
  have lu := pu.length_eq
  have l0 : 0 < zs.length := List.length_pos_iff.mpr ne
  have l1 : lenD [.lst (us.map D.str)] = some (.int us.length) := len_strs (.inl rfl)
  simp only [l1, ob_some]
  refine ⟨_, rfl, by omega, by omega, fun r r0 r1 => ?_⟩
  have er : (1 : Int) + r = ((1 + r.toNat : Nat) : Int) := by omega
  simp only [bAdd_i, ob_some, er, cutL, cut_to]
  rw [← List.map_take]
  refine q _ ⟨?_, ?_, fun n hn => pu.mem_iff.mp (List.mem_of_mem_take hn), ?_⟩
  · intro h
    have := congrArg List.length h
    rw [List.length_take, List.length_nil] at this
    omega
  · exact (List.take_sublist _ _).nodup (pu.nodup_iff.mpr nd)
  · rw [List.length_take]
    omega
theorem ln_some {ds : List D} {P : D → Prop} (h : sp_some ds P) : ds.length = 2 := by obtain ⟨_, rfl, _⟩ := h; rfl
def sp_moving : DSp := fun ds P => ∃ zs : List Str, ds = [.bag, .lst (zs.map D.str)] ∧ zs ≠ [] ∧ zs.Nodup ∧ zs.length ≤ 1000 ∧ ∀ up ys, RtM zs ys → P (Sc.mv up ys).d
def d_moving : TDS := (sSeq (sSet 2 (dIf (dT (dO2 bGt (dCall sp_pull (aCons (dV 0) (aCons (dC (.int 3)) aNil))) (dC (.int 0)))) (dCall sp_some (aCons (dV 0) (aCons (dV 1) aNil))) (dLst (aCons (dCall sp_of (aCons (dV 0) (aCons (dV 1) aNil))) aNil))))
  (sRet (dTup (aCons (dCall sp_of (aCons (dV 0) (aCons (dLst (aCons (dC (.str "raise")) (aCons (dC (.str "lower")) aNil))) aNil))) (aCons (dV 2) aNil)))))
theorem rd_moving {ds : List D} {P : D → Prop} (h : sp_moving ds P) : d_moving (fin true P) (st 3 ds) := by
  obtain ⟨zs, rfl, ne, nd, hl, q⟩ := h
  have l0 : 0 < zs.length := List.length_pos_iff.mpr ne
  have tl : ∀ ys, RtM zs ys → (sRet (dTup (aCons (dCall sp_of (aCons (dV 0) (aCons (dLst (aCons (dC (.str "raise")) (aCons (dC (.str "lower")) aNil))) aNil))) (aCons (dV 2) aNil)))) (fin true P) [.fz .bag, .fz (.lst (zs.map D.str)), .fz (.lst (ys.map D.str))] := fun ys hy => by
    simp only [dC, dV, dB, dO2, ob_some, dT, dAndT, dOrT, dNotT, dIf, dAndV, dOrV, dNotV, dChain, aNil, aCons, dTup, dLst, dCut, oNone, oSome, dRev, dNeg, dTru, dCa, dIs, dIsA, dCall, dCallK, sNil, sSeq, sNever, sBrk, sCont, sIf, sRet, sRetO, sRetE, sSet, sSetO, sDrop, sPar, sPar3, kn, enOf, owD, sAsg, gNm, gsNil, gsCons, gTp, sApp, sIns, sExt, sClr, sRev, sPut, sFrz, owAt, fin, st, iRng, iRngB, iSeq, lstD, tupD, sFor, dLc, dDc, wipeE, tYesD, dIndex, dSort, dDictZip, dMeth, dFld, dMk, List.map_cons, List.map_nil, List.length_cons, List.length_nil, List.replicate_succ, List.replicate_zero, List.cons_append, List.nil_append, List.append_nil, List.getElem?_cons_zero, List.getElem?_cons_succ, List.set_cons_zero, List.set_cons_succ, Option.bind_some, Option.map_some, Nat.reduceSub, Nat.reduceAdd, kwP, List.getD_cons_zero, List.getD_cons_succ]
    refine ⟨by decide, .inl ⟨_, .inl rfl, by simp, by simp, fun x hx => ?_⟩⟩
    simp only [List.mem_cons, List.not_mem_nil, or_false] at hx
    rcases hx with rfl | rfl
    · exact ⟨by decide, q true ys hy⟩
    · exact ⟨by decide, q false ys hy⟩
  unfold d_moving
  generalize (sRet (dTup (aCons (dCall sp_of (aCons (dV 0) (aCons (dLst (aCons (dC (.str "raise")) (aCons (dC (.str "lower")) aNil))) aNil))) (aCons (dV 2) aNil)))) = R at tl ⊢
  simp only [dC, dV, dB, dO2, ob_some, dT, dAndT, dOrT, dNotT, dIf, dAndV, dOrV, dNotV, dChain, aNil, aCons, dTup, dLst, dCut, oNone, oSome, dRev, dNeg, dTru, dCa, dIs, dIsA, dCall, dCallK, sNil, sSeq, sNever, sBrk, sCont, sIf, sRet, sRetO, sRetE, sSet, sSetO, sDrop, sPar, sPar3, kn, enOf, owD, sAsg, gNm, gsNil, gsCons, gTp, sApp, sIns, sExt, sClr, sRev, sPut, sFrz, owAt, fin, st, iRng, iRngB, iSeq, lstD, tupD, sFor, dLc, dDc, wipeE, tYesD, dIndex, dSort, dDictZip, dMeth, dFld, dMk, List.map_cons, List.map_nil, List.length_cons, List.length_nil, List.replicate_succ, List.replicate_zero, List.cons_append, List.nil_append, List.append_nil, List.getElem?_cons_zero, List.getElem?_cons_succ, List.set_cons_zero, List.set_cons_succ, Option.bind_some, Option.map_some, Nat.reduceSub, Nat.reduceAdd, kwP, List.getD_cons_zero, List.getD_cons_succ]
  refine ⟨_, rfl, by decide, by decide, fun r r0 r1 => ?_⟩
  have eg : bGt (.int r) (.int 0) = some (.bl (decide (r > 0))) := rfl
  simp only [eg, ob_some]
  by_cases h : r > 0
  · rw [decide_eq_true h]
    simp only [if_true]
    exact ⟨zs, rfl, ne, nd, hl, fun ys hy => tl ys hy⟩
  · rw [decide_eq_false h]
    simp only [Bool.false_eq_true, if_false]
    refine .inl ⟨_, .inl rfl, by rw [List.length_map]; omega, by rw [List.length_map]; omega, fun x hx => ⟨by decide, ?_⟩⟩
    obtain ⟨z, hz, rfl⟩ := List.mem_map.mp hx
    exact tl [z] ⟨by simp, by simp, fun n hn => by rw [List.mem_singleton.mp hn]; exact hz, by simp⟩
theorem ln_moving {ds : List D} {P : D → Prop} (h : sp_moving ds P) : ds.length = 2 := by obtain ⟨_, rfl, _⟩ := h; rfl
def sp_step : DSp := fun ds P => ∃ zs : List Str, ds = [.bag, .lst (zs.map D.str)] ∧ zs ≠ [] ∧ zs.Nodup ∧ zs.length ≤ 1000 ∧ ∀ s : Sc, s.isRp = false → Rt zs s → P s.d
def d_step : TDS := (sSeq (sIf (dT (dO2 (bEqN false) (dCall sp_pull (aCons (dV 0) (aCons (dC (.int 5)) aNil))) (dC (.int 0)))) (sRet (dTup (aCons (dC (.str "place")) (aCons (dCall sp_of (aCons (dV 0) (aCons (dV 1) aNil))) (aCons (dCall sp_rectangle (aCons (dV 0) (aCons (dC (.int 1)) aNil))) aNil))))) sNil)
  (sRet (dCall sp_moving (aCons (dV 0) (aCons (dV 1) aNil)))))
theorem rd_step {ds : List D} {P : D → Prop} (h : sp_step ds P) : d_step (fin true P) (st 2 ds) := by
  obtain ⟨zs, rfl, ne, nd, hl, q⟩ := h
  have l0 : 0 < zs.length := List.length_pos_iff.mpr ne
  simp only [d_step, dC, dV, dB, dO2, ob_some, dT, dAndT, dOrT, dNotT, dIf, dAndV, dOrV, dNotV, dChain, aNil, aCons, dTup, dLst, dCut, oNone, oSome, dRev, dNeg, dTru, dCa, dIs, dIsA, dCall, dCallK, sNil, sSeq, sNever, sBrk, sCont, sIf, sRet, sRetO, sRetE, sSet, sSetO, sDrop, sPar, sPar3, kn, enOf, owD, sAsg, gNm, gsNil, gsCons, gTp, sApp, sIns, sExt, sClr, sRev, sPut, sFrz, owAt, fin, st, iRng, iRngB, iSeq, lstD, tupD, sFor, dLc, dDc, wipeE, tYesD, dIndex, dSort, dDictZip, dMeth, dFld, dMk, List.map_cons, List.map_nil, List.length_cons, List.length_nil, List.replicate_succ, List.replicate_zero, List.cons_append, List.nil_append, List.append_nil, List.getElem?_cons_zero, List.getElem?_cons_succ, List.set_cons_zero, List.set_cons_succ, Option.bind_some, Option.map_some, Nat.reduceSub, Nat.reduceAdd, kwP, List.getD_cons_zero, List.getD_cons_succ]
  refine ⟨_, rfl, by decide, by decide, fun r r0 r1 => ?_⟩
  simp only [bEq_i, ob_some]
  by_cases h : r = 0
  · rw [decide_eq_true h]
    simp only [if_true]
    refine .inl ⟨_, .inl rfl, by rw [List.length_map]; omega, by rw [List.length_map]; omega, fun x hx => ?_⟩
    obtain ⟨z, hz, rfl⟩ := List.mem_map.mp hx
    refine ⟨1, rfl, by decide, by decide, fun x y x2 y2 h1 h2 h3 h4 h5 h6 h7 h8 => ⟨by decide, ?_⟩⟩
    exact q (.pl z ⟨1 * x, 1 * y, 1 * x2, 1 * y2⟩) rfl (.pl hz (sm_scaled (c := 1) (by decide) (by decide) h1 h2 h3 h4 h5 h6 h7 h8).1)
  · rw [decide_eq_false h]
    simp only [Bool.false_eq_true, if_false]
    exact ⟨zs, rfl, ne, nd, hl, fun up ys hy => q _ rfl (.mv hy)⟩
theorem ln_step {ds : List D} {P : D → Prop} (h : sp_step ds P) : ds.length = 2 := by obtain ⟨_, rfl, _⟩ := h; rfl
theorem steps_of {zs : List Str} : ∀ {l : List Nat} {ys : List D}, Paired (fun (_ : Nat) y => ∃ s : Sc, y = s.d ∧ s.isRp = false ∧ Rt zs s) l ys → ∃ ss : List Sc, ys = ss.map Sc.d ∧ ss.length = l.length ∧ Plain zs ss
  | _, _, .nil => ⟨[], rfl, rfl, fun s hs => by cases hs⟩
  | _, _, .cons ⟨s, e, h1, h2⟩ t => by
    obtain ⟨ss, e2, h3, h4⟩ := steps_of t
    refine ⟨s :: ss, by rw [e, e2]; rfl, by rw [List.length_cons, List.length_cons, h3], fun x hx => ?_⟩
    rcases List.mem_cons.mp hx with rfl | hx
    · exact ⟨h1, h2⟩
    · exact h4 x hx
def sp_steps : DSp := fun ds P => ∃ (zs : List Str) (m : Int), ds = [.bag, .lst (zs.map D.str), .int m] ∧ 0 ≤ m ∧ m ≤ 1000 ∧ zs ≠ [] ∧ zs.Nodup ∧ zs.length ≤ 1000 ∧ ∀ ss : List Sc, Plain zs ss → (ss.length : Int) ≤ m → P (.lst (ss.map Sc.d))
def d_steps : TDS := (sRet (dLc (iRng (aCons (dCall sp_pull (aCons (dV 0) (aCons (dO2 bAdd (dV 2) (dC (.int 1))) aNil))) aNil)) (gNm 3) tYesD (dCall sp_step (aCons (dV 0) (aCons (dV 1) aNil))) [3]))
theorem rd_steps {ds : List D} {P : D → Prop} (h : sp_steps ds P) : d_steps (fin true P) (st 4 ds) := by
  obtain ⟨zs, m, rfl, m0, m1, ne, nd, hl, q⟩ := h
  simp only [d_steps, dC, dV, dB, dO2, ob_some, dT, dAndT, dOrT, dNotT, dIf, dAndV, dOrV, dNotV, dChain, aNil, aCons, dTup, dLst, dCut, oNone, oSome, dRev, dNeg, dTru, dCa, dIs, dIsA, dCall, dCallK, sNil, sSeq, sNever, sBrk, sCont, sIf, sRet, sRetO, sRetE, sSet, sSetO, sDrop, sPar, sPar3, kn, enOf, owD, sAsg, gNm, gsNil, gsCons, gTp, sApp, sIns, sExt, sClr, sRev, sPut, sFrz, owAt, fin, st, iRng, iRngB, iSeq, lstD, tupD, sFor, dLc, dDc, wipeE, tYesD, dIndex, dSort, dDictZip, dMeth, dFld, dMk, List.map_cons, List.map_nil, List.length_cons, List.length_nil, List.replicate_succ, List.replicate_zero, List.cons_append, List.nil_append, List.append_nil, List.getElem?_cons_zero, List.getElem?_cons_succ, List.set_cons_zero, List.set_cons_succ, Option.bind_some, Option.map_some, Nat.reduceSub, Nat.reduceAdd, kwP, List.getD_cons_zero, List.getD_cons_succ, bAdd_i]
  refine ⟨_, rfl, by omega, by omega, fun r r0 r1 => ⟨by omega, by omega, ?_⟩⟩
  rw [rng_map]
  refine comp_all (fun k : Nat => D.int ((k : Nat) : Int)) (fun _ y => ∃ s : Sc, y = s.d ∧ s.isRp = false ∧ Rt zs s) (List.range r.toNat) [] (fun k hk Q Z hQ => ?_) (by rw [List.length_range]; simp only [List.length_nil]; omega) fun ys hy => ?_
  · simp only [dC, dV, dB, dO2, ob_some, dT, dAndT, dOrT, dNotT, dIf, dAndV, dOrV, dNotV, dChain, aNil, aCons, dTup, dLst, dCut, oNone, oSome, dRev, dNeg, dTru, dCa, dIs, dIsA, dCall, dCallK, sNil, sSeq, sNever, sBrk, sCont, sIf, sRet, sRetO, sRetE, sSet, sSetO, sDrop, sPar, sPar3, kn, enOf, owD, sAsg, gNm, gsNil, gsCons, gTp, sApp, sIns, sExt, sClr, sRev, sPut, sFrz, owAt, fin, st, iRng, iRngB, iSeq, lstD, tupD, sFor, dLc, dDc, wipeE, tYesD, dIndex, dSort, dDictZip, dMeth, dFld, dMk, List.map_cons, List.map_nil, List.length_cons, List.length_nil, List.replicate_succ, List.replicate_zero, List.cons_append, List.nil_append, List.append_nil, List.getElem?_cons_zero, List.getElem?_cons_succ, List.set_cons_zero, List.set_cons_succ, Option.bind_some, Option.map_some, Nat.reduceSub, Nat.reduceAdd, kwP, List.getD_cons_zero, List.getD_cons_succ, if_true]
    exact ⟨zs, rfl, ne, nd, hl, fun s h1 h2 => hQ _ ⟨s, rfl, h1, h2⟩⟩
  · obtain ⟨ss, rfl, h2, h3⟩ := steps_of hy
    rw [List.nil_append]
    exact q ss h3 (by rw [h2, List.length_range]; omega)
theorem ln_steps {ds : List D} {P : D → Prop} (h : sp_steps ds P) : ds.length = 3 := by obtain ⟨_, _, rfl, _⟩ := h; rfl
/-! ### the law's own run -/
def sp_after : DSp := fun ds P => ∃ (ws : List Win) (d : D) (zs : List Str) (e : D) (ps : List Sc), ds = [winD ws, d, e] ∧ IsSeq d zs ∧ IsSs e ps ∧ zs.length ≤ 1000 ∧ ws.length ≤ 1000 ∧ Plain (nms ws) ps ∧ P (.tup [winD (aftW ws ps), .lst ((aftO zs ps).map D.str)])
def d_after : TDS := (sSeq (sPar 0 1 true false (dCa dictD (aCons (dB 0) aNil)) (dCa listD (aCons (dV 1) aNil)))
  (sSeq (sFor (iSeq (dV 2)) (gNm 3) (sIf (dT (dO2 (bEqN false) (dO2 bIx (dV 3) (dC (.int 0))) (dC (.str "place")))) (sDput 0 (dO2 bIx (dV 3) (dC (.int 2))) (dO2 bIx (dV 3) (dC (.int 1)))) (sSeq (sPar 4 5 false false (dLc (iSeq (dV 1)) (gNm 6) (dT (dO2 (bIn false) (dV 6) (dO2 bIx (dV 3) (dC (.int 1))))) (dV 6) [6]) (dLc (iSeq (dV 1)) (gNm 6) (dT (dO2 (bIn true) (dV 6) (dO2 bIx (dV 3) (dC (.int 1))))) (dV 6) [6]))
  (sSet 1 (dIf (dT (dO2 (bEqN false) (dO2 bIx (dV 3) (dC (.int 0))) (dC (.str "raise")))) (dO2 bAdd (dV 5) (dV 4)) (dO2 bAdd (dV 4) (dV 5)))))))
  (sFrz 0 (sRet (dTup (aCons (dV 0) (aCons (dV 1) aNil)))))))
theorem aft_len (ps : List Sc) (ws : List Win) : (aftW ws ps).length = ws.length := by
  have := congrArg List.length (nms_aft ps ws)
  unfold nms at this
  rw [List.length_map, List.length_map] at this
  exact this
theorem rd_after {ds : List D} {P : D → Prop} (h : sp_after ds P) : d_after (fin false P) (st 7 ds) := by
  obtain ⟨ws, d, zs, e, ps, rfl, hd, he, hl, hw, pp, q⟩ := h
  have l1 : listD [d] = some (.lst (zs.map D.str)) := by rcases hd with rfl | rfl <;> rfl
  have l2 : dictD [winD ws] = some (winD ws) := rfl
  have k2 : kn true (winD ws) = some (.od (ws.map wk)) := rfl
  simp only [d_after, dC, dV, dB, dO2, ob_some, dT, dAndT, dOrT, dNotT, dIf, dAndV, dOrV, dNotV, dChain, aNil, aCons, dTup, dLst, dCut, oNone, oSome, dRev, dNeg, dTru, dCa, dIs, dIsA, dCall, dCallK, sNil, sSeq, sNever, sBrk, sCont, sIf, sRet, sRetO, sRetE, sSet, sSetO, sDrop, sPar, sPar3, kn, enOf, owD, sAsg, gNm, gsNil, gsCons, gTp, sApp, sIns, sExt, sClr, sRev, sPut, sFrz, owAt, fin, st, iRng, iRngB, iSeq, lstD, tupD, sFor, dLc, dDc, wipeE, tYesD, dIndex, dSort, dDictZip, dMeth, dFld, dMk, List.map_cons, List.map_nil, List.length_cons, List.length_nil, List.replicate_succ, List.replicate_zero, List.cons_append, List.nil_append, List.append_nil, List.getElem?_cons_zero, List.getElem?_cons_succ, List.set_cons_zero, List.set_cons_succ, Option.bind_some, Option.map_some, Nat.reduceSub, Nat.reduceAdd, kwP, List.getD_cons_zero, List.getD_cons_succ, l1, l2, winD]
  refine seq_ss he ?_
  refine loop_all Sc.d ps (fun pre env => ∃ e3 e4 e5 e6, env = [.od ((aftW ws pre).map wk), .fz (.lst ((aftO zs pre).map D.str)), .fz e, e3, e4, e5, e6]) ⟨_, _, _, _, rfl⟩ (fun pre s post env ee h k hk => ?_) (fun env h => ?_)
  · obtain ⟨e3, e4, e5, e6, rfl⟩ := h
    have sp : s.isRp = false ∧ Rt (nms ws) s := pp s (by rw [ee]; simp)
    have aw : aftW ws (pre ++ [s]) = stW (aftW ws pre) s := by unfold aftW; rw [List.foldl_append]; rfl
    have ao : aftO zs (pre ++ [s]) = stO (aftO zs pre) s := by unfold aftO; rw [List.foldl_append]; rfl
    have lo : (aftO zs pre).length ≤ 1000 := by rw [(aftO_perm pre zs).length_eq]; exact hl
    have la := aft_len pre ws
    cases s with
    | mv up ns =>
      have x0 : bIx (Sc.mv up ns).d (.int 0) = some (.str (Sc.mv up ns).word) := by rw [mv_d]; exact bIx_tp (j := 0) rfl
      have x1 : bIx (Sc.mv up ns).d (.int 1) = some (.lst (ns.map D.str)) := by rw [mv_d]; exact bIx_tp (j := 1) rfl
      have wp := word_pl (.mv up ns)
      simp only [dC, dV, dB, dO2, ob_some, dT, dAndT, dOrT, dNotT, dIf, dAndV, dOrV, dNotV, dChain, aNil, aCons, dTup, dLst, dCut, oNone, oSome, dRev, dNeg, dTru, dCa, dIs, dIsA, dCall, dCallK, sNil, sSeq, sNever, sBrk, sCont, sIf, sRet, sRetO, sRetE, sSet, sSetO, sDrop, sPar, sPar3, kn, enOf, owD, sAsg, gNm, gsNil, gsCons, gTp, sApp, sIns, sExt, sClr, sRev, sPut, sFrz, owAt, fin, st, iRng, iRngB, iSeq, lstD, tupD, sFor, dLc, dDc, wipeE, tYesD, dIndex, dSort, dDictZip, dMeth, dFld, dMk, List.map_cons, List.map_nil, List.length_cons, List.length_nil, List.replicate_succ, List.replicate_zero, List.cons_append, List.nil_append, List.append_nil, List.getElem?_cons_zero, List.getElem?_cons_succ, List.set_cons_zero, List.set_cons_succ, Option.bind_some, Option.map_some, Nat.reduceSub, Nat.reduceAdd, kwP, List.getD_cons_zero, List.getD_cons_succ, x0, bEq_s, wp, Sc.isMv, Sc.isRp, Bool.not_true, Bool.false_and, Bool.false_eq_true, if_false]
      refine .inl (comp_filter D.str D.str (fun z => decide (z ∈ ns)) (aftO zs pre) [] (fun z hz Q Z h1 h2 => ?_) (by simp only [List.length_nil]; omega) (.inl (comp_filter D.str D.str (fun z => !decide (z ∈ ns)) (aftO zs pre) [] (fun z hz Q Z h1 h2 => ?_) (by simp only [List.length_nil]; omega) ?_)))
      · simp only [dC, dV, dB, dO2, ob_some, dT, dAndT, dOrT, dNotT, dIf, dAndV, dOrV, dNotV, dChain, aNil, aCons, dTup, dLst, dCut, oNone, oSome, dRev, dNeg, dTru, dCa, dIs, dIsA, dCall, dCallK, sNil, sSeq, sNever, sBrk, sCont, sIf, sRet, sRetO, sRetE, sSet, sSetO, sDrop, sPar, sPar3, kn, enOf, owD, sAsg, gNm, gsNil, gsCons, gTp, sApp, sIns, sExt, sClr, sRev, sPut, sFrz, owAt, fin, st, iRng, iRngB, iSeq, lstD, tupD, sFor, dLc, dDc, wipeE, tYesD, dIndex, dSort, dDictZip, dMeth, dFld, dMk, List.map_cons, List.map_nil, List.length_cons, List.length_nil, List.replicate_succ, List.replicate_zero, List.cons_append, List.nil_append, List.append_nil, List.getElem?_cons_zero, List.getElem?_cons_succ, List.set_cons_zero, List.set_cons_succ, Option.bind_some, Option.map_some, Nat.reduceSub, Nat.reduceAdd, kwP, List.getD_cons_zero, List.getD_cons_succ, x1, bIn_strs (.inl rfl : IsSeq (.lst (ns.map D.str)) ns), Bool.false_xor]
        cases hc : decide (z ∈ ns) with
        | true => exact h1 hc
        | false => exact h2 hc
      · simp only [dC, dV, dB, dO2, ob_some, dT, dAndT, dOrT, dNotT, dIf, dAndV, dOrV, dNotV, dChain, aNil, aCons, dTup, dLst, dCut, oNone, oSome, dRev, dNeg, dTru, dCa, dIs, dIsA, dCall, dCallK, sNil, sSeq, sNever, sBrk, sCont, sIf, sRet, sRetO, sRetE, sSet, sSetO, sDrop, sPar, sPar3, kn, enOf, owD, sAsg, gNm, gsNil, gsCons, gTp, sApp, sIns, sExt, sClr, sRev, sPut, sFrz, owAt, fin, st, iRng, iRngB, iSeq, lstD, tupD, sFor, dLc, dDc, wipeE, tYesD, dIndex, dSort, dDictZip, dMeth, dFld, dMk, List.map_cons, List.map_nil, List.length_cons, List.length_nil, List.replicate_succ, List.replicate_zero, List.cons_append, List.nil_append, List.append_nil, List.getElem?_cons_zero, List.getElem?_cons_succ, List.set_cons_zero, List.set_cons_succ, Option.bind_some, Option.map_some, Nat.reduceSub, Nat.reduceAdd, kwP, List.getD_cons_zero, List.getD_cons_succ, x1, bIn_strs (.inl rfl : IsSeq (.lst (ns.map D.str)) ns), Bool.true_xor]
        cases hc : decide (z ∈ ns) with
        | true => rw [hc] at h2; exact h2 rfl
        | false => rw [hc] at h1; exact h1 rfl
      · rw [List.nil_append, List.nil_append]
        have f1 := List.length_filter_le (fun z => decide (z ∈ ns)) (aftO zs pre)
        have f2 := List.length_filter_le (fun z => !decide (z ∈ ns)) (aftO zs pre)
        simp only [dC, dV, dB, dO2, ob_some, dT, dAndT, dOrT, dNotT, dIf, dAndV, dOrV, dNotV, dChain, aNil, aCons, dTup, dLst, dCut, oNone, oSome, dRev, dNeg, dTru, dCa, dIs, dIsA, dCall, dCallK, sNil, sSeq, sNever, sBrk, sCont, sIf, sRet, sRetO, sRetE, sSet, sSetO, sDrop, sPar, sPar3, kn, enOf, owD, sAsg, gNm, gsNil, gsCons, gTp, sApp, sIns, sExt, sClr, sRev, sPut, sFrz, owAt, fin, st, iRng, iRngB, iSeq, lstD, tupD, sFor, dLc, dDc, wipeE, tYesD, dIndex, dSort, dDictZip, dMeth, dFld, dMk, List.map_cons, List.map_nil, List.length_cons, List.length_nil, List.replicate_succ, List.replicate_zero, List.cons_append, List.nil_append, List.append_nil, List.getElem?_cons_zero, List.getElem?_cons_succ, List.set_cons_zero, List.set_cons_succ, Option.bind_some, Option.map_some, Nat.reduceSub, Nat.reduceAdd, kwP, List.getD_cons_zero, List.getD_cons_succ, word_up]
        cases up with
        | true =>
          simp only [if_true]
          rw [bAdd_l (by rw [List.length_map, List.length_map]; omega), ← List.map_append]
          have e1 : stO (aftO zs pre) (.mv true ns) = (aftO zs pre).filter (fun z => !decide (z ∈ ns)) ++ (aftO zs pre).filter (fun z => decide (z ∈ ns)) := rfl
          rw [aw, ao, e1] at hk
          exact hk _ ⟨_, _, _, _, rfl⟩
        | false =>
          simp only [Bool.false_eq_true, if_false]
          rw [bAdd_l (by rw [List.length_map, List.length_map]; omega), ← List.map_append]
          have e1 : stO (aftO zs pre) (.mv false ns) = (aftO zs pre).filter (fun z => decide (z ∈ ns)) ++ (aftO zs pre).filter (fun z => !decide (z ∈ ns)) := rfl
          rw [aw, ao, e1] at hk
          exact hk _ ⟨_, _, _, _, rfl⟩
    | pl n r =>
      have ed : (Sc.pl n r).d = .tup [.str "place", .str n, rectD r] := rfl
      have x0 : bIx (.tup [.str "place", .str n, rectD r]) (.int 0) = some (.str "place") := bIx_tp (j := 0) rfl
      have x1 : bIx (.tup [.str "place", .str n, rectD r]) (.int 1) = some (.str n) := bIx_tp (j := 1) rfl
      have x2 : bIx (.tup [.str "place", .str n, rectD r]) (.int 2) = some (rectD r) := bIx_tp (j := 2) rfl
      cases sp.2 with
      | pl h1 h2 =>
        have hp : odPut (.od ((aftW ws pre).map wk)) (.str n) (rectD r) = some (.od ((plW (aftW ws pre) n r).map wk)) := by
          show (if ((aftW ws pre).map wk).length < sizeLine then some (En.od (putD ((aftW ws pre).map wk) (Sum.inr n : Key) (rectD r))) else none) = _
          rw [if_pos (by rw [List.length_map]; exact szM (by omega)), put_pl (by rw [nms_aft]; exact h1)]
        simp only [ed, dC, dV, dB, dO2, ob_some, dT, dAndT, dOrT, dNotT, dIf, dAndV, dOrV, dNotV, dChain, aNil, aCons, dTup, dLst, dCut, oNone, oSome, dRev, dNeg, dTru, dCa, dIs, dIsA, dCall, dCallK, sNil, sSeq, sNever, sBrk, sCont, sIf, sRet, sRetO, sRetE, sSet, sSetO, sDrop, sPar, sPar3, kn, enOf, owD, sAsg, gNm, gsNil, gsCons, gTp, sApp, sIns, sExt, sClr, sRev, sPut, sFrz, owAt, fin, st, iRng, iRngB, iSeq, lstD, tupD, sFor, dLc, dDc, wipeE, tYesD, dIndex, dSort, dDictZip, dMeth, dFld, dMk, List.map_cons, List.map_nil, List.length_cons, List.length_nil, List.replicate_succ, List.replicate_zero, List.cons_append, List.nil_append, List.append_nil, List.getElem?_cons_zero, List.getElem?_cons_succ, List.set_cons_zero, List.set_cons_succ, Option.bind_some, Option.map_some, Nat.reduceSub, Nat.reduceAdd, kwP, List.getD_cons_zero, List.getD_cons_succ, x0, x1, x2, bEq_s, decide_true, if_true, sDput, odAt, hp]
        rw [aw, ao] at hk
        exact hk _ ⟨_, _, _, _, rfl⟩
    | rp c ts => cases sp.1
  · obtain ⟨e3, e4, e5, e6, rfl⟩ := h
    simp only [dC, dV, dB, dO2, ob_some, dT, dAndT, dOrT, dNotT, dIf, dAndV, dOrV, dNotV, dChain, aNil, aCons, dTup, dLst, dCut, oNone, oSome, dRev, dNeg, dTru, dCa, dIs, dIsA, dCall, dCallK, sNil, sSeq, sNever, sBrk, sCont, sIf, sRet, sRetO, sRetE, sSet, sSetO, sDrop, sPar, sPar3, kn, enOf, owD, sAsg, gNm, gsNil, gsCons, gTp, sApp, sIns, sExt, sClr, sRev, sPut, sFrz, owAt, fin, st, iRng, iRngB, iSeq, lstD, tupD, sFor, dLc, dDc, wipeE, tYesD, dIndex, dSort, dDictZip, dMeth, dFld, dMk, List.map_cons, List.map_nil, List.length_cons, List.length_nil, List.replicate_succ, List.replicate_zero, List.cons_append, List.nil_append, List.append_nil, List.getElem?_cons_zero, List.getElem?_cons_succ, List.set_cons_zero, List.set_cons_succ, Option.bind_some, Option.map_some, Nat.reduceSub, Nat.reduceAdd, kwP, List.getD_cons_zero, List.getD_cons_succ, frz]
    exact ⟨by decide, q⟩
theorem ln_after {ds : List D} {P : D → Prop} (h : sp_after ds P) : ds.length = 3 := by obtain ⟨_, _, _, _, _, rfl, _⟩ := h; rfl
def sp_last : DSp := fun ds P => ∃ (ws : List Win) (e : D) (ps : List Sc), ds = [winD ws, e] ∧ IsSs e ps ∧ ws.length < 64 ∧ Plain (nms ws) ps ∧ P (winD (aftW ws ps))
def d_last : TDS := (sRet (dO2 bIx (dCall sp_after (aCons (dV 0) (aCons (dSort (dV 0)) (aCons (dV 1) aNil)))) (dC (.int 0))))
theorem rd_last {ds : List D} {P : D → Prop} (h : sp_last ds P) : d_last (fin false P) (st 2 ds) := by
  obtain ⟨ws, e, ps, rfl, he, hl, pp, q⟩ := h
  simp only [d_last, dC, dV, dB, dO2, ob_some, dT, dAndT, dOrT, dNotT, dIf, dAndV, dOrV, dNotV, dChain, aNil, aCons, dTup, dLst, dCut, oNone, oSome, dRev, dNeg, dTru, dCa, dIs, dIsA, dCall, dCallK, sNil, sSeq, sNever, sBrk, sCont, sIf, sRet, sRetO, sRetE, sSet, sSetO, sDrop, sPar, sPar3, kn, enOf, owD, sAsg, gNm, gsNil, gsCons, gTp, sApp, sIns, sExt, sClr, sRev, sPut, sFrz, owAt, fin, st, iRng, iRngB, iSeq, lstD, tupD, sFor, dLc, dDc, wipeE, tYesD, dIndex, dSort, dDictZip, dMeth, dFld, dMk, List.map_cons, List.map_nil, List.length_cons, List.length_nil, List.replicate_succ, List.replicate_zero, List.cons_append, List.nil_append, List.append_nil, List.getElem?_cons_zero, List.getElem?_cons_succ, List.set_cons_zero, List.set_cons_succ, Option.bind_some, Option.map_some, Nat.reduceSub, Nat.reduceAdd, kwP, List.getD_cons_zero, List.getD_cons_succ, winD]
  refine ⟨nms ws, txtKeys_win ws, by unfold nms; rw [List.length_map]; exact hl, fun ys hs => ?_⟩
  have ly : ys.length = ws.length := by rw [hs.1.length_eq]; unfold nms; rw [List.length_map]
  refine ⟨ws, _, ys, e, ps, rfl, .inl rfl, he, by omega, by omega, pp, ?_⟩
  have x0 : ∀ y, bIx (.tup [winD (aftW ws ps), y]) (.int 0) = some (winD (aftW ws ps)) := fun y => bIx_tp (j := 0) rfl
  simp only [x0, ob_some]
  exact q
theorem ln_last {ds : List D} {P : D → Prop} (h : sp_last ds P) : ds.length = 2 := by obtain ⟨_, _, _, rfl, _⟩ := h; rfl
end DL

namespace DL
open PySem PySem.Spec PyProof.Rows L2 RK
/-! ### dicts whose keys are pairs -/
theorem has_keyG {κ : Type} [DecidableEq κ] (kds : List (κ × D)) (z : κ) : (valD kds z).isSome = true ↔ z ∈ kds.map (·.1) := by
  unfold valD
  rw [Option.isSome_map, List.find?_isSome]
  constructor
  · rintro ⟨q, hq, e⟩
    rw [← of_decide_eq_true e]
    exact List.mem_map.mpr ⟨q, hq, rfl⟩
  · intro h
    obtain ⟨q, hq, e⟩ := List.mem_map.mp h
    exact ⟨q, hq, decide_eq_true e⟩
theorem keys_putG {κ : Type} [DecidableEq κ] (kds : List (κ × D)) (k : κ) (y : D) (z : κ) : z ∈ (putD kds k y).map (·.1) ↔ z ∈ kds.map (·.1) ∨ z = k := by
  unfold putD
  by_cases h : (kds.any fun kd => decide (kd.1 = k)) = true
  · rw [if_pos h]
    have e : (kds.map fun kv => if kv.1 = k then (kv.1, y) else kv).map (·.1) = kds.map (·.1) := by
      rw [List.map_map]
      refine List.map_congr_left fun q _ => ?_
      show (if q.1 = k then (q.1, y) else q).1 = q.1
      by_cases g : q.1 = k
      · rw [if_pos g]
      · rw [if_neg g]
    rw [e]
    refine ⟨.inl, fun g => g.elim id fun g => ?_⟩
    obtain ⟨q, hq, e2⟩ := List.any_eq_true.mp h
    rw [g, ← of_decide_eq_true e2]
    exact List.mem_map.mpr ⟨q, hq, rfl⟩
  · rw [if_neg h, List.map_append, List.mem_append]
    simp
theorem put_lenG {κ : Type} [DecidableEq κ] (kds : List (κ × D)) (k : κ) (y : D) : (putD kds k y).length ≤ kds.length + 1 := by
  unfold putD
  by_cases h : (kds.any fun kd => decide (kd.1 = k)) = true
  · rw [if_pos h, List.length_map]; omega
  · rw [if_neg h]; simp
def pkey (p : SP) : List Key := [.inr p.1, .inr p.2]
theorem pkey_inj {p q : SP} (h : pkey p = pkey q) : p = q := by
  unfold pkey at h
  injection h with h1 h2
  injection h2 with h2 _
  exact Prod.ext (Sum.inr.inj h1) (Sum.inr.inj h2)
theorem dctomp_pairs {g : TDG} {tt : TDT} {tk tv : TDE} {P : D → Prop} {env : De} (v : D) : ∀ (l : List SP) (acc : List (List Key × D)), (∀ a ∈ l, ∀ (Q : List Key → D → Prop) (Z : Prop), Q (pkey a) v → g (pairD a) env fun env' => tt env' fun b => if b = true then tk env' fun k => tv env' fun y => ob (tupK k) fun k => Q k y else Z) →
    acc.length + l.length ≤ 1000000 → (∀ kds : List (List Key × D), (∀ z, z ∈ kds.map (·.1) ↔ z ∈ acc.map (·.1) ∨ z ∈ l.map pkey) → P (.dct kds)) → dDctomp g tt tk tv P env (l.map pairD) acc
  | [], acc, _, _, q => q acc fun z => by simp
  | a :: l, acc, h, hl, q => by
    refine h a List.mem_cons_self (fun k y => acc.length < sizeLine ∧ dDctomp g tt tk tv P env (l.map pairD) (putD acc k y)) _ ⟨szM (by simp at hl; omega), ?_⟩
    refine dctomp_pairs v l _ (fun b hb => h b (List.mem_cons_of_mem _ hb)) (by have := put_lenG acc (pkey a) v; simp at hl; omega) fun kds hk => q kds fun z => ?_
    rw [hk, keys_putG, List.map_cons, List.mem_cons, or_assoc]
/-- the pairs that a dict knows -/
def KnowsP (kds : List (List Key × D)) (ps : List SP) : Prop := ∀ p : SP, pkey p ∈ kds.map (·.1) ↔ p ∈ ps
theorem bIn_knP {neg : Bool} {kds : List (List Key × D)} {ps : List SP} (h : KnowsP kds ps) (p : SP) : bIn neg (pairD p) (.dct kds) = some (.bl (neg ^^ decide (p ∈ ps))) := by
  show (none : Option D).or ((some (D.bl (neg ^^ (valD kds (pkey p)).isSome))).or _) = _
  have e : (valD kds (pkey p)).isSome = decide (p ∈ ps) := by
    rw [Bool.eq_iff_iff, has_keyG, h p, decide_eq_true_iff]
  rw [e]
  rfl
/-! ### links -/
/-- each two names that follow each other -/
def Lk : List Str → List SP
  | a :: b :: r => (a, b) :: Lk (b :: r)
  | _ => []
theorem zip_lk : ∀ zs : List Str, zipD (zs.map D.str) ((zs.drop 1).map D.str) = (Lk zs).map pairD
  | [] => rfl
  | [_] => rfl
  | a :: b :: r => by
    have := zip_lk (b :: r)
    simp only [List.map_cons, List.drop_succ_cons, List.drop_zero, zipD, Lk] at this ⊢
    rw [this]
    rfl
theorem lk_len : ∀ zs : List Str, (Lk zs).length = zs.length - 1
  | [] => rfl
  | [_] => rfl
  | a :: b :: r => by
    have := lk_len (b :: r)
    simp only [Lk, List.length_cons] at this ⊢
    omega
theorem lk_mem : ∀ {zs : List Str} {p : SP}, p ∈ Lk zs → p.1 ∈ zs ∧ p.2 ∈ zs
  | [], _, h => by cases h
  | [_], _, h => by cases h
  | a :: b :: r, p, h => by
    rw [Lk, List.mem_cons] at h
    rcases h with rfl | h
    · exact ⟨by simp, by simp⟩
    · obtain ⟨h1, h2⟩ := lk_mem h
      exact ⟨List.mem_cons_of_mem _ h1, List.mem_cons_of_mem _ h2⟩
/-- names[1:] -/
theorem cut_rest {d : D} {zs : List Str} (h : IsSeq d zs) (hl : 1 ≤ zs.length) : ∃ e, cutA d (some 1) none = some e ∧ ((d = .lst (zs.map D.str) ∧ e = .lst ((zs.drop 1).map D.str)) ∨ (d = .tup (zs.map D.str) ∧ e = .tup ((zs.drop 1).map D.str))) := by
  have c := cut_from (zs.map D.str) 0
  rw [← List.map_drop] at c
  rcases h with rfl | rfl
  · exact ⟨_, rfl, .inl ⟨rfl, congrArg D.lst c⟩⟩
  · refine ⟨.tup (cutD (zs.map D.str) (some 1) none), if_neg fun h => ?_, .inr ⟨rfl, congrArg D.tup c⟩⟩
    have h0 := h.1
    rw [List.length_map] at h0
    rw [show (some 1 : Option Int) = some ((1 : Nat) : Int) from rfl, HT.sIx_nat] at h0
    omega
theorem zip_rest {da : TDE} {dbb : TDE} {env : De} {Q : List D → Prop} {d : D} {zs : List Str} (h : IsSeq d zs) (hl : 1 ≤ zs.length) (e1 : ∀ P : D → Prop, da env P = P d) (e2 : ∀ P : D → Prop, dbb env P = ob (cutA d (some 1) none) P) (q : Q ((Lk zs).map pairD)) : iZp da dbb env Q := by
  obtain ⟨e, ec, hh⟩ := cut_rest h hl
  rcases hh with ⟨rfl, rfl⟩ | ⟨rfl, rfl⟩
  · refine .inl ?_
    rw [twoD, e1, e2, ec]
    show Q (zipD _ _)
    rw [zip_lk]
    exact q
  · refine .inr ?_
    rw [twoD, e1, e2, ec]
    show Q (zipD _ _)
    rw [zip_lk]
    exact q
def sp_is_linked : DSp := fun ds P => ∃ e d zs ps, ds = [e, d] ∧ IsPrs e ps ∧ IsSeq d zs ∧ 1 ≤ zs.length ∧ zs.length ≤ 1000 ∧ ps.length ≤ 1000 ∧ P (.bl ((Lk zs).all fun p => decide (p ∈ ps)))
def d_is_linked : TDS := (sSeq (sSet 2 (dDct (iSeq (dV 0)) (gNm 3) tYesD (dV 3) (dC (.bl true)) [3]))
  (sRet (dCa allD (aCons (dLc (iZp (dV 1) (dCut cutA (dV 1) (oSome (dC (.int 1))) oNone)) (gNm 3) tYesD (dO2 (bIn false) (dV 3) (dV 2)) [3]) aNil))))
theorem ln_is_linked {ds : List D} {P : D → Prop} (h : sp_is_linked ds P) : ds.length = 2 := by obtain ⟨_, _, _, _, rfl, _⟩ := h; rfl
theorem seq_prs {d : D} {ps : List SP} (h : IsPrs d ps) {P : List D → Prop} (q : P (ps.map pairD)) : ob (lstD d) P ∨ ob (tupD d) P ∨ ob (sgnD d) P := by
  rcases h with rfl | rfl
  · exact .inl q
  · exact .inr (.inl q)
theorem rd_is_linked {ds : List D} {P : D → Prop} (h : sp_is_linked ds P) : d_is_linked (fin false P) (st 4 ds) := by
  obtain ⟨e, d, zs, ps, rfl, he, hd, l1, lz, lp, q⟩ := h
  simp only [d_is_linked, dC, dV, dB, dO2, ob_some, dT, dAndT, dOrT, dNotT, dIf, dAndV, dOrV, dNotV, dChain, aNil, aCons, dTup, dLst, dCut, oNone, oSome, dRev, dNeg, dTru, dCa, dIs, dIsA, dCall, dCallK, sNil, sSeq, sNever, sBrk, sCont, sIf, sRet, sRetO, sRetE, sSet, sSetO, sDrop, sPar, sPar3, kn, enOf, owD, sAsg, gNm, gsNil, gsCons, gTp, sApp, sIns, sExt, sClr, sRev, sPut, sFrz, owAt, fin, st, iRng, iRngB, iSeq, lstD, tupD, sFor, dLc, dDc, wipeE, tYesD, dIndex, dSort, dDictZip, dMeth, dFld, dMk, List.map_cons, List.map_nil, List.length_cons, List.length_nil, List.replicate_succ, List.replicate_zero, List.cons_append, List.nil_append, List.append_nil, List.getElem?_cons_zero, List.getElem?_cons_succ, List.set_cons_zero, List.set_cons_succ, Option.bind_some, Option.map_some, Nat.reduceSub, Nat.reduceAdd, kwP, List.getD_cons_zero, List.getD_cons_succ, dDct]
  refine seq_prs he ?_
  refine dctomp_pairs (.bl true) ps [] (fun p hp Q Z hQ => ?_) (by simp; omega) (fun kds hk => ?_)
  · simp only [dC, dV, dB, dO2, ob_some, dT, dAndT, dOrT, dNotT, dIf, dAndV, dOrV, dNotV, dChain, aNil, aCons, dTup, dLst, dCut, oNone, oSome, dRev, dNeg, dTru, dCa, dIs, dIsA, dCall, dCallK, sNil, sSeq, sNever, sBrk, sCont, sIf, sRet, sRetO, sRetE, sSet, sSetO, sDrop, sPar, sPar3, kn, enOf, owD, sAsg, gNm, gsNil, gsCons, gTp, sApp, sIns, sExt, sClr, sRev, sPut, sFrz, owAt, fin, st, iRng, iRngB, iSeq, lstD, tupD, sFor, dLc, dDc, wipeE, tYesD, dIndex, dSort, dDictZip, dMeth, dFld, dMk, List.map_cons, List.map_nil, List.length_cons, List.length_nil, List.replicate_succ, List.replicate_zero, List.cons_append, List.nil_append, List.append_nil, List.getElem?_cons_zero, List.getElem?_cons_succ, List.set_cons_zero, List.set_cons_succ, Option.bind_some, Option.map_some, Nat.reduceSub, Nat.reduceAdd, kwP, List.getD_cons_zero, List.getD_cons_succ, pairD, tupK, keysD, keyD, Option.bind_some, Option.map_some, if_true]
    exact hQ
  · have kn : KnowsP kds ps := fun p => by
      rw [hk]
      constructor
      · rintro (h | h)
        · cases h
        · obtain ⟨y, hy, e⟩ := List.mem_map.mp h
          rw [← pkey_inj e]
          exact hy
      · exact fun h => .inr (List.mem_map.mpr ⟨p, h, rfl⟩)
    refine zip_rest hd l1 (fun _ => by simp only [dC, dV, dB, dO2, ob_some, dT, dAndT, dOrT, dNotT, dIf, dAndV, dOrV, dNotV, dChain, aNil, aCons, dTup, dLst, dCut, oNone, oSome, dRev, dNeg, dTru, dCa, dIs, dIsA, dCall, dCallK, sNil, sSeq, sNever, sBrk, sCont, sIf, sRet, sRetO, sRetE, sSet, sSetO, sDrop, sPar, sPar3, kn, enOf, owD, sAsg, gNm, gsNil, gsCons, gTp, sApp, sIns, sExt, sClr, sRev, sPut, sFrz, owAt, fin, st, iRng, iRngB, iSeq, lstD, tupD, sFor, dLc, dDc, wipeE, tYesD, dIndex, dSort, dDictZip, dMeth, dFld, dMk, List.map_cons, List.map_nil, List.length_cons, List.length_nil, List.replicate_succ, List.replicate_zero, List.cons_append, List.nil_append, List.append_nil, List.getElem?_cons_zero, List.getElem?_cons_succ, List.set_cons_zero, List.set_cons_succ, Option.bind_some, Option.map_some, Nat.reduceSub, Nat.reduceAdd, kwP, List.getD_cons_zero, List.getD_cons_succ]) (fun _ => by simp only [dC, dV, dB, dO2, ob_some, dT, dAndT, dOrT, dNotT, dIf, dAndV, dOrV, dNotV, dChain, aNil, aCons, dTup, dLst, dCut, oNone, oSome, dRev, dNeg, dTru, dCa, dIs, dIsA, dCall, dCallK, sNil, sSeq, sNever, sBrk, sCont, sIf, sRet, sRetO, sRetE, sSet, sSetO, sDrop, sPar, sPar3, kn, enOf, owD, sAsg, gNm, gsNil, gsCons, gTp, sApp, sIns, sExt, sClr, sRev, sPut, sFrz, owAt, fin, st, iRng, iRngB, iSeq, lstD, tupD, sFor, dLc, dDc, wipeE, tYesD, dIndex, dSort, dDictZip, dMeth, dFld, dMk, List.map_cons, List.map_nil, List.length_cons, List.length_nil, List.replicate_succ, List.replicate_zero, List.cons_append, List.nil_append, List.append_nil, List.getElem?_cons_zero, List.getElem?_cons_succ, List.set_cons_zero, List.set_cons_succ, Option.bind_some, Option.map_some, Nat.reduceSub, Nat.reduceAdd, kwP, List.getD_cons_zero, List.getD_cons_succ]) ?_
    refine comp_map pairD (fun p => D.bl (decide (p ∈ ps))) (Lk zs) [] (fun p hp Q Z hQ => ?_) (by simp; rw [lk_len]; omega) ?_
    · simp only [dC, dV, dB, dO2, ob_some, dT, dAndT, dOrT, dNotT, dIf, dAndV, dOrV, dNotV, dChain, aNil, aCons, dTup, dLst, dCut, oNone, oSome, dRev, dNeg, dTru, dCa, dIs, dIsA, dCall, dCallK, sNil, sSeq, sNever, sBrk, sCont, sIf, sRet, sRetO, sRetE, sSet, sSetO, sDrop, sPar, sPar3, kn, enOf, owD, sAsg, gNm, gsNil, gsCons, gTp, sApp, sIns, sExt, sClr, sRev, sPut, sFrz, owAt, fin, st, iRng, iRngB, iSeq, lstD, tupD, sFor, dLc, dDc, wipeE, tYesD, dIndex, dSort, dDictZip, dMeth, dFld, dMk, List.map_cons, List.map_nil, List.length_cons, List.length_nil, List.replicate_succ, List.replicate_zero, List.cons_append, List.nil_append, List.append_nil, List.getElem?_cons_zero, List.getElem?_cons_succ, List.set_cons_zero, List.set_cons_succ, Option.bind_some, Option.map_some, Nat.reduceSub, Nat.reduceAdd, kwP, List.getD_cons_zero, List.getD_cons_succ, bIn_knP kn, if_true, Bool.false_bne]
      exact hQ
    · rw [List.nil_append, allD_f]
      exact q
/-! ### counts -/
def cntW (os zs : List Str) : Nat := ((Lk zs).filter fun p => decide (ixS os p.2 < ixS os p.1)).length
def tlD (os : List Str) (ps : List SP) (zs : List Str) : D := if 2 ≤ zs.length ∧ ((Lk zs).all fun p => decide (p ∈ ps)) = true then .int ((cntW os zs : Nat) : Int) else .non
theorem lenD_seq {d : D} {zs : List Str} (h : IsSeq d zs) : lenD [d] = some (.int ((zs.length : Nat) : Int)) := by
  rcases h with rfl | rfl
  · show some (D.int (((zs.map D.str).length : Nat) : Int)) = _
    rw [List.length_map]
  · show some (D.int (((zs.map D.str).length : Nat) : Int)) = _
    rw [List.length_map]
def sp_wrong_count : DSp := fun ds P => ∃ o e d os zs ps, ds = [o, e, d] ∧ IsSeq o os ∧ IsPrs e ps ∧ IsSeq d zs ∧ os.Nodup ∧ os.length ≤ 1000 ∧ zs.length ≤ 1000 ∧ ps.length ≤ 1000 ∧ (∀ p ∈ ps, p.1 ∈ os ∧ p.2 ∈ os) ∧ P (tlD os ps zs)
def d_wrong_count : TDS := (sSeq (sIf (dOrT (dT (dO2 bLt (dCa lenD (aCons (dV 2) aNil)) (dC (.int 2)))) (dNotT (dT (dCall sp_is_linked (aCons (dV 1) (aCons (dV 2) aNil)))))) (sRet (dC .non)) sNil)
  (sSeq (sSet 3 (dCall sp_places (aCons (dV 0) aNil)))
  (sRet (dCa sumD (aCons (dLc (iZp (dV 2) (dCut cutA (dV 2) (oSome (dC (.int 1))) oNone)) (gTp 2 (gsCons (gNm 4) (gsCons (gNm 5) gsNil))) (dT (dO2 bGt (dO2 bIx (dV 3) (dV 4)) (dO2 bIx (dV 3) (dV 5)))) (dC (.int 1)) [4, 5]) aNil)))))
theorem ln_wrong_count {ds : List D} {P : D → Prop} (h : sp_wrong_count ds P) : ds.length = 3 := by obtain ⟨_, _, _, _, _, _, rfl, _⟩ := h; rfl
theorem rd_wrong_count {ds : List D} {P : D → Prop} (h : sp_wrong_count ds P) : d_wrong_count (fin false P) (st 6 ds) := by
  obtain ⟨o, e, d, os, zs, ps, rfl, ho, he, hd, nd, lo, lz, lp, hp, q⟩ := h
  have lt : bLt (.int ((zs.length : Nat) : Int)) (.int 2) = some (.bl (decide (((zs.length : Nat) : Int) < 2))) := rfl
  simp only [d_wrong_count, dC, dV, dB, dO2, ob_some, dT, dAndT, dOrT, dNotT, dIf, dAndV, dOrV, dNotV, dChain, aNil, aCons, dTup, dLst, dCut, oNone, oSome, dRev, dNeg, dTru, dCa, dIs, dIsA, dCall, dCallK, sNil, sSeq, sNever, sBrk, sCont, sIf, sRet, sRetO, sRetE, sSet, sSetO, sDrop, sPar, sPar3, kn, enOf, owD, sAsg, gNm, gsNil, gsCons, gTp, sApp, sIns, sExt, sClr, sRev, sPut, sFrz, owAt, fin, st, iRng, iRngB, iSeq, lstD, tupD, sFor, dLc, dDc, wipeE, tYesD, dIndex, dSort, dDictZip, dMeth, dFld, dMk, List.map_cons, List.map_nil, List.length_cons, List.length_nil, List.replicate_succ, List.replicate_zero, List.cons_append, List.nil_append, List.append_nil, List.getElem?_cons_zero, List.getElem?_cons_succ, List.set_cons_zero, List.set_cons_succ, Option.bind_some, Option.map_some, Nat.reduceSub, Nat.reduceAdd, kwP, List.getD_cons_zero, List.getD_cons_succ, lenD_seq hd, lt]
  by_cases h2 : ((zs.length : Nat) : Int) < 2
  · rw [decide_eq_true h2]
    simp only [if_true]
    rw [tlD, if_neg (fun h => by omega)] at q
    exact q
  · rw [decide_eq_false h2]
    simp only [Bool.false_eq_true, if_false]
    refine ⟨e, d, zs, ps, rfl, he, hd, by omega, lz, lp, ?_⟩
    cases hb : (Lk zs).all fun p => decide (p ∈ ps) with
    | false =>
      rw [tlD, if_neg (fun h => by rw [hb] at h; cases h.2)] at q
      simp only [Bool.not_false, if_true]
      exact q
    | true =>
      rw [tlD, if_pos ⟨by omega, hb⟩] at q
      simp only [Bool.not_true, Bool.false_eq_true, if_false]
      refine ⟨o, os, rfl, ho, by omega, nd, ?_⟩
      simp only [dC, dV, dB, dO2, ob_some, dT, dAndT, dOrT, dNotT, dIf, dAndV, dOrV, dNotV, dChain, aNil, aCons, dTup, dLst, dCut, oNone, oSome, dRev, dNeg, dTru, dCa, dIs, dIsA, dCall, dCallK, sNil, sSeq, sNever, sBrk, sCont, sIf, sRet, sRetO, sRetE, sSet, sSetO, sDrop, sPar, sPar3, kn, enOf, owD, sAsg, gNm, gsNil, gsCons, gTp, sApp, sIns, sExt, sClr, sRev, sPut, sFrz, owAt, fin, st, iRng, iRngB, iSeq, lstD, tupD, sFor, dLc, dDc, wipeE, tYesD, dIndex, dSort, dDictZip, dMeth, dFld, dMk, List.map_cons, List.map_nil, List.length_cons, List.length_nil, List.replicate_succ, List.replicate_zero, List.cons_append, List.nil_append, List.append_nil, List.getElem?_cons_zero, List.getElem?_cons_succ, List.set_cons_zero, List.set_cons_succ, Option.bind_some, Option.map_some, Nat.reduceSub, Nat.reduceAdd, kwP, List.getD_cons_zero, List.getD_cons_succ]
      refine zip_rest hd (by omega) (fun _ => by simp only [dC, dV, dB, dO2, ob_some, dT, dAndT, dOrT, dNotT, dIf, dAndV, dOrV, dNotV, dChain, aNil, aCons, dTup, dLst, dCut, oNone, oSome, dRev, dNeg, dTru, dCa, dIs, dIsA, dCall, dCallK, sNil, sSeq, sNever, sBrk, sCont, sIf, sRet, sRetO, sRetE, sSet, sSetO, sDrop, sPar, sPar3, kn, enOf, owD, sAsg, gNm, gsNil, gsCons, gTp, sApp, sIns, sExt, sClr, sRev, sPut, sFrz, owAt, fin, st, iRng, iRngB, iSeq, lstD, tupD, sFor, dLc, dDc, wipeE, tYesD, dIndex, dSort, dDictZip, dMeth, dFld, dMk, List.map_cons, List.map_nil, List.length_cons, List.length_nil, List.replicate_succ, List.replicate_zero, List.cons_append, List.nil_append, List.append_nil, List.getElem?_cons_zero, List.getElem?_cons_succ, List.set_cons_zero, List.set_cons_succ, Option.bind_some, Option.map_some, Nat.reduceSub, Nat.reduceAdd, kwP, List.getD_cons_zero, List.getD_cons_succ]) (fun _ => by simp only [dC, dV, dB, dO2, ob_some, dT, dAndT, dOrT, dNotT, dIf, dAndV, dOrV, dNotV, dChain, aNil, aCons, dTup, dLst, dCut, oNone, oSome, dRev, dNeg, dTru, dCa, dIs, dIsA, dCall, dCallK, sNil, sSeq, sNever, sBrk, sCont, sIf, sRet, sRetO, sRetE, sSet, sSetO, sDrop, sPar, sPar3, kn, enOf, owD, sAsg, gNm, gsNil, gsCons, gTp, sApp, sIns, sExt, sClr, sRev, sPut, sFrz, owAt, fin, st, iRng, iRngB, iSeq, lstD, tupD, sFor, dLc, dDc, wipeE, tYesD, dIndex, dSort, dDictZip, dMeth, dFld, dMk, List.map_cons, List.map_nil, List.length_cons, List.length_nil, List.replicate_succ, List.replicate_zero, List.cons_append, List.nil_append, List.append_nil, List.getElem?_cons_zero, List.getElem?_cons_succ, List.set_cons_zero, List.set_cons_succ, Option.bind_some, Option.map_some, Nat.reduceSub, Nat.reduceAdd, kwP, List.getD_cons_zero, List.getD_cons_succ]) ?_
      refine comp_filter pairD (fun _ => D.int 1) (fun p => decide (ixS os p.2 < ixS os p.1)) (Lk zs) [] (fun p hm Q Z h1 h0 => ?_) (by simp; rw [lk_len]; omega) ?_
      · have hq := List.all_eq_true.mp hb p hm
        obtain ⟨m1, m2⟩ := hp p (of_decide_eq_true hq)
        have gt : bGt (.int ((ixS os p.1 : Nat) : Int)) (.int ((ixS os p.2 : Nat) : Int)) = some (.bl (decide (((ixS os p.2 : Nat) : Int) < ((ixS os p.1 : Nat) : Int)))) := rfl
        simp only [dC, dV, dB, dO2, ob_some, dT, dAndT, dOrT, dNotT, dIf, dAndV, dOrV, dNotV, dChain, aNil, aCons, dTup, dLst, dCut, oNone, oSome, dRev, dNeg, dTru, dCa, dIs, dIsA, dCall, dCallK, sNil, sSeq, sNever, sBrk, sCont, sIf, sRet, sRetO, sRetE, sSet, sSetO, sDrop, sPar, sPar3, kn, enOf, owD, sAsg, gNm, gsNil, gsCons, gTp, sApp, sIns, sExt, sClr, sRev, sPut, sFrz, owAt, fin, st, iRng, iRngB, iSeq, lstD, tupD, sFor, dLc, dDc, wipeE, tYesD, dIndex, dSort, dDictZip, dMeth, dFld, dMk, List.map_cons, List.map_nil, List.length_cons, List.length_nil, List.replicate_succ, List.replicate_zero, List.cons_append, List.nil_append, List.append_nil, List.getElem?_cons_zero, List.getElem?_cons_succ, List.set_cons_zero, List.set_cons_succ, Option.bind_some, Option.map_some, Nat.reduceSub, Nat.reduceAdd, kwP, List.getD_cons_zero, List.getD_cons_succ, pairD, bIx_plc m1, bIx_plc m2, gt]
        by_cases g : ixS os p.2 < ixS os p.1
        · have g' : ((ixS os p.2 : Nat) : Int) < ((ixS os p.1 : Nat) : Int) := by omega
          rw [decide_eq_true g', if_pos rfl]
          exact ⟨trivial, trivial, h1 (decide_eq_true g)⟩
        · have g' : ¬ ((ixS os p.2 : Nat) : Int) < ((ixS os p.1 : Nat) : Int) := by omega
          rw [decide_eq_false g', if_neg Bool.false_ne_true]
          exact ⟨trivial, trivial, h0 (decide_eq_false g)⟩
      · have es : ∀ l : List SP, sumD [.lst ([] ++ l.map fun _ => D.int 1)] = some (.int ((l.length : Nat) : Int)) := fun l => by
          have := sumD_map (l.map fun _ => (1 : Int))
          rw [List.map_map] at this
          rw [List.nil_append]
          refine this.trans ?_
          congr 2
          clear this
          induction l with
          | nil => rfl
          | cons a l ih => rw [List.map_cons, List.sum_cons, ih, List.length_cons]; omega
        rw [es]
        exact q
def sp_chain_count : DSp := fun ds P => ∃ o e d os zs ps, ds = [o, e, d] ∧ IsSeq o os ∧ IsPrs e ps ∧ IsSeq d zs ∧ os.Nodup ∧ os.length ≤ 1000 ∧ zs.length ≤ 1000 ∧ ps.length ≤ 1000 ∧ (∀ p ∈ ps, p.1 ∈ os ∧ p.2 ∈ os ∧ p.1 ≠ p.2) ∧ (∀ z ∈ os, NameOk z) ∧ P (tlD os ps zs)
def d_chain_count : TDS := (sSeq (sDrop (dCall sp_check_wish (aCons (dV 0) (aCons (dV 1) aNil))))
  (sRet (dCall sp_wrong_count (aCons (dV 0) (aCons (dV 1) (aCons (dV 2) aNil))))))
theorem ln_chain_count {ds : List D} {P : D → Prop} (h : sp_chain_count ds P) : ds.length = 3 := by obtain ⟨_, _, _, _, _, _, rfl, _⟩ := h; rfl
theorem rd_chain_count {ds : List D} {P : D → Prop} (h : sp_chain_count ds P) : d_chain_count (fin false P) (st 3 ds) := by
  obtain ⟨o, e, d, os, zs, ps, rfl, ho, he, hd, nd, lo, lz, lp, hp, nm, q⟩ := h
  simp only [d_chain_count, dC, dV, dB, dO2, ob_some, dT, dAndT, dOrT, dNotT, dIf, dAndV, dOrV, dNotV, dChain, aNil, aCons, dTup, dLst, dCut, oNone, oSome, dRev, dNeg, dTru, dCa, dIs, dIsA, dCall, dCallK, sNil, sSeq, sNever, sBrk, sCont, sIf, sRet, sRetO, sRetE, sSet, sSetO, sDrop, sPar, sPar3, kn, enOf, owD, sAsg, gNm, gsNil, gsCons, gTp, sApp, sIns, sExt, sClr, sRev, sPut, sFrz, owAt, fin, st, iRng, iRngB, iSeq, lstD, tupD, sFor, dLc, dDc, wipeE, tYesD, dIndex, dSort, dDictZip, dMeth, dFld, dMk, List.map_cons, List.map_nil, List.length_cons, List.length_nil, List.replicate_succ, List.replicate_zero, List.cons_append, List.nil_append, List.append_nil, List.getElem?_cons_zero, List.getElem?_cons_succ, List.set_cons_zero, List.set_cons_succ, Option.bind_some, Option.map_some, Nat.reduceSub, Nat.reduceAdd, kwP, List.getD_cons_zero, List.getD_cons_succ]
  refine ⟨o, os, e, ps, rfl, ho, he, by omega, by omega, hp, nm, ?_⟩
  exact ⟨o, e, d, os, zs, ps, rfl, ho, he, hd, nd, lo, lz, lp, fun p h => ⟨(hp p h).1, (hp p h).2.1⟩, q⟩
end DL

namespace DL
open PySem PySem.Spec PyProof.Rows L2 RK
def Pok (p : SP) : Prop := PyData.strOk p.1 = true ∧ PyData.strOk p.2 = true
theorem sh_pok {n : Nat} {p : SP} (h : Pok p) : sh (n + 1) (pairD p) = true := by
  show (sh n (.str p.1) && (sh n (.str p.2) && true)) = true
  have e1 : sh n (.str p.1) = true := by cases n <;> exact h.1
  have e2 : sh n (.str p.2) = true := by cases n <;> exact h.2
  rw [e1, e2]
  rfl
theorem sh_poks {n : Nat} {ps : List SP} (h : ∀ p ∈ ps, Pok p) : sh (n + 2) (.lst (ps.map pairD)) = true := by
  show (ps.map pairD).all (sh (n + 1)) = true
  rw [List.all_eq_true]
  intro d hd
  obtain ⟨p, hp, rfl⟩ := List.mem_map.mp hd
  exact sh_pok (h p hp)
theorem pair_inj {p q : SP} (h : pairD p = pairD q) : p = q := by
  unfold pairD at h
  injection h with h
  injection h with h1 h
  injection h with h2 _
  exact Prod.ext (D.str.inj h1) (D.str.inj h2)
theorem toPA_any : ∀ (ps : List SP) (p : SP), Pok p → (∀ q ∈ ps, Pok q) → ((toPA (ps.map pairD)).any fun z => PyData.eqv z (toP (pairD p))) = decide (p ∈ ps)
  | [], _, _, _ => rfl
  | q :: ps, p, hp, h => by
    rw [List.map_cons, toPA, List.any_cons, toPA_any ps p hp fun z hz => h z (List.mem_cons_of_mem _ hz)]
    have e := eqv_iff 1 (pairD q) (pairD p) (sh_pok (h q List.mem_cons_self)) (sh_pok hp)
    by_cases g : p = q
    · rw [e.mpr (by rw [g])]
      simp [g]
    · have : PyData.eqv (toP (pairD q)) (toP (pairD p)) = false := by
        cases hb : PyData.eqv (toP (pairD q)) (toP (pairD p)) with
        | false => rfl
        | true => exact absurd (pair_inj (e.mp hb)).symm g
      rw [this, Bool.false_or]
      simp [g]
theorem bIn_prs {neg : Bool} {ps : List SP} {p : SP} (hp : Pok p) (h : ∀ q ∈ ps, Pok q) : bIn neg (pairD p) (.lst (ps.map pairD)) = some (.bl (neg ^^ decide (p ∈ ps))) := by
  have e1 := (sh_py 1 (pairD p) (sh_pok hp)).1
  have e2 := (sh_py 2 (.lst (ps.map pairD)) (sh_poks h)).1
  have f : inFlat neg (pairD p) (.lst (ps.map pairD)) = none := by
    unfold inFlat
    show (some (ps.map pairD)).bind _ = none
    rw [Option.bind_some, if_neg (fun h => by cases h.1)]
  have g : inDeep neg (pairD p) (.lst (ps.map pairD)) = some (.bl (neg ^^ decide (p ∈ ps))) := by
    unfold inDeep
    rw [e1, e2]
    show (if SeqAt.shaped (toP (pairD p)) = true ∧ SeqAt.shaped (toP (.lst (ps.map pairD))) = true then some (D.bl (neg ^^ (toPA (ps.map pairD)).any fun z => PyData.eqv z (toP (pairD p)))) else none) = _
    rw [if_pos ⟨shaped_of (n := 1) (by decide) (sh_pok hp), shaped_of (n := 2) (by decide) (sh_poks h)⟩, toPA_any ps p hp h]
  unfold bIn
  rw [f, g]
  rfl
/-! ### wishes that the order fails -/
def sp_wrong : DSp := fun ds P => ∃ (os : List Str) (ps : List SP), ds = [.lst (os.map D.str), .lst (ps.map pairD)] ∧ ps.length ≤ 1000 ∧ (∀ p ∈ ps, p.1 ∈ os ∧ p.2 ∈ os) ∧ P (.lst ((ps.filter fun p => decide (ixS os p.2 < ixS os p.1)).map pairD))
def d_wrong : TDS := (sRet (dLc (iSeq (dV 1)) (gTp 2 (gsCons (gNm 2) (gsCons (gNm 3) gsNil))) (dT (dO2 bLt (dIndex (dV 0) (dV 3)) (dIndex (dV 0) (dV 2)))) (dTup (aCons (dV 2) (aCons (dV 3) aNil))) [2, 3]))
theorem ln_wrong {ds : List D} {P : D → Prop} (h : sp_wrong ds P) : ds.length = 2 := by obtain ⟨_, _, rfl, _⟩ := h; rfl
theorem lt_nn (i j : Nat) : bLt (.int ((i : Nat) : Int)) (.int ((j : Nat) : Int)) = some (.bl (decide (i < j))) := by
  show some (D.bl (decide (((i : Nat) : Int) < ((j : Nat) : Int)))) = _
  have e : decide (((i : Nat) : Int) < ((j : Nat) : Int)) = decide (i < j) := decide_eq_decide.mpr (by omega)
  rw [e]
theorem rd_wrong {ds : List D} {P : D → Prop} (h : sp_wrong ds P) : d_wrong (fin false P) (st 4 ds) := by
  obtain ⟨os, ps, rfl, lp, hp, q⟩ := h
  simp only [d_wrong, dC, dV, dB, dO2, ob_some, dT, dAndT, dOrT, dNotT, dIf, dAndV, dOrV, dNotV, dChain, aNil, aCons, dTup, dLst, dCut, oNone, oSome, dRev, dNeg, dTru, dCa, dIs, dIsA, dCall, dCallK, sNil, sSeq, sNever, sBrk, sCont, sIf, sRet, sRetO, sRetE, sSet, sSetO, sDrop, sPar, sPar3, kn, enOf, owD, sAsg, gNm, gsNil, gsCons, gTp, sApp, sIns, sExt, sClr, sRev, sPut, sFrz, owAt, fin, st, iRng, iRngB, iSeq, lstD, tupD, sFor, dLc, dDc, wipeE, tYesD, dIndex, dSort, dDictZip, dMeth, dFld, dMk, List.map_cons, List.map_nil, List.length_cons, List.length_nil, List.replicate_succ, List.replicate_zero, List.cons_append, List.nil_append, List.append_nil, List.getElem?_cons_zero, List.getElem?_cons_succ, List.set_cons_zero, List.set_cons_succ, Option.bind_some, Option.map_some, Nat.reduceSub, Nat.reduceAdd, kwP, List.getD_cons_zero, List.getD_cons_succ]
  refine .inl ?_
  refine comp_filter pairD pairD (fun p => decide (ixS os p.2 < ixS os p.1)) ps [] (fun p hm Q Z h1 h0 => ?_) (by simp; omega) (by rw [List.nil_append]; exact q)
  obtain ⟨m1, m2⟩ := hp p hm
  simp only [dC, dV, dB, dO2, ob_some, dT, dAndT, dOrT, dNotT, dIf, dAndV, dOrV, dNotV, dChain, aNil, aCons, dTup, dLst, dCut, oNone, oSome, dRev, dNeg, dTru, dCa, dIs, dIsA, dCall, dCallK, sNil, sSeq, sNever, sBrk, sCont, sIf, sRet, sRetO, sRetE, sSet, sSetO, sDrop, sPar, sPar3, kn, enOf, owD, sAsg, gNm, gsNil, gsCons, gTp, sApp, sIns, sExt, sClr, sRev, sPut, sFrz, owAt, fin, st, iRng, iRngB, iSeq, lstD, tupD, sFor, dLc, dDc, wipeE, tYesD, dIndex, dSort, dDictZip, dMeth, dFld, dMk, List.map_cons, List.map_nil, List.length_cons, List.length_nil, List.replicate_succ, List.replicate_zero, List.cons_append, List.nil_append, List.append_nil, List.getElem?_cons_zero, List.getElem?_cons_succ, List.set_cons_zero, List.set_cons_succ, Option.bind_some, Option.map_some, Nat.reduceSub, Nat.reduceAdd, kwP, List.getD_cons_zero, List.getD_cons_succ, pairD, leaf_strs, D.leaf, index_ixS os _ m1, index_ixS os _ m2, lt_nn]
  refine ⟨trivial, trivial, trivial, trivial, trivial, trivial, ?_⟩
  by_cases g : ixS os p.2 < ixS os p.1
  · rw [decide_eq_true g, if_pos rfl]
    exact ⟨by decide, h1 (decide_eq_true g)⟩
  · rw [decide_eq_false g, if_neg Bool.false_ne_true]
    exact h0 (decide_eq_false g)
/-! ### the law's own count -/
theorem lk_rng (x : Str) : ∀ zs : List Str, Lk zs = (List.range (zs.length - 1)).map fun k => (zs.getD k x, zs.getD (k + 1) x)
  | [] => rfl
  | [_] => rfl
  | a :: b :: r => by
    have := lk_rng x (b :: r)
    rw [Lk, this]
    show _ = (List.range (r.length + 1)).map _
    rw [List.range_succ_eq_map, List.map_cons, List.map_map]
    rfl
def sp_tally : DSp := fun ds P => ∃ (os zs : List Str) (ps : List SP), ds = [.lst (os.map D.str), .lst (ps.map pairD), .lst (zs.map D.str)] ∧ zs.length ≤ 1000 ∧ ps.length ≤ 1000 ∧ (∀ z ∈ zs, PyData.strOk z = true) ∧ (∀ z ∈ os, PyData.strOk z = true) ∧ (∀ p ∈ ps, p.1 ∈ os ∧ p.2 ∈ os) ∧ P (tlD os ps zs)
def d_tally : TDS := (sSeq (sSet 3 (dLc (iRng (aCons (dO2 bSub (dCa lenD (aCons (dV 2) aNil)) (dC (.int 1))) aNil)) (gNm 4) tYesD (dTup (aCons (dO2 bIx (dV 2) (dV 4)) (aCons (dO2 bIx (dV 2) (dO2 bAdd (dV 4) (dC (.int 1)))) aNil))) [4]))
  (sSeq (sIf (dOrT (dT (dO2 (bEqN false) (dV 3) (dLst aNil))) (dT (dCa anyD (aCons (dLc (iSeq (dV 3)) (gNm 5) tYesD (dO2 (bIn true) (dV 5) (dV 1)) [5]) aNil)))) (sRet (dC .non)) sNil)
  (sRet (dCa lenD (aCons (dLc (iSeq (dV 3)) (gNm 5) (dT (dO2 (bIn false) (dV 5) (dCall sp_wrong (aCons (dV 0) (aCons (dV 1) aNil))))) (dV 5) [5]) aNil)))))
theorem ln_tally {ds : List D} {P : D → Prop} (h : sp_tally ds P) : ds.length = 3 := by obtain ⟨_, _, _, rfl, _⟩ := h; rfl
theorem rd_tally {ds : List D} {P : D → Prop} (h : sp_tally ds P) : d_tally (fin false P) (st 6 ds) := by
  obtain ⟨os, zs, ps, rfl, lz, lp, okz, oko, hp, q⟩ := h
  have okp : ∀ p ∈ ps, Pok p := fun p h => ⟨oko _ (hp p h).1, oko _ (hp p h).2⟩
  have okl : ∀ p ∈ Lk zs, Pok p := fun p h => ⟨okz _ (lk_mem h).1, okz _ (lk_mem h).2⟩
  have ll := lk_len zs
  have ln : ∀ xs : List D, lenD [.lst xs] = some (.int ((xs.length : Nat) : Int)) := fun _ => rfl
  have sb : ∀ i : Int, bSub (.int i) (.int 1) = some (.int (i - 1)) := fun _ => rfl
  simp only [d_tally, dC, dV, dB, dO2, ob_some, dT, dAndT, dOrT, dNotT, dIf, dAndV, dOrV, dNotV, dChain, aNil, aCons, dTup, dLst, dCut, oNone, oSome, dRev, dNeg, dTru, dCa, dIs, dIsA, dCall, dCallK, sNil, sSeq, sNever, sBrk, sCont, sIf, sRet, sRetO, sRetE, sSet, sSetO, sDrop, sPar, sPar3, kn, enOf, owD, sAsg, gNm, gsNil, gsCons, gTp, sApp, sIns, sExt, sClr, sRev, sPut, sFrz, owAt, fin, st, iRng, iRngB, iSeq, lstD, tupD, sFor, dLc, dDc, wipeE, tYesD, dIndex, dSort, dDictZip, dMeth, dFld, dMk, List.map_cons, List.map_nil, List.length_cons, List.length_nil, List.replicate_succ, List.replicate_zero, List.cons_append, List.nil_append, List.append_nil, List.getElem?_cons_zero, List.getElem?_cons_succ, List.set_cons_zero, List.set_cons_succ, Option.bind_some, Option.map_some, Nat.reduceSub, Nat.reduceAdd, kwP, List.getD_cons_zero, List.getD_cons_succ, ln, List.length_map, sb]
  refine ⟨by omega, by omega, ?_⟩
  rw [show (((zs.length : Nat) : Int) - 1).toNat = zs.length - 1 by omega, rng_map (zs.length - 1)]
  refine comp_map (fun k : Nat => D.int ((k : Nat) : Int)) (fun k => pairD (zs.getD k "", zs.getD (k + 1) "")) (List.range (zs.length - 1)) [] (fun k hk Q Z hQ => ?_) (by simp; omega) ?_
  · have k1 : k + 1 < zs.length := by have := List.mem_range.mp hk; omega
    have g : ∀ j, j < zs.length → (zs.map D.str)[j]? = some (.str (zs.getD j "")) := fun j hj => by
      rw [List.getElem?_map, List.getElem?_eq_getElem hj, List.getD_eq_getElem?_getD, List.getElem?_eq_getElem hj]
      rfl
    have i1 := bIx_l (g k (by omega))
    have i2 := bIx_l (g (k + 1) k1)
    have e : bAdd (.int ((k : Nat) : Int)) (.int 1) = some (.int ((k + 1 : Nat) : Int)) := rfl
    simp only [dC, dV, dB, dO2, ob_some, dT, dAndT, dOrT, dNotT, dIf, dAndV, dOrV, dNotV, dChain, aNil, aCons, dTup, dLst, dCut, oNone, oSome, dRev, dNeg, dTru, dCa, dIs, dIsA, dCall, dCallK, sNil, sSeq, sNever, sBrk, sCont, sIf, sRet, sRetO, sRetE, sSet, sSetO, sDrop, sPar, sPar3, kn, enOf, owD, sAsg, gNm, gsNil, gsCons, gTp, sApp, sIns, sExt, sClr, sRev, sPut, sFrz, owAt, fin, st, iRng, iRngB, iSeq, lstD, tupD, sFor, dLc, dDc, wipeE, tYesD, dIndex, dSort, dDictZip, dMeth, dFld, dMk, List.map_cons, List.map_nil, List.length_cons, List.length_nil, List.replicate_succ, List.replicate_zero, List.cons_append, List.nil_append, List.append_nil, List.getElem?_cons_zero, List.getElem?_cons_succ, List.set_cons_zero, List.set_cons_succ, Option.bind_some, Option.map_some, Nat.reduceSub, Nat.reduceAdd, kwP, List.getD_cons_zero, List.getD_cons_succ, i1, e, i2, if_true]
    exact ⟨by decide, hQ⟩
  · have el : (List.range (zs.length - 1)).map (fun k => pairD (zs.getD k "", zs.getD (k + 1) "")) = (Lk zs).map pairD := by
      rw [lk_rng "" zs, List.map_map]
      rfl
    rw [el, List.nil_append]
    simp only [dC, dV, dB, dO2, ob_some, dT, dAndT, dOrT, dNotT, dIf, dAndV, dOrV, dNotV, dChain, aNil, aCons, dTup, dLst, dCut, oNone, oSome, dRev, dNeg, dTru, dCa, dIs, dIsA, dCall, dCallK, sNil, sSeq, sNever, sBrk, sCont, sIf, sRet, sRetO, sRetE, sSet, sSetO, sDrop, sPar, sPar3, kn, enOf, owD, sAsg, gNm, gsNil, gsCons, gTp, sApp, sIns, sExt, sClr, sRev, sPut, sFrz, owAt, fin, st, iRng, iRngB, iSeq, lstD, tupD, sFor, dLc, dDc, wipeE, tYesD, dIndex, dSort, dDictZip, dMeth, dFld, dMk, List.map_cons, List.map_nil, List.length_cons, List.length_nil, List.replicate_succ, List.replicate_zero, List.cons_append, List.nil_append, List.append_nil, List.getElem?_cons_zero, List.getElem?_cons_succ, List.set_cons_zero, List.set_cons_succ, Option.bind_some, Option.map_some, Nat.reduceSub, Nat.reduceAdd, kwP, List.getD_cons_zero, List.getD_cons_succ]
    obtain ⟨b, eb, hb⟩ := beq_iff (neg := false) (n := 2) (x := .lst ((Lk zs).map pairD)) (y := .lst []) (by decide) (sh_poks okl) rfl
    refine ⟨Nat.zero_le _, ?_⟩
    rw [eb]
    cases b with
    | true =>
      have tt : (false ^^ true) = true := rfl
      simp only [ob_some, tt, if_true]
      have e0 : Lk zs = [] := List.map_eq_nil_iff.mp (D.lst.inj (hb.mp rfl))
      rw [e0] at ll
      rw [tlD, if_neg (fun h => by have := h.1; simp at ll; omega)] at q
      exact q
    | false =>
      have n0 : Lk zs ≠ [] := fun z => by
        have := hb.mpr (by rw [z]; rfl)
        cases this
      have z2 : 2 ≤ zs.length := by
        have : 0 < (Lk zs).length := List.length_pos_iff.mpr n0
        omega
      have tt : (false ^^ false) = false := rfl
      simp only [ob_some, tt, Bool.false_eq_true, if_false]
      refine .inl ?_
      refine comp_map pairD (fun p => D.bl (true ^^ decide (p ∈ ps))) (Lk zs) [] (fun p hm Q Z hQ => ?_) (by simp; omega) ?_
      · simp only [dC, dV, dB, dO2, ob_some, dT, dAndT, dOrT, dNotT, dIf, dAndV, dOrV, dNotV, dChain, aNil, aCons, dTup, dLst, dCut, oNone, oSome, dRev, dNeg, dTru, dCa, dIs, dIsA, dCall, dCallK, sNil, sSeq, sNever, sBrk, sCont, sIf, sRet, sRetO, sRetE, sSet, sSetO, sDrop, sPar, sPar3, kn, enOf, owD, sAsg, gNm, gsNil, gsCons, gTp, sApp, sIns, sExt, sClr, sRev, sPut, sFrz, owAt, fin, st, iRng, iRngB, iSeq, lstD, tupD, sFor, dLc, dDc, wipeE, tYesD, dIndex, dSort, dDictZip, dMeth, dFld, dMk, List.map_cons, List.map_nil, List.length_cons, List.length_nil, List.replicate_succ, List.replicate_zero, List.cons_append, List.nil_append, List.append_nil, List.getElem?_cons_zero, List.getElem?_cons_succ, List.set_cons_zero, List.set_cons_succ, Option.bind_some, Option.map_some, Nat.reduceSub, Nat.reduceAdd, kwP, List.getD_cons_zero, List.getD_cons_succ, bIn_prs (okl p hm) okp, if_true]
        exact hQ
      · rw [List.nil_append, anyD_f]
        simp only [ob_some]
        have ea : ((Lk zs).any fun p => true ^^ decide (p ∈ ps)) = !((Lk zs).all fun p => decide (p ∈ ps)) := by
          rw [List.not_all_eq_any_not]
          congr 1
          funext p
          cases decide (p ∈ ps) <;> rfl
        rw [ea]
        cases hb : (Lk zs).all fun p => decide (p ∈ ps) with
        | false =>
          rw [tlD, if_neg (fun h => by rw [hb] at h; cases h.2)] at q
          simp only [Bool.not_false, if_true]
          exact q
        | true =>
          rw [tlD, if_pos ⟨z2, hb⟩] at q
          simp only [Bool.not_true, Bool.false_eq_true, if_false, dC, dV, dB, dO2, ob_some, dT, dAndT, dOrT, dNotT, dIf, dAndV, dOrV, dNotV, dChain, aNil, aCons, dTup, dLst, dCut, oNone, oSome, dRev, dNeg, dTru, dCa, dIs, dIsA, dCall, dCallK, sNil, sSeq, sNever, sBrk, sCont, sIf, sRet, sRetO, sRetE, sSet, sSetO, sDrop, sPar, sPar3, kn, enOf, owD, sAsg, gNm, gsNil, gsCons, gTp, sApp, sIns, sExt, sClr, sRev, sPut, sFrz, owAt, fin, st, iRng, iRngB, iSeq, lstD, tupD, sFor, dLc, dDc, wipeE, tYesD, dIndex, dSort, dDictZip, dMeth, dFld, dMk, List.map_cons, List.map_nil, List.length_cons, List.length_nil, List.replicate_succ, List.replicate_zero, List.cons_append, List.nil_append, List.append_nil, List.getElem?_cons_zero, List.getElem?_cons_succ, List.set_cons_zero, List.set_cons_succ, Option.bind_some, Option.map_some, Nat.reduceSub, Nat.reduceAdd, kwP, List.getD_cons_zero, List.getD_cons_succ]
          refine .inl ?_
          refine comp_filter pairD pairD (fun p => decide (ixS os p.2 < ixS os p.1)) (Lk zs) [] (fun p hm Q Z h1 h0 => ?_) (by simp; omega) ?_
          · simp only [dC, dV, dB, dO2, ob_some, dT, dAndT, dOrT, dNotT, dIf, dAndV, dOrV, dNotV, dChain, aNil, aCons, dTup, dLst, dCut, oNone, oSome, dRev, dNeg, dTru, dCa, dIs, dIsA, dCall, dCallK, sNil, sSeq, sNever, sBrk, sCont, sIf, sRet, sRetO, sRetE, sSet, sSetO, sDrop, sPar, sPar3, kn, enOf, owD, sAsg, gNm, gsNil, gsCons, gTp, sApp, sIns, sExt, sClr, sRev, sPut, sFrz, owAt, fin, st, iRng, iRngB, iSeq, lstD, tupD, sFor, dLc, dDc, wipeE, tYesD, dIndex, dSort, dDictZip, dMeth, dFld, dMk, List.map_cons, List.map_nil, List.length_cons, List.length_nil, List.replicate_succ, List.replicate_zero, List.cons_append, List.nil_append, List.append_nil, List.getElem?_cons_zero, List.getElem?_cons_succ, List.set_cons_zero, List.set_cons_succ, Option.bind_some, Option.map_some, Nat.reduceSub, Nat.reduceAdd, kwP, List.getD_cons_zero, List.getD_cons_succ]
            refine ⟨os, ps, rfl, lp, hp, ?_⟩
            have hmem : p ∈ ps := of_decide_eq_true (List.all_eq_true.mp hb p hm)
            show ob (bIn false (pairD p) (.lst ((ps.filter fun p => decide (ixS os p.2 < ixS os p.1)).map pairD))) _
            rw [bIn_prs (okl p hm) fun q hq => okp q (List.mem_filter.mp hq).1]
            have ed : decide (p ∈ ps.filter fun p => decide (ixS os p.2 < ixS os p.1)) = decide (ixS os p.2 < ixS os p.1) := decide_eq_decide.mpr (by rw [List.mem_filter, decide_eq_true_eq]; exact ⟨fun h => h.2, fun h => ⟨hmem, h⟩⟩)
            rw [ed]
            cases hd : decide (ixS os p.2 < ixS os p.1) with
            | true => exact h1 hd
            | false => exact h0 hd
          · rw [List.nil_append, ln, List.length_map]
            exact q
/-! ### a walk along the wishes -/
def WkOk (ps : List SP) (z : Str) (ys : List Str) : Prop := ∀ y ∈ ys, y = z ∨ ∃ p ∈ ps, y = p.2
def sp_walk : DSp := fun ds P => ∃ (ps : List SP) (z : Str) (n : Int), ds = [.bag, .lst (ps.map pairD), .str z, .int n] ∧ 0 ≤ n ∧ n ≤ 10 ∧ ps.length ≤ 1000 ∧ (∀ p ∈ ps, Pok p) ∧ ∀ ys : List Str, ys ≠ [] → ys.length ≤ 11 → WkOk ps z ys → P (.lst (ys.map D.str))
def d_walk : TDS := (sSeq (sSetO 4 (dLst (aCons (dV 2) aNil)))
  (sSeq (sFor (iRng (aCons (dV 3) aNil)) (gNm 5) (sSeq (sSet 6 (dLc (iSeq (dV 1)) (gTp 2 (gsCons (gNm 7) (gsCons (gNm 8) gsNil))) (dT (dO2 (bEqN false) (dV 7) (dO2 bIx (dB 4) (dNeg (dC (.int 1)))))) (dV 8) [7, 8]))
  (sIf (dT (dO2 (bEqN true) (dV 6) (dLst aNil))) (sApp 4 (dCall sp_of (aCons (dV 0) (aCons (dV 6) aNil)))) sNil)))
  (sRetO 4)))
theorem ln_walk {ds : List D} {P : D → Prop} (h : sp_walk ds P) : ds.length = 4 := by obtain ⟨_, _, _, rfl, _⟩ := h; rfl
theorem beq_s (neg : Bool) (a b : Str) : bEqN neg (.str a) (.str b) = some (.bl (neg ^^ decide (a = b))) := by simp [bEqN, eqS]
theorem bIx_lst (xs : List D) (v : D) : bIx (.lst (xs ++ [v])) (.int (-1)) = some v := by
  have : atI (xs ++ [v]) (-1) = some v := by
    have e : ixN (xs ++ [v]).length (-1) = some xs.length := by
      rw [List.length_append]
      unfold ixN
      rw [if_neg (by decide)]
      simp
      omega
    unfold atI
    rw [e, Option.bind_some]
    simp
  unfold bIx
  show (atI (xs ++ [v]) (-1)).or _ = _
  rw [this]
  rfl
theorem rd_walk {ds : List D} {P : D → Prop} (h : sp_walk ds P) : d_walk (fin true P) (st 9 ds) := by
  obtain ⟨ps, z, n, rfl, n0, n1, lp, okp, q⟩ := h
  simp only [d_walk, dC, dV, dB, dO2, ob_some, dT, dAndT, dOrT, dNotT, dIf, dAndV, dOrV, dNotV, dChain, aNil, aCons, dTup, dLst, dCut, oNone, oSome, dRev, dNeg, dTru, dCa, dIs, dIsA, dCall, dCallK, sNil, sSeq, sNever, sBrk, sCont, sIf, sRet, sRetO, sRetE, sSet, sSetO, sDrop, sPar, sPar3, kn, enOf, owD, sAsg, gNm, gsNil, gsCons, gTp, sApp, sIns, sExt, sClr, sRev, sPut, sFrz, owAt, fin, st, iRng, iRngB, iSeq, lstD, tupD, sFor, dLc, dDc, wipeE, tYesD, dIndex, dSort, dDictZip, dMeth, dFld, dMk, List.map_cons, List.map_nil, List.length_cons, List.length_nil, List.replicate_succ, List.replicate_zero, List.cons_append, List.nil_append, List.append_nil, List.getElem?_cons_zero, List.getElem?_cons_succ, List.set_cons_zero, List.set_cons_succ, Option.bind_some, Option.map_some, Nat.reduceSub, Nat.reduceAdd, kwP, List.getD_cons_zero, List.getD_cons_succ]
  refine ⟨by decide, by omega, by omega, ?_⟩
  refine loop_rng (fun i env => ∃ (pre : List Str) (l : Str) (e5 e6 e7 e8 : En), env = [.fz .bag, .fz (.lst (ps.map pairD)), .fz (.str z), .fz (.int n), .ow ((pre ++ [l]).map D.str), e5, e6, e7, e8] ∧ pre.length ≤ i ∧ WkOk ps z (pre ++ [l])) ⟨[], z, _, _, _, _, rfl, Nat.le_refl _, fun y hy => .inl (by simpa using hy)⟩ (fun i env hi h k hk => ?_) (fun env h => ?_)
  · obtain ⟨pre, l, e5, e6, e7, e8, rfl, hl, ok⟩ := h
    simp only [dC, dV, dB, dO2, ob_some, dT, dAndT, dOrT, dNotT, dIf, dAndV, dOrV, dNotV, dChain, aNil, aCons, dTup, dLst, dCut, oNone, oSome, dRev, dNeg, dTru, dCa, dIs, dIsA, dCall, dCallK, sNil, sSeq, sNever, sBrk, sCont, sIf, sRet, sRetO, sRetE, sSet, sSetO, sDrop, sPar, sPar3, kn, enOf, owD, sAsg, gNm, gsNil, gsCons, gTp, sApp, sIns, sExt, sClr, sRev, sPut, sFrz, owAt, fin, st, iRng, iRngB, iSeq, lstD, tupD, sFor, dLc, dDc, wipeE, tYesD, dIndex, dSort, dDictZip, dMeth, dFld, dMk, List.map_cons, List.map_nil, List.length_cons, List.length_nil, List.replicate_succ, List.replicate_zero, List.cons_append, List.nil_append, List.append_nil, List.getElem?_cons_zero, List.getElem?_cons_succ, List.set_cons_zero, List.set_cons_succ, Option.bind_some, Option.map_some, Nat.reduceSub, Nat.reduceAdd, kwP, List.getD_cons_zero, List.getD_cons_succ]
    refine .inl ?_
    refine comp_filter pairD (fun p => D.str p.2) (fun p => decide (p.1 = l)) ps [] (fun p hm Q Z h1 h0 => ?_) (by simp; omega) ?_
    · simp only [dC, dV, dB, dO2, ob_some, dT, dAndT, dOrT, dNotT, dIf, dAndV, dOrV, dNotV, dChain, aNil, aCons, dTup, dLst, dCut, oNone, oSome, dRev, dNeg, dTru, dCa, dIs, dIsA, dCall, dCallK, sNil, sSeq, sNever, sBrk, sCont, sIf, sRet, sRetO, sRetE, sSet, sSetO, sDrop, sPar, sPar3, kn, enOf, owD, sAsg, gNm, gsNil, gsCons, gTp, sApp, sIns, sExt, sClr, sRev, sPut, sFrz, owAt, fin, st, iRng, iRngB, iSeq, lstD, tupD, sFor, dLc, dDc, wipeE, tYesD, dIndex, dSort, dDictZip, dMeth, dFld, dMk, List.map_cons, List.map_nil, List.length_cons, List.length_nil, List.replicate_succ, List.replicate_zero, List.cons_append, List.nil_append, List.append_nil, List.getElem?_cons_zero, List.getElem?_cons_succ, List.set_cons_zero, List.set_cons_succ, Option.bind_some, Option.map_some, Nat.reduceSub, Nat.reduceAdd, kwP, List.getD_cons_zero, List.getD_cons_succ, pairD, List.map_append, bIx_lst, beq_s, Bool.false_bne]
      refine ⟨trivial, trivial, ?_⟩
      by_cases g : p.1 = l
      · rw [decide_eq_true g, if_pos rfl]
        exact h1 (decide_eq_true g)
      · rw [decide_eq_false g, if_neg Bool.false_ne_true]
        exact h0 (decide_eq_false g)
    · rw [List.nil_append]
      generalize hf : (ps.filter fun p => decide (p.1 = l)) = fs
      have fm : ∀ p ∈ fs, p ∈ ps := fun p h => by rw [← hf] at h; exact (List.mem_filter.mp h).1
      have fl : fs.length ≤ 1000 := by rw [← hf]; exact Nat.le_trans (List.length_filter_le _ _) lp
      refine ⟨Nat.zero_le _, ?_⟩
      have shf : sh 1 (.lst (fs.map fun p => D.str p.2)) = true := by
        show (fs.map fun p => D.str p.2).all (sh 0) = true
        rw [List.all_eq_true]
        intro d hd
        obtain ⟨p, hp, rfl⟩ := List.mem_map.mp hd
        exact (okp p (fm p hp)).2
      refine beq_ob (n := 1) (by decide) shf rfl (fun e => ?_) (fun e => ?_)
      · exact hk _ ⟨pre, l, _, _, _, _, rfl, by omega, ok⟩
      · refine .inl ⟨_, .inl rfl, ?_, by rw [List.length_map]; omega, fun x hx => ?_⟩
        · rw [List.length_map]
          rcases fs with _ | ⟨a, fs⟩
          · exact absurd rfl e
          · simp
        · obtain ⟨p, hp, rfl⟩ := List.mem_map.mp hx
          have e2 : (pre ++ [l]).map D.str ++ [D.str p.2] = ((pre ++ [l]) ++ [p.2]).map D.str := by simp
          rw [e2]
          refine ⟨szM (by simp; omega), hk _ ⟨pre ++ [l], p.2, _, _, _, _, rfl, by simp; omega, fun y hy => ?_⟩⟩
          rcases List.mem_append.mp hy with h | h
          · exact ok y h
          · exact .inr ⟨p, fm p hp, by simpa using h⟩
  · obtain ⟨pre, l, e5, e6, e7, e8, rfl, hl, ok⟩ := h
    simp only [dC, dV, dB, dO2, ob_some, dT, dAndT, dOrT, dNotT, dIf, dAndV, dOrV, dNotV, dChain, aNil, aCons, dTup, dLst, dCut, oNone, oSome, dRev, dNeg, dTru, dCa, dIs, dIsA, dCall, dCallK, sNil, sSeq, sNever, sBrk, sCont, sIf, sRet, sRetO, sRetE, sSet, sSetO, sDrop, sPar, sPar3, kn, enOf, owD, sAsg, gNm, gsNil, gsCons, gTp, sApp, sIns, sExt, sClr, sRev, sPut, sFrz, owAt, fin, st, iRng, iRngB, iSeq, lstD, tupD, sFor, dLc, dDc, wipeE, tYesD, dIndex, dSort, dDictZip, dMeth, dFld, dMk, List.map_cons, List.map_nil, List.length_cons, List.length_nil, List.replicate_succ, List.replicate_zero, List.cons_append, List.nil_append, List.append_nil, List.getElem?_cons_zero, List.getElem?_cons_succ, List.set_cons_zero, List.set_cons_succ, Option.bind_some, Option.map_some, Nat.reduceSub, Nat.reduceAdd, kwP, List.getD_cons_zero, List.getD_cons_succ]
    exact q _ (by simp) (by simp; omega) ok
/-! ### wishes -/
def WsOk (ns : List Str) (ps : List SP) : Prop := ∀ p ∈ ps, p.1 ∈ ns ∧ p.2 ∈ ns ∧ p.1 ≠ p.2
def sp_wish : DSp := fun ds P => ∃ (ns : List Str) (n : Int), ds = [.bag, .lst (ns.map D.str), .int n] ∧ ns ≠ [] ∧ ns.length ≤ 1000 ∧ 0 ≤ n ∧ n ≤ 100 ∧ ∀ ps : List SP, ps.length ≤ 100 → WsOk ns ps → P (.lst (ps.map pairD))
def d_wish : TDS := (sSeq (sPar 3 4 false true (dCall sp_mixed (aCons (dV 0) (aCons (dV 1) aNil))) (dLst aNil))
  (sSeq (sFor (iRng (aCons (dCall sp_pull (aCons (dV 0) (aCons (dO2 bAdd (dV 2) (dC (.int 1))) aNil))) aNil)) (gNm 5) (sSeq (sPar 6 7 false false (dCall sp_of (aCons (dV 0) (aCons (dV 1) aNil))) (dCall sp_of (aCons (dV 0) (aCons (dV 1) aNil))))
  (sIf (dT (dO2 (bEqN true) (dV 6) (dV 7))) (sSeq (sSet 8 (dOrV (dO2 bLt (dIndex (dV 3) (dV 6)) (dIndex (dV 3) (dV 7))) (dO2 (bEqN false) (dCall sp_pull (aCons (dV 0) (aCons (dC (.int 12)) aNil))) (dC (.int 0)))))
  (sApp 4 (dIf (dTru (dV 8)) (dTup (aCons (dV 6) (aCons (dV 7) aNil))) (dTup (aCons (dV 7) (aCons (dV 6) aNil)))))) sNil)))
  (sRetO 4)))
theorem ln_wish {ds : List D} {P : D → Prop} (h : sp_wish ds P) : ds.length = 3 := by obtain ⟨_, _, rfl, _⟩ := h; rfl
theorem rd_wish {ds : List D} {P : D → Prop} (h : sp_wish ds P) : d_wish (fin true P) (st 9 ds) := by
  obtain ⟨ns, n, rfl, ne, ln, n0, n1, q⟩ := h
  have a1 : bAdd (.int n) (.int 1) = some (.int (n + 1)) := rfl
  simp only [d_wish, dC, dV, dB, dO2, ob_some, dT, dAndT, dOrT, dNotT, dIf, dAndV, dOrV, dNotV, dChain, aNil, aCons, dTup, dLst, dCut, oNone, oSome, dRev, dNeg, dTru, dCa, dIs, dIsA, dCall, dCallK, sNil, sSeq, sNever, sBrk, sCont, sIf, sRet, sRetO, sRetE, sSet, sSetO, sDrop, sPar, sPar3, kn, enOf, owD, sAsg, gNm, gsNil, gsCons, gTp, sApp, sIns, sExt, sClr, sRev, sPut, sFrz, owAt, fin, st, iRng, iRngB, iSeq, lstD, tupD, sFor, dLc, dDc, wipeE, tYesD, dIndex, dSort, dDictZip, dMeth, dFld, dMk, List.map_cons, List.map_nil, List.length_cons, List.length_nil, List.replicate_succ, List.replicate_zero, List.cons_append, List.nil_append, List.append_nil, List.getElem?_cons_zero, List.getElem?_cons_succ, List.set_cons_zero, List.set_cons_succ, Option.bind_some, Option.map_some, Nat.reduceSub, Nat.reduceAdd, kwP, List.getD_cons_zero, List.getD_cons_succ, a1]
  refine ⟨_, .inl rfl, by rw [List.length_map]; omega, fun bs0 hb0 => ?_⟩
  obtain ⟨bs, rfl, hb⟩ := perm_str hb0
  refine ⟨by decide, n + 1, rfl, by omega, by omega, fun r r0 r1 => ⟨by omega, by omega, ?_⟩⟩
  refine loop_rng (fun i env => ∃ (ps : List SP) (e5 e6 e7 e8 : En), env = [.fz .bag, .fz (.lst (ns.map D.str)), .fz (.int n), .fz (.lst (bs.map D.str)), .ow (ps.map pairD), e5, e6, e7, e8] ∧ ps.length ≤ i ∧ WsOk ns ps) ⟨[], _, _, _, _, rfl, Nat.le_refl _, fun p hp => nomatch hp⟩ (fun i env hi h k hk => ?_) (fun env h => ?_)
  · obtain ⟨ps, e5, e6, e7, e8, rfl, hl, ok⟩ := h
    have dr : ∀ Q : D → Prop, (∀ a ∈ ns, Q (.str a)) → sp_of [.bag, .lst (ns.map D.str)] Q := fun Q h => by
      refine .inl ⟨_, .inl rfl, ?_, by rw [List.length_map]; omega, fun x hx => ?_⟩
      · rw [List.length_map]
        exact List.length_pos_iff.mpr ne
      · obtain ⟨a, ha, rfl⟩ := List.mem_map.mp hx
        exact h a ha
    simp only [dC, dV, dB, dO2, ob_some, dT, dAndT, dOrT, dNotT, dIf, dAndV, dOrV, dNotV, dChain, aNil, aCons, dTup, dLst, dCut, oNone, oSome, dRev, dNeg, dTru, dCa, dIs, dIsA, dCall, dCallK, sNil, sSeq, sNever, sBrk, sCont, sIf, sRet, sRetO, sRetE, sSet, sSetO, sDrop, sPar, sPar3, kn, enOf, owD, sAsg, gNm, gsNil, gsCons, gTp, sApp, sIns, sExt, sClr, sRev, sPut, sFrz, owAt, fin, st, iRng, iRngB, iSeq, lstD, tupD, sFor, dLc, dDc, wipeE, tYesD, dIndex, dSort, dDictZip, dMeth, dFld, dMk, List.map_cons, List.map_nil, List.length_cons, List.length_nil, List.replicate_succ, List.replicate_zero, List.cons_append, List.nil_append, List.append_nil, List.getElem?_cons_zero, List.getElem?_cons_succ, List.set_cons_zero, List.set_cons_succ, Option.bind_some, Option.map_some, Nat.reduceSub, Nat.reduceAdd, kwP, List.getD_cons_zero, List.getD_cons_succ]
    refine dr _ fun a ha => dr _ fun b hb' => ?_
    simp only [dC, dV, dB, dO2, ob_some, dT, dAndT, dOrT, dNotT, dIf, dAndV, dOrV, dNotV, dChain, aNil, aCons, dTup, dLst, dCut, oNone, oSome, dRev, dNeg, dTru, dCa, dIs, dIsA, dCall, dCallK, sNil, sSeq, sNever, sBrk, sCont, sIf, sRet, sRetO, sRetE, sSet, sSetO, sDrop, sPar, sPar3, kn, enOf, owD, sAsg, gNm, gsNil, gsCons, gTp, sApp, sIns, sExt, sClr, sRev, sPut, sFrz, owAt, fin, st, iRng, iRngB, iSeq, lstD, tupD, sFor, dLc, dDc, wipeE, tYesD, dIndex, dSort, dDictZip, dMeth, dFld, dMk, List.map_cons, List.map_nil, List.length_cons, List.length_nil, List.replicate_succ, List.replicate_zero, List.cons_append, List.nil_append, List.append_nil, List.getElem?_cons_zero, List.getElem?_cons_succ, List.set_cons_zero, List.set_cons_succ, Option.bind_some, Option.map_some, Nat.reduceSub, Nat.reduceAdd, kwP, List.getD_cons_zero, List.getD_cons_succ, beq_s]
    by_cases g : a = b
    · rw [decide_eq_true g]
      have tt : (true ^^ true) = false := rfl
      simp only [tt, Bool.false_eq_true, if_false]
      exact hk _ ⟨ps, _, _, _, _, rfl, by omega, ok⟩
    · rw [decide_eq_false g]
      have tt : (true ^^ false) = true := rfl
      have ia := index_ixS bs a (hb.mem_iff.mpr ha)
      have ib := index_ixS bs b (hb.mem_iff.mpr hb')
      simp only [tt, if_true, leaf_strs, D.leaf, ia, ib, ob_some, lt_nn]
      have put : ∀ (p : SP) (e8' : En), p = (a, b) ∨ p = (b, a) → 2 ≤ sizeLine ∧ (ps.map pairD).length < sizeLine ∧ k [.fz .bag, .fz (.lst (ns.map D.str)), .fz (.int n), .fz (.lst (bs.map D.str)), .ow (ps.map pairD ++ [pairD p]), .fz (.int (0 + (i : Nat))), .fz (.str a), .fz (.str b), e8'] := fun p e8' hp => by
        have e2 : ps.map pairD ++ [pairD p] = (ps ++ [p]).map pairD := by simp
        rw [e2]
        refine ⟨by decide, szM (by simp; omega), hk _ ⟨ps ++ [p], _, _, _, _, rfl, by simp; omega, fun y hy => ?_⟩⟩
        rcases List.mem_append.mp hy with h | h
        · exact ok y h
        · have : y = p := by simpa using h
          rw [this]
          rcases hp with rfl | rfl
          · exact ⟨ha, hb', g⟩
          · exact ⟨hb', ha, fun z => g z.symm⟩
      have tb : ∀ c : Bool, truD (.bl c) = some c := fun _ => rfl
      refine ⟨trivial, trivial, trivial, trivial, ?_⟩
      by_cases g2 : ixS bs a < ixS bs b
      · rw [decide_eq_true g2, if_pos rfl]
        simp only [tb, ob_some, if_true]
        exact put (a, b) _ (.inl rfl)
      · rw [decide_eq_false g2, if_neg Bool.false_ne_true]
        refine ⟨12, rfl, by decide, by decide, fun r2 _ _ => ?_⟩
        simp only [bEq_i, ob_some, tb]
        cases decide (r2 = 0) with
        | true =>
          simp only [if_true]
          exact put (a, b) _ (.inl rfl)
        | false =>
          simp only [Bool.false_eq_true, if_false]
          exact put (b, a) _ (.inr rfl)
  · obtain ⟨ps, e5, e6, e7, e8, rfl, hl, ok⟩ := h
    simp only [dC, dV, dB, dO2, ob_some, dT, dAndT, dOrT, dNotT, dIf, dAndV, dOrV, dNotV, dChain, aNil, aCons, dTup, dLst, dCut, oNone, oSome, dRev, dNeg, dTru, dCa, dIs, dIsA, dCall, dCallK, sNil, sSeq, sNever, sBrk, sCont, sIf, sRet, sRetO, sRetE, sSet, sSetO, sDrop, sPar, sPar3, kn, enOf, owD, sAsg, gNm, gsNil, gsCons, gTp, sApp, sIns, sExt, sClr, sRev, sPut, sFrz, owAt, fin, st, iRng, iRngB, iSeq, lstD, tupD, sFor, dLc, dDc, wipeE, tYesD, dIndex, dSort, dDictZip, dMeth, dFld, dMk, List.map_cons, List.map_nil, List.length_cons, List.length_nil, List.replicate_succ, List.replicate_zero, List.cons_append, List.nil_append, List.append_nil, List.getElem?_cons_zero, List.getElem?_cons_succ, List.set_cons_zero, List.set_cons_succ, Option.bind_some, Option.map_some, Nat.reduceSub, Nat.reduceAdd, kwP, List.getD_cons_zero, List.getD_cons_succ]
    exact q _ (by omega) ok
end DL

namespace DL
open PySem PySem.Spec PyProof.Rows L2 RK
def d_law : TDS := (sSeq (sFor (iRng (aCons (dC (.int 5)) aNil)) (gNm 2) (sSeq (sSet 3 (dCall sp_mixed (aCons (dV 1) (aCons (dCall sp_names (aCons (dV 1) (aCons (dO2 bAdd (dC (.int 1)) (dCall sp_pull (aCons (dV 1) (aCons (dC (.int 6)) aNil)))) aNil))) aNil))))
  (sSeq (sPar 4 5 false false (dCall sp_mixed (aCons (dV 1) (aCons (dV 3) aNil))) (dCall sp_wish (aCons (dV 1) (aCons (dV 3) (aCons (dC (.int 12)) aNil)))))
  (sSeq (sSet 6 (dCall sp_walk (aCons (dV 1) (aCons (dV 5) (aCons (dCall sp_of (aCons (dV 1) (aCons (dV 3) aNil))) (aCons (dCall sp_pull (aCons (dV 1) (aCons (dC (.int 7)) aNil))) aNil))))))
  (sSeq (sSet 7 (dLst (aCons (dV 6) (aCons (dRev (dV 6)) (aCons (dCall sp_some (aCons (dV 1) (aCons (dV 3) aNil))) (aCons (dO2 bAdd (dV 6) (dLst (aCons (dC (.str "A")) aNil))) aNil))))))
  (sFor (iSeq (dO2 bAdd (dV 7) (dLst (aCons (dLst aNil) (aCons (dCut cutA (dV 6) oNone (oSome (dC (.int 1)))) (aCons (dCut cutA (dV 6) (oSome (dC (.int 1))) oNone) (aCons (dO2 bAdd (dV 6) (dV 6)) aNil))))))) (gNm 8) (sSeq (sPar 9 10 false false (dCall sp_tally (aCons (dV 4) (aCons (dV 5) (aCons (dV 8) aNil)))) (dCa listD (aCons (dV 8) aNil)))
  (sSeq (sIf (dNotT (dT (dCall (sp_like 7) (aCons (dLst (aCons (dCall sp_chain_count (aCons (dV 4) (aCons (dV 5) (aCons (dV 10) aNil)))) (aCons (dCallK sp_chain_count [2, 1, 0] (aCons (dCa tupleD (aCons (dV 8) aNil)) (aCons (dV 5) (aCons (dV 4) aNil)))) aNil))) (aCons (dLst (aCons (dV 9) (aCons (dV 9) aNil))) aNil))))) (sRet (dC (.bl false))) sNil)
  (sIf (dT (dO2 (bEqN true) (dV 10) (dV 8))) (sRet (dC (.bl false))) sNil)))))))))
  (sRet (dC (.bl true))))
theorem rd_law : d_law { nx := fun _ => False, rt := fun x => x = .bl true } (.no :: .fz .bag :: List.replicate 9 .no) := by
  simp only [d_law, dC, dV, dB, dO2, ob_some, dT, dAndT, dOrT, dNotT, dIf, dAndV, dOrV, dNotV, dChain, aNil, aCons, dTup, dLst, dCut, oNone, oSome, dRev, dNeg, dTru, dCa, dIs, dIsA, dCall, dCallK, sNil, sSeq, sNever, sBrk, sCont, sIf, sRet, sRetO, sRetE, sSet, sSetO, sDrop, sPar, sPar3, kn, enOf, owD, sAsg, gNm, gsNil, gsCons, gTp, sApp, sIns, sExt, sClr, sRev, sPut, sFrz, owAt, fin, st, iRng, iRngB, iSeq, lstD, tupD, sFor, dLc, dDc, wipeE, tYesD, dIndex, dSort, dDictZip, dMeth, dFld, dMk, List.map_cons, List.map_nil, List.length_cons, List.length_nil, List.replicate_succ, List.replicate_zero, List.cons_append, List.nil_append, List.append_nil, List.getElem?_cons_zero, List.getElem?_cons_succ, List.set_cons_zero, List.set_cons_succ, Option.bind_some, Option.map_some, Nat.reduceSub, Nat.reduceAdd, kwP, List.getD_cons_zero, List.getD_cons_succ]
  refine ⟨by decide, by decide, ?_⟩
  refine loop_rng (fun _ env => ∃ e2 e3 e4 e5 e6 e7 e8 e9 e10, env = [.no, .fz .bag, e2, e3, e4, e5, e6, e7, e8, e9, e10]) ⟨_, _, _, _, _, _, _, _, _, rfl⟩ (fun turn env _ h k hk => ?_) (fun env h => ?_)
  · obtain ⟨e2, e3, e4, e5, e6, e7, e8, e9, e10, rfl⟩ := h
    simp only [dC, dV, dB, dO2, ob_some, dT, dAndT, dOrT, dNotT, dIf, dAndV, dOrV, dNotV, dChain, aNil, aCons, dTup, dLst, dCut, oNone, oSome, dRev, dNeg, dTru, dCa, dIs, dIsA, dCall, dCallK, sNil, sSeq, sNever, sBrk, sCont, sIf, sRet, sRetO, sRetE, sSet, sSetO, sDrop, sPar, sPar3, kn, enOf, owD, sAsg, gNm, gsNil, gsCons, gTp, sApp, sIns, sExt, sClr, sRev, sPut, sFrz, owAt, fin, st, iRng, iRngB, iSeq, lstD, tupD, sFor, dLc, dDc, wipeE, tYesD, dIndex, dSort, dDictZip, dMeth, dFld, dMk, List.map_cons, List.map_nil, List.length_cons, List.length_nil, List.replicate_succ, List.replicate_zero, List.cons_append, List.nil_append, List.append_nil, List.getElem?_cons_zero, List.getElem?_cons_succ, List.set_cons_zero, List.set_cons_succ, Option.bind_some, Option.map_some, Nat.reduceSub, Nat.reduceAdd, kwP, List.getD_cons_zero, List.getD_cons_succ]
    refine ⟨6, rfl, by decide, by decide, fun r r0 r1 => ?_⟩
    have a1 : bAdd (.int 1) (.int r) = some (.int (1 + r)) := rfl
    simp only [a1, ob_some]
    refine ⟨1 + r, rfl, by omega, by omega, fun zs zl zn zd => ?_⟩
    refine ⟨_, .inl rfl, by rw [List.length_map]; omega, fun ns0 hn0 => ?_⟩
    obtain ⟨ns, rfl, hn⟩ := perm_str hn0
    have nn : ∀ z ∈ ns, NameOk z := fun z h => zn z (hn.mem_iff.mp h)
    have nd : ns.Nodup := hn.nodup_iff.mpr zd
    have nl : ns.length = (1 + r).toNat := by rw [hn.length_eq, zl]
    have ne : ns ≠ [] := fun z => by rw [z] at nl; simp at nl; omega
    clear hn0 zn zd zl hn
    refine ⟨_, .inl rfl, by rw [List.length_map]; omega, fun os0 ho0 => ?_⟩
    obtain ⟨os, rfl, ho⟩ := perm_str ho0
    have on : ∀ z ∈ os, NameOk z := fun z h => nn z (ho.mem_iff.mp h)
    have od : os.Nodup := ho.nodup_iff.mpr nd
    have ol : os.length ≤ 1000 := by rw [ho.length_eq]; omega
    refine ⟨ns, 12, rfl, ne, by omega, by decide, by decide, fun ps pl pw => ?_⟩
    have po : ∀ p ∈ ps, p.1 ∈ os ∧ p.2 ∈ os ∧ p.1 ≠ p.2 := fun p h => ⟨ho.mem_iff.mpr (pw p h).1, ho.mem_iff.mpr (pw p h).2.1, (pw p h).2.2⟩
    refine .inl ⟨_, .inl rfl, by rw [List.length_map]; omega, by rw [List.length_map]; omega, fun a0 ha0 => ?_⟩
    obtain ⟨a, ha, rfl⟩ := List.mem_map.mp ha0
    refine ⟨7, rfl, by decide, by decide, fun r2 _ _ => ?_⟩
    refine ⟨ps, a, r2, rfl, by omega, by omega, by omega, fun p h => ⟨name_ok (nn _ (pw p h).1), name_ok (nn _ (pw p h).2.1)⟩, fun ys yne yl yw => ?_⟩
    have yn : ∀ y ∈ ys, y ∈ ns := fun y h => (yw y h).elim (fun e => by rw [e]; exact ha) fun ⟨p, hp, e⟩ => by rw [e]; exact (pw p hp).2.1
    refine ⟨ns, rfl, ne, nd, by omega, fun ss hs => ?_⟩
    have ao : ∀ (xs ws : List Str), xs.length + ws.length ≤ 1000 → bAdd (.lst (xs.map D.str)) (.lst (ws.map D.str)) = some (.lst ((xs ++ ws).map D.str)) := fun xs ws h => by
      rw [bAdd_l (by simp; omega), List.map_append]
    have b1 : bAdd (.lst (ys.map D.str)) (.lst [.str "A"]) = some (.lst ((ys ++ [("A" : Str)]).map D.str)) := ao ys [("A" : Str)] (by simp; omega)
    have b2 : bAdd (.lst (ys.map D.str)) (.lst (ys.map D.str)) = some (.lst ((ys ++ ys).map D.str)) := ao ys ys (by omega)
    have c1 : cutA (.lst (ys.map D.str)) none (some 1) = some (.lst ((ys.take 1).map D.str)) := by
      show some (D.lst (cutD _ _ _)) = _
      have e : cutD (ys.map D.str) none (some 1) = (ys.map D.str).take 1 := by
        unfold cutD
        rw [show (some 1 : Option Int) = some ((1 : Nat) : Int) from rfl, HT.sIx_nat, HT.sIx_none, List.drop_zero, Nat.sub_zero]
        rw [List.take_eq_take_iff]
        omega
      rw [e, List.map_take]
    have c2 : cutA (.lst (ys.map D.str)) (some 1) none = some (.lst ((ys.drop 1).map D.str)) := by
      show some (D.lst (cutD _ _ _)) = _
      have := cut_from (ys.map D.str) 0
      rw [List.map_drop]
      exact congrArg (fun l => some (D.lst l)) this
    have b3 : ∀ x1 x2 x3 x4 x5 x6 x7 x8 : D, bAdd (.lst [x1, x2, x3, x4]) (.lst [x5, x6, x7, x8]) = some (.lst [x1, x2, x3, x4, x5, x6, x7, x8]) := fun _ _ _ _ _ _ _ _ => bAdd_l (by simp)
    simp only [b1, b2, c1, c2, b3, ob_some]
    refine ⟨by decide, by decide, .inl ⟨by decide, by decide, ?_⟩⟩
    have eall : ([.lst (ys.map D.str), .lst (ys.map D.str).reverse, .lst (ss.map D.str), .lst ((ys ++ [("A" : Str)]).map D.str), .lst [], .lst ((ys.take 1).map D.str), .lst ((ys.drop 1).map D.str), .lst ((ys ++ ys).map D.str)] : List D) = [ys, ys.reverse, ss, ys ++ [("A" : Str)], [], ys.take 1, ys.drop 1, ys ++ ys].map fun c => D.lst (c.map D.str) := by
      simp only [List.map_cons, List.map_nil, List.map_reverse]
    rw [eall]
    have sn : ∀ z ∈ ns, PyData.strOk z = true := fun z h => name_ok (nn z h)
    have sy : ∀ y ∈ ys, PyData.strOk y = true := fun y h => sn y (yn y h)
    have sA : PyData.strOk ("A" : Str) = true := by decide +kernel
    have hc : ∀ c ∈ [ys, ys.reverse, ss, ys ++ [("A" : Str)], [], ys.take 1, ys.drop 1, ys ++ ys], c.length ≤ 1000 ∧ ∀ z ∈ c, PyData.strOk z = true := by
      intro c hm
      simp only [List.mem_cons, List.not_mem_nil, or_false] at hm
      rcases hm with rfl | rfl | rfl | rfl | rfl | rfl | rfl | rfl
      · exact ⟨by omega, sy⟩
      · exact ⟨by rw [List.length_reverse]; omega, fun z h => sy z (List.mem_reverse.mp h)⟩
      · exact ⟨hs.2.2.2, fun z h => sn z (hs.2.2.1 z h)⟩
      · refine ⟨by simp; omega, fun z h => ?_⟩
        rcases List.mem_append.mp h with h | h
        · exact sy z h
        · rw [List.mem_singleton.mp h]; exact sA
      · exact ⟨by simp, fun z h => nomatch h⟩
      · exact ⟨by rw [List.length_take]; omega, fun z h => sy z (List.mem_of_mem_take h)⟩
      · exact ⟨by rw [List.length_drop]; omega, fun z h => sy z (List.mem_of_mem_drop h)⟩
      · exact ⟨by simp; omega, fun z h => (List.mem_append.mp h).elim (sy z) (sy z)⟩
    refine loop_all (fun c : List Str => D.lst (c.map D.str)) _ (fun _ env => ∃ e2 e7 e8 e9 e10, env = [.no, .fz .bag, e2, .fz (.lst (ns.map D.str)), .fz (.lst (os.map D.str)), .fz (.lst (ps.map pairD)), .fz (.lst (ys.map D.str)), e7, e8, e9, e10]) ⟨_, _, _, _, _, rfl⟩ (fun pre c post env e h k2 hk2 => ?_) (fun env h => ?_)
    · obtain ⟨e2, e7, e8, e9, e10, rfl⟩ := h
      obtain ⟨cl, cs⟩ := hc c (by rw [e]; simp)
      have li : listD [.lst (c.map D.str)] = some (.lst (c.map D.str)) := rfl
      have ti : tupleD [.lst (c.map D.str)] = some (.tup (c.map D.str)) := rfl
      simp only [dC, dV, dB, dO2, ob_some, dT, dAndT, dOrT, dNotT, dIf, dAndV, dOrV, dNotV, dChain, aNil, aCons, dTup, dLst, dCut, oNone, oSome, dRev, dNeg, dTru, dCa, dIs, dIsA, dCall, dCallK, sNil, sSeq, sNever, sBrk, sCont, sIf, sRet, sRetO, sRetE, sSet, sSetO, sDrop, sPar, sPar3, kn, enOf, owD, sAsg, gNm, gsNil, gsCons, gTp, sApp, sIns, sExt, sClr, sRev, sPut, sFrz, owAt, fin, st, iRng, iRngB, iSeq, lstD, tupD, sFor, dLc, dDc, wipeE, tYesD, dIndex, dSort, dDictZip, dMeth, dFld, dMk, List.map_cons, List.map_nil, List.length_cons, List.length_nil, List.replicate_succ, List.replicate_zero, List.cons_append, List.nil_append, List.append_nil, List.getElem?_cons_zero, List.getElem?_cons_succ, List.set_cons_zero, List.set_cons_succ, Option.bind_some, Option.map_some, Nat.reduceSub, Nat.reduceAdd, kwP, List.getD_cons_zero, List.getD_cons_succ, li, ti]
      refine ⟨os, c, ps, rfl, cl, by omega, cs, fun z h => name_ok (on z h), fun p h => ⟨(po p h).1, (po p h).2.1⟩, ?_⟩
      refine ⟨_, _, _, os, c, ps, rfl, .inl rfl, .inl rfl, .inl rfl, od, ol, cl, by omega, po, on, ?_⟩
      refine ⟨trivial, _, _, _, os, c, ps, rfl, .inl rfl, .inl rfl, .inr rfl, od, ol, cl, by omega, po, on, ?_⟩
      have lk : ∀ n, likeD n (tlD os ps c) = true := fun n => by
        unfold tlD
        split
        · cases n <;> rfl
        · cases n <;> rfl
      refine ⟨by decide, by decide, _, rfl, ?_, ?_⟩
      · show (decide (2 ≤ 100000) && (likeD 5 (tlD os ps c) && (likeD 5 (tlD os ps c) && true))) = true
        rw [lk]
        rfl
      · simp only [Bool.not_true, Bool.false_eq_true, if_false]
        have sc : sh 1 (.lst (c.map D.str)) = true := by
          show (c.map D.str).all (sh 0) = true
          rw [List.all_eq_true]
          intro d hd
          obtain ⟨z, hz, rfl⟩ := List.mem_map.mp hd
          exact cs z hz
        refine beq_ob (n := 1) (by decide) sc sc (fun _ => ?_) (fun z => absurd rfl z)
        exact hk2 _ ⟨_, _, _, _, _, rfl⟩
    · obtain ⟨e2, e7, e8, e9, e10, rfl⟩ := h
      exact hk _ ⟨_, _, _, _, _, _, _, _, _, rfl⟩
  · obtain ⟨e2, e3, e4, e5, e6, e7, e8, e9, e10, rfl⟩ := h
    simp only [dC, dV, dB, dO2, ob_some, dT, dAndT, dOrT, dNotT, dIf, dAndV, dOrV, dNotV, dChain, aNil, aCons, dTup, dLst, dCut, oNone, oSome, dRev, dNeg, dTru, dCa, dIs, dIsA, dCall, dCallK, sNil, sSeq, sNever, sBrk, sCont, sIf, sRet, sRetO, sRetE, sSet, sSetO, sDrop, sPar, sPar3, kn, enOf, owD, sAsg, gNm, gsNil, gsCons, gTp, sApp, sIns, sExt, sClr, sRev, sPut, sFrz, owAt, fin, st, iRng, iRngB, iSeq, lstD, tupD, sFor, dLc, dDc, wipeE, tYesD, dIndex, dSort, dDictZip, dMeth, dFld, dMk, List.map_cons, List.map_nil, List.length_cons, List.length_nil, List.replicate_succ, List.replicate_zero, List.cons_append, List.nil_append, List.append_nil, List.getElem?_cons_zero, List.getElem?_cons_succ, List.set_cons_zero, List.set_cons_succ, Option.bind_some, Option.map_some, Nat.reduceSub, Nat.reduceAdd, kwP, List.getD_cons_zero, List.getD_cons_succ]
end DL

namespace RK
open PySem PySem.Spec PyProof.Rows L2 DL
def topS (i : Nat) : Stmt := PySem.Challenge.pw_raisekeys_k35_counts_of_chains.main.body.getD i (.Pass ⟨0, 0, 0, 0⟩)
abbrev s_DeskError___init : Stmt := inClass (topS 1) 0
abbrev s_BadWish___init : Stmt := inClass (topS 2) 0
abbrev s_check_wish : Stmt := topS 4
abbrev s_is_pair : Stmt := topS 5
abbrev s_places : Stmt := topS 6
abbrev s_is_linked : Stmt := topS 7
abbrev s_wrong_count : Stmt := topS 9
abbrev s_chain_count : Stmt := topS 11
abbrev s_bag : Stmt := topS 13
abbrev s_pull : Stmt := topS 14
abbrev s_of : Stmt := topS 15
abbrev s_like : Stmt := topS 16
abbrev s_mixed : Stmt := topS 17
abbrev s_some : Stmt := topS 18
abbrev s_names : Stmt := topS 19
abbrev s_wish : Stmt := topS 20
abbrev s_wrong : Stmt := topS 21
abbrev s_tally : Stmt := topS 22
abbrev s_walk : Stmt := topS 23
abbrev s_law : Stmt := topS 24
theorem sc_check_wish : FnScope ["names", "wish", "known", "at", "item", "name"] ["names", "wish"] (defScope s_check_wish) := ⟨rfl, rfl, rfl, by decide +kernel, rfl, by decide +kernel, by decide +kernel⟩
theorem sc_is_pair : FnScope ["known", "item", "name"] ["known", "item"] (defScope s_is_pair) := ⟨rfl, rfl, rfl, by decide +kernel, rfl, by decide +kernel, by decide +kernel⟩
theorem sc_places : FnScope ["order", "at", "name"] ["order"] (defScope s_places) := ⟨rfl, rfl, rfl, by decide +kernel, rfl, by decide +kernel, by decide +kernel⟩
theorem sc_is_linked : FnScope ["wish", "names", "known", "pair"] ["wish", "names"] (defScope s_is_linked) := ⟨rfl, rfl, rfl, by decide +kernel, rfl, by decide +kernel, by decide +kernel⟩
theorem sc_wrong_count : FnScope ["order", "wish", "chain", "place", "low", "high"] ["order", "wish", "chain"] (defScope s_wrong_count) := ⟨rfl, rfl, rfl, by decide +kernel, rfl, by decide +kernel, by decide +kernel⟩
theorem sc_chain_count : FnScope ["order", "wish", "chain"] ["order", "wish", "chain"] (defScope s_chain_count) := ⟨rfl, rfl, rfl, by decide +kernel, rfl, by decide +kernel, by decide +kernel⟩
theorem sc_bag : FnScope ["_law_script", "_law_salt", "_law_cell"] ["_law_script"] (defScope s_bag) := ⟨rfl, rfl, rfl, by decide +kernel, rfl, by decide +kernel, by decide +kernel⟩
theorem sc_pull : FnScope ["_law_bag_here", "_law_amount", "_law_cell", "_law_got", "_law_seed"] ["_law_bag_here", "_law_amount"] (defScope s_pull) := ⟨rfl, rfl, rfl, by decide +kernel, rfl, by decide +kernel, by decide +kernel⟩
theorem sc_of : FnScope ["_law_bag_here", "_law_things"] ["_law_bag_here", "_law_things"] (defScope s_of) := ⟨rfl, rfl, rfl, by decide +kernel, rfl, by decide +kernel, by decide +kernel⟩
theorem sc_like : FnScope ["_law_found", "_law_due", "_law_k"] ["_law_found", "_law_due"] (defScope s_like) := ⟨rfl, rfl, rfl, by decide +kernel, rfl, by decide +kernel, by decide +kernel⟩
theorem sc_mixed : FnScope ["_law_bag_here", "_law_things", "_law_found", "_law_thing"] ["_law_bag_here", "_law_things"] (defScope s_mixed) := ⟨rfl, rfl, rfl, by decide +kernel, rfl, by decide +kernel, by decide +kernel⟩
theorem sc_some : FnScope ["_law_bag_here", "_law_things", "_law_mixed_here"] ["_law_bag_here", "_law_things"] (defScope s_some) := ⟨rfl, rfl, rfl, by decide +kernel, rfl, by decide +kernel, by decide +kernel⟩
theorem sc_names : FnScope ["_law_bag_here", "_law_count", "_law_letters", "_law_base", "_law_k", "_law_spot", "_law_first", "_law_step"] ["_law_bag_here", "_law_count"] (defScope s_names) := ⟨rfl, rfl, rfl, by decide +kernel, rfl, by decide +kernel, by decide +kernel⟩
theorem sc_wish : FnScope ["_law_bag_here", "_law_names_here", "_law_most", "_law_base", "_law_found", "_law_k", "_law_one", "_law_other", "_law_good"] ["_law_bag_here", "_law_names_here", "_law_most"] (defScope s_wish) := ⟨rfl, rfl, rfl, by decide +kernel, rfl, by decide +kernel, by decide +kernel⟩
theorem sc_wrong : FnScope ["_law_order_z", "_law_wish_z", "_law_low", "_law_high"] ["_law_order_z", "_law_wish_z"] (defScope s_wrong) := ⟨rfl, rfl, rfl, by decide +kernel, rfl, by decide +kernel, by decide +kernel⟩
theorem sc_tally : FnScope ["_law_order_z", "_law_wish_z", "_law_chain_z", "_law_links", "_law_k", "_law_link"] ["_law_order_z", "_law_wish_z", "_law_chain_z"] (defScope s_tally) := ⟨rfl, rfl, rfl, by decide +kernel, rfl, by decide +kernel, by decide +kernel⟩
theorem sc_walk : FnScope ["_law_bag_here", "_law_wish_z", "_law_first", "_law_most", "_law_found", "_law_k", "_law_some_here", "_law_low", "_law_high"] ["_law_bag_here", "_law_wish_z", "_law_first", "_law_most"] (defScope s_walk) := ⟨rfl, rfl, rfl, by decide +kernel, rfl, by decide +kernel, by decide +kernel⟩
theorem sc_law : FnScope ["_law_script", "_law_bag_here", "_law_turn", "_law_names_here", "_law_order_z", "_law_wish_z", "_law_walk_here", "_law_some_here", "_law_chain_z", "_law_due", "_law_handed"] ["_law_script"] (defScope s_law) := ⟨rfl, rfl, rfl, by decide +kernel, rfl, by decide +kernel, by decide +kernel⟩
def kwG_kb_chain_count_0_chain_wish_order {α : Type} : List α → List α → List α
  | [], [c0, c1, c2] => [c2, c1, c0]
  | _, _ => []
structure Txt (K : PySem.W.Frag) (mg : Str → Option Value) where
  f_check_wish : Addr
  fd_check_wish : FuncData
  F_check_wish : Fun K "check_wish" "check_wish" s_check_wish f_check_wish fd_check_wish
  g_check_wish : mg "check_wish" = some (.ref f_check_wish)
  b_check_wish : Binds K fd_check_wish ["names", "wish"] []
  f_is_pair : Addr
  fd_is_pair : FuncData
  F_is_pair : Fun K "is_pair" "is_pair" s_is_pair f_is_pair fd_is_pair
  g_is_pair : mg "is_pair" = some (.ref f_is_pair)
  b_is_pair : Binds K fd_is_pair ["known", "item"] []
  f_places : Addr
  fd_places : FuncData
  F_places : Fun K "places" "places" s_places f_places fd_places
  g_places : mg "places" = some (.ref f_places)
  b_places : Binds K fd_places ["order"] []
  f_is_linked : Addr
  fd_is_linked : FuncData
  F_is_linked : Fun K "is_linked" "is_linked" s_is_linked f_is_linked fd_is_linked
  g_is_linked : mg "is_linked" = some (.ref f_is_linked)
  b_is_linked : Binds K fd_is_linked ["wish", "names"] []
  f_wrong_count : Addr
  fd_wrong_count : FuncData
  F_wrong_count : Fun K "wrong_count" "wrong_count" s_wrong_count f_wrong_count fd_wrong_count
  g_wrong_count : mg "wrong_count" = some (.ref f_wrong_count)
  b_wrong_count : Binds K fd_wrong_count ["order", "wish", "chain"] []
  f_chain_count : Addr
  fd_chain_count : FuncData
  F_chain_count : Fun K "chain_count" "chain_count" s_chain_count f_chain_count fd_chain_count
  g_chain_count : mg "chain_count" = some (.ref f_chain_count)
  b_chain_count : Binds K fd_chain_count ["order", "wish", "chain"] []
  f_bag : Addr
  fd_bag : FuncData
  F_bag : Fun K "_law_bag" "_law_bag" s_bag f_bag fd_bag
  g_bag : mg "_law_bag" = some (.ref f_bag)
  b_bag : Binds K fd_bag ["_law_script"] []
  f_pull : Addr
  fd_pull : FuncData
  F_pull : Fun K "_law_pull" "_law_pull" s_pull f_pull fd_pull
  g_pull : mg "_law_pull" = some (.ref f_pull)
  b_pull : Binds K fd_pull ["_law_bag_here", "_law_amount"] []
  f_of : Addr
  fd_of : FuncData
  F_of : Fun K "_law_of" "_law_of" s_of f_of fd_of
  g_of : mg "_law_of" = some (.ref f_of)
  b_of : Binds K fd_of ["_law_bag_here", "_law_things"] []
  f_like : Addr
  fd_like : FuncData
  F_like : Fun K "_law_like" "_law_like" s_like f_like fd_like
  g_like : mg "_law_like" = some (.ref f_like)
  b_like : Binds K fd_like ["_law_found", "_law_due"] []
  f_mixed : Addr
  fd_mixed : FuncData
  F_mixed : Fun K "_law_mixed" "_law_mixed" s_mixed f_mixed fd_mixed
  g_mixed : mg "_law_mixed" = some (.ref f_mixed)
  b_mixed : Binds K fd_mixed ["_law_bag_here", "_law_things"] []
  f_some : Addr
  fd_some : FuncData
  F_some : Fun K "_law_some" "_law_some" s_some f_some fd_some
  g_some : mg "_law_some" = some (.ref f_some)
  b_some : Binds K fd_some ["_law_bag_here", "_law_things"] []
  f_names : Addr
  fd_names : FuncData
  F_names : Fun K "_law_names" "_law_names" s_names f_names fd_names
  g_names : mg "_law_names" = some (.ref f_names)
  b_names : Binds K fd_names ["_law_bag_here", "_law_count"] []
  f_wish : Addr
  fd_wish : FuncData
  F_wish : Fun K "_law_wish" "_law_wish" s_wish f_wish fd_wish
  g_wish : mg "_law_wish" = some (.ref f_wish)
  b_wish : Binds K fd_wish ["_law_bag_here", "_law_names_here", "_law_most"] []
  f_wrong : Addr
  fd_wrong : FuncData
  F_wrong : Fun K "_law_wrong" "_law_wrong" s_wrong f_wrong fd_wrong
  g_wrong : mg "_law_wrong" = some (.ref f_wrong)
  b_wrong : Binds K fd_wrong ["_law_order_z", "_law_wish_z"] []
  f_tally : Addr
  fd_tally : FuncData
  F_tally : Fun K "_law_tally" "_law_tally" s_tally f_tally fd_tally
  g_tally : mg "_law_tally" = some (.ref f_tally)
  b_tally : Binds K fd_tally ["_law_order_z", "_law_wish_z", "_law_chain_z"] []
  f_walk : Addr
  fd_walk : FuncData
  F_walk : Fun K "_law_walk" "_law_walk" s_walk f_walk fd_walk
  g_walk : mg "_law_walk" = some (.ref f_walk)
  b_walk : Binds K fd_walk ["_law_bag_here", "_law_wish_z", "_law_first", "_law_most"] []
  f_law : Addr
  fd_law : FuncData
  F_law : Fun K "law" "law" s_law f_law fd_law
  g_law : mg "law" = some (.ref f_law)
  b_law : Binds K fd_law ["_law_script"] []
  kb_chain_count_0_chain_wish_order : KBinds K fd_chain_count ["order", "wish", "chain"] ["chain", "wish", "order"] (kwG_kb_chain_count_0_chain_wish_order (α := Value)) (kwG_kb_chain_count_0_chain_wish_order (α := V))
  m_all : mg "all" = none
  m_any : mg "any" = none
  m_bool : mg "bool" = none
  m_enumerate : mg "enumerate" = none
  m_isinstance : mg "isinstance" = none
  m_len : mg "len" = none
  m_list : mg "list" = none
  m_range : mg "range" = none
  m_str : mg "str" = none
  m_sum : mg "sum" = none
  m_tuple : mg "tuple" = none
  m_zip : mg "zip" = none
theorem kd_kb_chain_count_0_chain_wish_order {K : PySem.W.Frag} {N : Addr → Prop} {W : Wd} {H : Hp} {zs : List V} {es : List D} (h : DdAll K N W H zs es) (hl : es.length = 3) : DdAll K N W H (kwG_kb_chain_count_0_chain_wish_order [] zs) (kwP [2, 1, 0] es) := by
  cases h with
  | nil => simp at hl
  | cons h0 h =>
    cases h with
    | nil => simp at hl
    | cons h1 h =>
      cases h with
      | nil => simp at hl
      | cons h2 h =>
        cases h with
        | cons _ _ => simp at hl
        | nil => exact (.cons h2 (.cons h1 (.cons h0 .nil)))

section
variable {P : Program} {w : World} {K : PySem.W.Frag} {mg : Str → Option Value} {base : Heap}
theorem ok_is_pair (T : Txt K mg) {k : Nat} : FnOk P w K mg base CX0 (k + 1) T.f_is_pair T.fd_is_pair ["known", "item"] (lSp K false sp_is_pair) := by
  refine T.F_is_pair.ok sc_is_pair (fun vs H Q E h => ?_) (fun cdv A outer s H vs Q E hr h => ?_)
  · obtain ⟨W, N0, ds, Pd, _, _, _, dd, sp, _⟩ := h
    rw [dd.len]
    exact ln_is_pair sp
  · obtain ⟨W, N0, ds, Pd, al, wn, ok, dd, sp, q⟩ := h
    have tm : PSs (cxOf CX0 P w K mg base ["known", "item", "name"] "is_pair" (defScope s_is_pair) T.f_is_pair cdv A outer s H E).nox (defBody s_is_pair) (lS ⟨K, W, N0, H, false⟩ (d_is_pair)) := ((ss_cons (ds_if (PW.pt (wt_or (dt_not (dt_val (dd_isi (by rfl) T.m_isinstance (c_b (dd_v (pv 1))) (pe_bltn (v := .ty "tuple") (by rfl) T.m_tuple (by decide +kernel) rfl)))) (wt_or1 (dt_ne hr (c_b (dd_len (by rfl) T.m_len (c_b (dd_v (pv 1))))) (c_b dd_int))))) (ss_one (ds_ret (by rfl) dd_bl)) ss_nil)
      (ss_one (ds_ret (by rfl) (dd_and (dd_all (by rfl) T.m_all (c_b (n_c (PE.mono (pe_lc (own := [("name", 2)]) (by rfl) sc_is_pair.nd (db_seq (c_b (dd_v (pv 1)))) (blkOk_by (own := [("name", 2)]) (N := ["known", "item", "name"]) (sc := defScope s_is_pair) (by decide +kernel)) (fun _ _ _ _ _ => (dg_name (i := 2) sc_is_pair.nd rfl (Or.inl rfl))) (fun _ _ _ _ _ => ts_nil) (fun _ _ _ _ _ => (dd_and (dd_isi (by rfl) T.m_isinstance (c_b (dd_v (pv 2))) (pe_bltn (v := .ty "str") (by rfl) T.m_str (by decide +kernel) rfl)) (dd_one (dd_in hr (c_b (dd_v (pv 2))) (c_b (dd_v (pv 0)))))))) (l_lc (by simp)))))) (dd_one (dd_ne hr (c_b (dd_ix hr (c_b (dd_v (pv 1))) (c_b dd_int))) (c_b (dd_ix hr (c_b (dd_v (pv 1))) (c_b dd_int))))))))))
    exact ⟨_, tm, fn_d al wn ok dd q (rd_is_pair sp)⟩
theorem ok_check_wish (T : Txt K mg) {k : Nat} : FnOk P w K mg base CX0 (k + 2) T.f_check_wish T.fd_check_wish ["names", "wish"] (lSp K false sp_check_wish) := by
  refine T.F_check_wish.ok sc_check_wish (fun vs H Q E h => ?_) (fun cdv A outer s H vs Q E hr h => ?_)
  · obtain ⟨W, N0, ds, Pd, _, _, _, dd, sp, _⟩ := h
    rw [dd.len]
    exact ln_check_wish sp
  · obtain ⟨W, N0, ds, Pd, al, wn, ok, dd, sp, q⟩ := h
    have tm : PSs (cxOf CX0 P w K mg base ["names", "wish", "known", "at", "item", "name"] "check_wish" (defScope s_check_wish) T.f_check_wish cdv A outer s H E).nox (defBody s_check_wish) (lS ⟨K, W, N0, H, false⟩ (d_check_wish)) := ((ss_cons (PS.mono (ps_setDc (i := 2) (own := [("name", 5)]) (by rfl) sc_check_wish.nd rfl rfl (swD_true rfl rfl rfl (by decide +kernel)) (db_seq (c_b (dd_v (pv 0)))) (blkOk_by (own := [("name", 5)]) (N := ["names", "wish", "known", "at", "item", "name"]) (sc := defScope s_check_wish) (by decide +kernel)) (fun _ _ _ _ _ => (dg_name (i := 5) sc_check_wish.nd rfl (Or.inl rfl))) (fun _ _ _ _ _ => ts_nil) (fun _ _ _ _ _ => (dd_v (pv 5))) (fun _ _ _ _ _ => dd_bl)) (l_setF_n (l_dc (by simp))))
      (ss_one (ds_for PassesOwn.never rfl (di_enum (by rfl) T.m_enumerate (dd_v (pv 1))) (PG.mono (pg_tup (by rfl) (PGs.mono (pgs_cons (dg_name (i := 3) sc_check_wish.nd rfl (Or.inl rfl)) (PGs.mono (pgs_cons (dg_name (i := 4) sc_check_wish.nd rfl (Or.inl rfl)) dgs_nil) l_gcons)) l_gcons)) (l_gtup rfl)) (ss_one (ds_if (dt_not (dt_val (dd_call (ok_is_pair T) hr (by rfl) T.g_is_pair T.F_is_pair.kp T.b_is_pair pass0 (da_cons (dd_v (pv 2)) (da_cons (dd_v (pv 4)) da_nil))))) (ss_one ds_never) ss_nil))))))
    exact ⟨_, tm, fn_d al wn ok dd q (rd_check_wish sp)⟩
theorem ok_places (T : Txt K mg) {k : Nat} : FnOk P w K mg base CX0 (k + 1) T.f_places T.fd_places ["order"] (lSp K true sp_places) := by
  refine T.F_places.ok sc_places (fun vs H Q E h => ?_) (fun cdv A outer s H vs Q E hr h => ?_)
  · obtain ⟨W, N0, ds, Pd, _, _, _, dd, sp, _⟩ := h
    rw [dd.len]
    exact ln_places sp
  · obtain ⟨W, N0, ds, Pd, al, wn, ok, dd, sp, q⟩ := h
    have tm : PSs (cxOf CX0 P w K mg base ["order", "at", "name"] "places" (defScope s_places) T.f_places cdv A outer s H E).nox (defBody s_places) (lS ⟨K, W, N0, H, true⟩ (d_places)) := ((ss_one (ds_retN (PE.mono (pe_dc (own := [("at", 1), ("name", 2)]) (by rfl) sc_places.nd (db_enum (by rfl) T.m_enumerate (c_b (dd_v (pv 0)))) (blkOk_by (own := [("at", 1), ("name", 2)]) (N := ["order", "at", "name"]) (sc := defScope s_places) (by decide +kernel)) (fun _ _ _ _ _ => (PG.mono (pg_tup (by rfl) (PGs.mono (pgs_cons (dg_name (i := 1) sc_places.nd rfl (Or.inl rfl)) (PGs.mono (pgs_cons (dg_name (i := 2) sc_places.nd rfl (Or.inl rfl)) dgs_nil) l_gcons)) l_gcons)) (l_gtup rfl))) (fun _ _ _ _ _ => ts_nil) (fun _ _ _ _ _ => (dd_v (pv 2))) (fun _ _ _ _ _ => (dd_v (pv 1)))) (l_dc (by simp))))))
    exact ⟨_, tm, fn_d al wn ok dd q (rd_places sp)⟩
theorem ok_is_linked (T : Txt K mg) {k : Nat} : FnOk P w K mg base CX0 (k + 1) T.f_is_linked T.fd_is_linked ["wish", "names"] (lSp K false sp_is_linked) := by
  refine T.F_is_linked.ok sc_is_linked (fun vs H Q E h => ?_) (fun cdv A outer s H vs Q E hr h => ?_)
  · obtain ⟨W, N0, ds, Pd, _, _, _, dd, sp, _⟩ := h
    rw [dd.len]
    exact ln_is_linked sp
  · obtain ⟨W, N0, ds, Pd, al, wn, ok, dd, sp, q⟩ := h
    have tm : PSs (cxOf CX0 P w K mg base ["wish", "names", "known", "pair"] "is_linked" (defScope s_is_linked) T.f_is_linked cdv A outer s H E).nox (defBody s_is_linked) (lS ⟨K, W, N0, H, false⟩ (d_is_linked)) := ((ss_cons (ds_set (i := 2) sc_is_linked.nd rfl (.inr rfl) (n_c (PE.mono (RK.pe_dct (own := [("pair", 3)]) (room_lt hr) (by rfl) sc_is_linked.nd (db_seq (c_b (dd_v (pv 0)))) (blkOk_by (own := [("pair", 3)]) (N := ["wish", "names", "known", "pair"]) (sc := defScope s_is_linked) (by decide +kernel)) (fun _ _ _ _ _ => (dg_name (i := 3) sc_is_linked.nd rfl (Or.inl rfl))) (fun _ _ _ _ _ => ts_nil) (fun _ _ _ _ _ => (dd_v (pv 3))) (fun _ _ _ _ _ => dd_bl)) (l_dct (by simp)))))
      (ss_one (ds_ret (by rfl) (dd_all (by rfl) T.m_all (c_b (n_c (PE.mono (pe_lc (own := [("pair", 3)]) (by rfl) sc_is_linked.nd (db_zipN (by rfl) T.m_zip (dd_v (pv 1)) (dd_cut (c_b (dd_v (pv 1))) (do_some dd_int) do_none)) (blkOk_by (own := [("pair", 3)]) (N := ["wish", "names", "known", "pair"]) (sc := defScope s_is_linked) (by decide +kernel)) (fun _ _ _ _ _ => (dg_name (i := 3) sc_is_linked.nd rfl (Or.inl rfl))) (fun _ _ _ _ _ => ts_nil) (fun _ _ _ _ _ => (dd_in hr (c_b (dd_v (pv 3))) (c_b (dd_v (pv 2)))))) (l_lc (by simp))))))))))
    exact ⟨_, tm, fn_d al wn ok dd q (rd_is_linked sp)⟩
theorem ok_wrong_count (T : Txt K mg) {k : Nat} : FnOk P w K mg base CX0 (k + 2) T.f_wrong_count T.fd_wrong_count ["order", "wish", "chain"] (lSp K false sp_wrong_count) := by
  refine T.F_wrong_count.ok sc_wrong_count (fun vs H Q E h => ?_) (fun cdv A outer s H vs Q E hr h => ?_)
  · obtain ⟨W, N0, ds, Pd, _, _, _, dd, sp, _⟩ := h
    rw [dd.len]
    exact ln_wrong_count sp
  · obtain ⟨W, N0, ds, Pd, al, wn, ok, dd, sp, q⟩ := h
    have tm : PSs (cxOf CX0 P w K mg base ["order", "wish", "chain", "place", "low", "high"] "wrong_count" (defScope s_wrong_count) T.f_wrong_count cdv A outer s H E).nox (defBody s_wrong_count) (lS ⟨K, W, N0, H, false⟩ (d_wrong_count)) := ((ss_cons (ds_if (PW.pt (wt_or (dt_lt (c_b (dd_len (by rfl) T.m_len (c_b (dd_v (pv 2))))) (c_b dd_int)) (wt_or1 (dt_not (dt_val (dd_call (ok_is_linked T) hr (by rfl) T.g_is_linked T.F_is_linked.kp T.b_is_linked pass0 (da_cons (dd_v (pv 1)) (da_cons (dd_v (pv 2)) da_nil)))))))) (ss_one (ds_ret (by rfl) dd_non)) ss_nil)
      (ss_cons (ds_set (i := 3) sc_wrong_count.nd rfl (.inr rfl) (n_c (dn_call (ok_places T) hr (by rfl) T.g_places T.F_places.kp T.b_places pass0 (da_cons (dd_v (pv 0)) da_nil))))
      (ss_one (ds_ret (by rfl) (dd_sum (by rfl) T.m_sum (c_b (n_c (PE.mono (pe_lc (own := [("low", 4), ("high", 5)]) (by rfl) sc_wrong_count.nd (db_zip (by rfl) T.m_zip (dd_v (pv 2)) (dd_cut (c_b (dd_v (pv 2))) (do_some dd_int) do_none)) (blkOk_by (own := [("low", 4), ("high", 5)]) (N := ["order", "wish", "chain", "place", "low", "high"]) (sc := defScope s_wrong_count) (by decide +kernel)) (fun _ _ _ _ _ => (PG.mono (pg_tup (by rfl) (PGs.mono (pgs_cons (dg_name (i := 4) sc_wrong_count.nd rfl (Or.inl rfl)) (PGs.mono (pgs_cons (dg_name (i := 5) sc_wrong_count.nd rfl (Or.inl rfl)) dgs_nil) l_gcons)) l_gcons)) (l_gtup rfl))) (fun _ _ _ _ _ => (ts_one (dt_gt (c_b (dd_ix hr (c_b (dd_v (pv 3))) (c_b (dd_v (pv 4))))) (c_b (dd_ix hr (c_b (dd_v (pv 3))) (c_b (dd_v (pv 5)))))))) (fun _ _ _ _ _ => dd_int)) (l_lc (by simp)))))))))))
    exact ⟨_, tm, fn_d al wn ok dd q (rd_wrong_count sp)⟩
theorem ok_chain_count (T : Txt K mg) {k : Nat} : FnOk P w K mg base CX0 (k + 3) T.f_chain_count T.fd_chain_count ["order", "wish", "chain"] (lSp K false sp_chain_count) := by
  refine T.F_chain_count.ok sc_chain_count (fun vs H Q E h => ?_) (fun cdv A outer s H vs Q E hr h => ?_)
  · obtain ⟨W, N0, ds, Pd, _, _, _, dd, sp, _⟩ := h
    rw [dd.len]
    exact ln_chain_count sp
  · obtain ⟨W, N0, ds, Pd, al, wn, ok, dd, sp, q⟩ := h
    have tm : PSs (cxOf CX0 P w K mg base ["order", "wish", "chain"] "chain_count" (defScope s_chain_count) T.f_chain_count cdv A outer s H E).nox (defBody s_chain_count) (lS ⟨K, W, N0, H, false⟩ (d_chain_count)) := ((ss_cons (ds_expr (dd_call (ok_check_wish T) hr (by rfl) T.g_check_wish T.F_check_wish.kp T.b_check_wish pass0 (da_cons (dd_v (pv 0)) (da_cons (dd_v (pv 1)) da_nil))))
      (ss_one (ds_ret (by rfl) (dd_call (ok_wrong_count T) hr (by rfl) T.g_wrong_count T.F_wrong_count.kp T.b_wrong_count pass0 (da_cons (dd_v (pv 0)) (da_cons (dd_v (pv 1)) (da_cons (dd_v (pv 2)) da_nil))))))))
    exact ⟨_, tm, fn_d al wn ok dd q (rd_chain_count sp)⟩
theorem okb_bag (T : Txt K mg) {k : Nat} : FnOk P w K mg base CX0 (k + 1) T.f_bag T.fd_bag ["_law_script"] (spBag K) := by
  refine T.F_bag.ok sc_bag (fun vs H Q E h => ?_) (fun cdv A outer s H vs Q E hr h => ?_)
  · obtain ⟨a, ns, rfl, _⟩ := h
    rfl
  · obtain ⟨a, ns, rfl, hS, hlen, q⟩ := h
    refine ⟨_, (pss_cons (ps_set (i := 1) sc_bag.nd rfl (.inl rfl) pe_int)
      (pss_cons (ps_for PassesOwn.never rfl (pi_list (pe_slice (r := rSlL K) sl_list (pv 0) po_none (po_some pe_int))) (pg_name (i := 2) sc_bag.nd rfl (.inl rfl)) (pss_one (ps_set (i := 1) sc_bag.nd rfl (.inl rfl) (pe_op op_mod (pe_op op_add (pe_op op_add (pe_op op_mul (pv 1) pe_int) (pe_op op_mod (pv 2) pe_int)) pe_int) pe_int))))
      (pss_one (ps_ret (pe_lst (pa_cons (pe_callTy (T := "list") (r := RK.rListQ K) RK.call_listQ (by rfl) T.m_list (by decide +kernel) (pa_cons (pe_slice (r := rSlL K) sl_list (pv 0) po_none (po_some pe_int)) pa_nil)) (pa_cons pe_int (pa_cons pe_int (pa_cons (pv 1) pa_nil))))))))), ?_⟩
    refine ⟨.ref a, rfl, 63, rfl, a, _, rfl, hS, fun p np => ?_⟩
    rw [cut63 ns hlen]
    have s1 : Same H (upd H p (.lst (ns.map V.int))) := same_new np _
    refine ⟨p, rfl, ⟨_, .inl (.inl upd_same)⟩, for_list (xs := ns.map V.int) (fun _ σ H' => ∃ z y2, σ = [some (.ref a), some (.int z), y2] ∧ 0 ≤ z ∧ z < 2147483647 ∧ H' = upd H p (.lst (ns.map V.int))) ⟨9489, none, rfl, by decide, by decide, rfl⟩ ?_ ?_ ?_⟩
    · rintro i σ H' _ ⟨z, y2, rfl, _, _, rfl⟩
      exact .inl (.inl upd_same)
    · rintro i x σ H' hx ⟨z, y2, rfl, z0, z1, rfl⟩
      rw [List.getElem?_map] at hx
      obtain ⟨c, hc, rfl⟩ := Option.map_eq_some_iff.mp hx
      refine ⟨.int z, rfl, _, _, rfl, rfl, .inl ⟨by omega, by omega⟩, .int c, rfl, _, _, rfl, rfl, (show (0 : Int) < 2147483587 by decide), _, _, rfl, rfl, _, _, rfl, rfl, _, _, rfl, rfl, (show (0 : Int) < 2147483647 by decide), _, _, rfl, Int.emod_nonneg _ (by decide), Int.emod_lt_of_pos _ (by decide), rfl⟩
    · rintro σ H' ⟨z, y2, rfl, z0, z1, rfl⟩
      refine ⟨.ref a, rfl, 63, rfl, a, _, rfl, s1.seq hS, fun p2 np2 => ?_⟩
      rw [cut63 ns hlen]
      have s2 := same_new np2 (.lst (ns.map V.int))
      refine ⟨p2, _, rfl, .inl (.inl (.inl upd_same)), fun l nl => ?_⟩
      have s3 := same_new nl (.lst (ns.map V.int))
      refine ⟨.int z, rfl, (by show 4 ≤ sizeLine; decide), fun b nb => ?_⟩
      have s4 := same_new nb (.lst [.ref l, .int 0, .int 0, .int z])
      have st : Same H _ := ((s1.trans s2).trans s3).trans s4
      refine q _ b l st (((s1.trans s2).trans s3).free nb) ((s1.trans s2).free nl) ⟨ns, 0, 0, z, upd_same, s4 _ _ upd_same, ne_of_none upd_same nb, Nat.zero_le _, hlen, by decide, z0, z1⟩
theorem okb_pull (T : Txt K mg) {k : Nat} : FnOk P w K mg base CX0 (k + 1) T.f_pull T.fd_pull ["_law_bag_here", "_law_amount"] spPull := by
  refine T.F_pull.ok sc_pull (fun vs H Q E h => ?_) (fun cdv A outer s H vs Q E hr h => ?_)
  · obtain ⟨b, s, n, rfl, _⟩ := h
    rfl
  · obtain ⟨b, s, n, rfl, B, n1, n2, q⟩ := h
    obtain ⟨ns, i, big, salt, B⟩ := B
    refine ⟨_, (C8.pss_cut (ps_if (PW.pt (pw_and (pt_cmpR op_eq (pe_ix (r := rIxL K) ix_list (pv 0) pe_int (fun _ _ => rfl)) pe_int (nomark _)) (pw_and1 (pt_cmpR op_lt (pe_ix (r := rIxL K) ix_list (pv 0) pe_int (fun _ _ => rfl)) (pe_callB (id := "len") (r := RK.rLenQ K) RK.call_lenQ (by rfl) T.m_len (by decide +kernel) (pa_cons (pe_ix (r := rIxL K) ix_list (pv 0) pe_int (fun _ _ => rfl)) pa_nil)) (nomark _))))) (pss_cons (ps_set (i := 2) sc_pull.nd rfl (.inl rfl) (pe_ix (r := rIxL K) ix_list (pe_ix (r := rIxL K) ix_list (pv 0) pe_int (fun _ _ => rfl)) (pe_ix (r := rIxL K) ix_list (pv 0) pe_int (fun _ _ => rfl)) (fun _ _ => rfl)))
      (pss_cons (ps_asg (pe_op op_add (pe_ix (r := rIxL K) ix_list (pv 0) pe_int (fun _ _ => rfl)) pe_int) (pg_sub (pv 0) pe_int L2.set_list))
      (pss_one (ps_if (pt_cmpR op_ge (pv 2) (pe_op op_pow pe_int pe_int) (nomark _)) (pss_one (ps_asg (pv 2) (pg_sub (pv 0) pe_int L2.set_list))) (pss_one (ps_asg (pe_op op_mod (pe_op op_add (pe_op op_add (pe_op op_mul (pe_ix (r := rIxL K) ix_list (pv 0) pe_int (fun _ _ => rfl)) pe_int) (pe_op op_mul (pe_op op_mod (pv 2) pe_int) pe_int)) pe_int) pe_int) (pg_sub (pv 0) pe_int L2.set_list))))))) pss_nil)
      (pss_cons (ps_if (pt_cmpR op_gt (pe_ix (r := rIxL K) ix_list (pv 0) pe_int (fun _ _ => rfl)) pe_int (nomark _)) (pss_cons (ps_set (i := 3) sc_pull.nd rfl (.inl rfl) (pe_op op_mod (pe_ix (r := rIxL K) ix_list (pv 0) pe_int (fun _ _ => rfl)) (pv 1)))
      (pss_cons (ps_asg (pe_op op_fdivW (pe_ix (r := rIxL K) ix_list (pv 0) pe_int (fun _ _ => rfl)) (pv 1)) (pg_sub (pv 0) pe_int L2.set_list))
      (pss_one (ps_ret (pv 3))))) pss_nil)
      (pss_cons (ps_set (i := 4) sc_pull.nd rfl (.inl rfl) (pe_ix (r := rIxL K) ix_list (pv 0) pe_int (fun _ _ => rfl)))
      (pss_cons (ps_asg (pe_op op_mod (pe_op op_add (pe_op op_add (pe_op op_mul (pv 4) (pv 4)) (pe_op op_mul (pv 4) pe_int)) pe_int) pe_int) (pg_sub (pv 0) pe_int L2.set_list))
      (pss_one (ps_ret (pe_op op_mod (pe_op op_add (pe_op op_fdivW (pe_ix (r := rIxL K) ix_list (pv 0) pe_int (fun _ _ => rfl)) pe_int) (pe_op op_mul (pe_op op_mod (pe_ix (r := rIxL K) ix_list (pv 0) pe_int (fun _ _ => rfl)) pe_int) pe_int)) (pv 1)))))))), ?_⟩
    refine ⟨fun σ H' => ∃ y2, σ = [some (.ref b), some (.int n), y2, none, none] ∧ KeepT b H H' ∧ ∃ i big salt, BagC H' b s ns i big salt, ?_, ?_⟩
    · -- the first if
      refine ⟨.ref b, rfl, b, _, 2, _, rfl, rfl, SqL.of B.hb, at2, rfl, _, rfl, ite2 (fun c => ?_) (fun c => ?_)⟩
      · refine ⟨.ref b, rfl, b, _, 1, _, rfl, rfl, SqL.of B.hb, at1, .ref b, rfl, b, _, 0, _, rfl, rfl, SqL.of B.hb, at0, s, _, rfl, .inl (SqL.of B.hs), _, _, rfl, rfl, _, rfl, ite2 (fun c2 => ?_) (fun c2 => ?_)⟩
        · have hi : i < ns.length := by
            have := of_decide_eq_true c2
            rw [List.length_map] at this
            omega
          have g : (ns.map V.int)[i]? = some (.int ns[i]) := by
            rw [List.getElem?_map, List.getElem?_eq_getElem hi]
            rfl
          refine ⟨.ref b, rfl, b, _, 0, _, rfl, rfl, SqL.of B.hb, at0, .ref b, rfl, b, _, 1, _, rfl, rfl, SqL.of B.hb, at1, s, _, _, _, rfl, rfl, SqL.of B.hs, atI_nat g, ?_⟩
          refine ⟨.ref b, rfl, b, _, 1, _, rfl, rfl, SqL.of B.hb, at1, _, _, rfl, rfl, .ref b, rfl, b, _, 1, 1, rfl, rfl, B.hb, rfl, ?_⟩
          have k1 : KeepT b H (upd H b (.lst [.ref s, .int (↑i + 1), .int big, .int salt])) := (KeepT.refl b H).upd
          have hs1 : (upd H b (.lst [.ref s, .int (↑i + 1), .int big, .int salt])) s = some (.lst (ns.map V.int)) := by rw [upd_ne B.ne]; exact B.hs
          refine ⟨.int ns[i], rfl, _, _, rfl, rfl, ⟨by decide, by decide, by decide⟩, _, _, rfl, rfl, _, rfl, ite2 (fun c3 => ?_) (fun c3 => ?_)⟩
          · have hc : 0 ≤ ns[i] := by
              have h3 := of_decide_eq_true c3
              have h4 : ((10 : Int) ^ (18 : Int).toNat) = 1000000000000000000 := by decide
              rw [h4] at h3
              omega
            refine ⟨.int ns[i], rfl, .ref b, rfl, b, _, 2, 2, rfl, rfl, upd_same, rfl, ?_⟩
            refine ⟨_, rfl, k1.upd, i + 1, ns[i], salt, ⟨?_, ?_, B.ne, hi, B.hn, hc, B.h1, B.h2⟩⟩
            · rw [upd_same]; rfl
            · rw [upd_ne B.ne]; exact hs1
          · refine ⟨.ref b, rfl, b, _, 3, _, rfl, rfl, SqL.of upd_same, at3, _, _, rfl, rfl, .inr ⟨by decide, by decide⟩, .int ns[i], rfl, _, _, rfl, rfl, (show (0 : Int) < 2147483587 by decide), _, _, rfl, rfl, .inr ⟨by decide, by decide⟩, _, _, rfl, rfl, _, _, rfl, rfl, _, _, rfl, rfl, (show (0 : Int) < 2147483647 by decide), .ref b, rfl, b, _, 3, 3, rfl, rfl, upd_same, rfl, ?_⟩
            refine ⟨_, rfl, k1.upd, i + 1, big, (salt * 40692 + ns[i] % 2147483587 * 48271 + 7) % 2147483647, ⟨?_, ?_, B.ne, hi, B.hn, B.h0, Int.emod_nonneg _ (show (2147483647 : Int) ≠ 0 by decide), Int.emod_lt_of_pos _ (show (0 : Int) < 2147483647 by decide)⟩⟩
            · rw [upd_same]; rfl
            · rw [upd_ne B.ne]; exact hs1
        · exact ⟨_, rfl, KeepT.refl b H, i, big, salt, B⟩
      · exact ⟨_, rfl, KeepT.refl b H, i, big, salt, B⟩
    · rintro σ H1 ⟨y2, rfl, k1, i, big, salt, B⟩
      refine ⟨.ref b, rfl, b, _, 2, _, rfl, rfl, SqL.of B.hb, at2, _, _, rfl, rfl, _, rfl, ite2 (fun c => ?_) (fun c => ?_)⟩
      · refine ⟨.ref b, rfl, b, _, 2, _, rfl, rfl, SqL.of B.hb, at2, .int n, rfl, _, _, rfl, rfl, (show (0 : Int) < n by omega), .ref b, rfl, b, _, 2, _, rfl, rfl, SqL.of B.hb, at2, .int n, rfl, _, _, rfl, rfl, cdivw n1 n2, .ref b, rfl, b, _, 2, 2, rfl, rfl, B.hb, rfl, .int (big % n), rfl, ?_⟩
        refine q _ _ (Int.emod_nonneg _ (by omega)) (Int.emod_lt_of_pos _ (by omega)) k1.upd ⟨ns, i, big / n, salt, ?_, ?_, B.ne, B.hi, B.hn, Int.ediv_nonneg B.h0 (by omega), B.h1, B.h2⟩
        · rw [upd_same]; rfl
        · rw [upd_ne B.ne]; exact B.hs
      · have h1 := B.h1
        have h2 := B.h2
        refine ⟨.ref b, rfl, b, _, 3, _, rfl, rfl, SqL.of B.hb, at3, .int salt, rfl, .int salt, rfl, _, _, rfl, rfl, .inl ⟨by omega, by omega⟩, .int salt, rfl, _, _, rfl, rfl, .inl ⟨by omega, by omega⟩, _, _, rfl, rfl, _, _, rfl, rfl, _, _, rfl, rfl, (show (0 : Int) < 2147483647 by decide), .ref b, rfl, b, _, 3, 3, rfl, rfl, B.hb, rfl, ?_⟩
        refine ⟨.ref b, rfl, b, _, 3, _, rfl, rfl, SqL.of upd_same, at3, _, _, rfl, rfl, cdivw (n := 89) (by decide) (by decide), .ref b, rfl, b, _, 3, _, rfl, rfl, SqL.of upd_same, at3, _, _, rfl, rfl, (show (0 : Int) < 8191 by decide), _, _, rfl, rfl, .inr ⟨by decide, by decide⟩, _, _, rfl, rfl, .int n, rfl, _, _, rfl, rfl, (show (0 : Int) < n by omega), ?_⟩
        refine q _ _ (Int.emod_nonneg _ (by omega)) (Int.emod_lt_of_pos _ (by omega)) k1.upd ⟨ns, i, big, (salt * salt + salt * 69621 + 1013904223) % 2147483647, ?_, ?_, B.ne, B.hi, B.hn, B.h0, Int.emod_nonneg _ (show (2147483647 : Int) ≠ 0 by decide), Int.emod_lt_of_pos _ (show (0 : Int) < 2147483647 by decide)⟩
        · rw [upd_same]; rfl
        · rw [upd_ne B.ne]; exact B.hs
theorem ok_pull (T : Txt K mg) {k : Nat} : FnOk P w K mg base CX0 (k + 1) T.f_pull T.fd_pull ["_law_bag_here", "_law_amount"] (lSp K false sp_pull) := pull_d (okb_pull T)
theorem ok_of (T : Txt K mg) {k : Nat} : FnOk P w K mg base CX0 (k + 2) T.f_of T.fd_of ["_law_bag_here", "_law_things"] (lSp K false sp_of) := by
  refine T.F_of.ok sc_of (fun vs H Q E h => ?_) (fun cdv A outer s H vs Q E hr h => ?_)
  · obtain ⟨W, N0, ds, Pd, _, _, _, dd, sp, _⟩ := h
    rw [dd.len]
    exact ln_of sp
  · obtain ⟨W, N0, ds, Pd, al, wn, ok, dd, sp, q⟩ := h
    have tm : PSs (cxOf CX0 P w K mg base ["_law_bag_here", "_law_things"] "_law_of" (defScope s_of) T.f_of cdv A outer s H E).nox (defBody s_of) (lS ⟨K, W, N0, H, false⟩ (d_of)) := ((ss_one (ds_ret (by rfl) (dd_ix hr (c_b (dd_v (pv 1))) (c_b (dd_call (ok_pull T) hr (by rfl) T.g_pull T.F_pull.kp T.b_pull pass0 (da_cons (dd_v (pv 0)) (da_cons (dd_len (by rfl) T.m_len (c_b (dd_v (pv 1)))) da_nil))))))))
    exact ⟨_, tm, fn_d al wn ok dd q (rd_of sp)⟩
theorem like_all (T : Txt K mg) {k : Nat} : ∀ n : Nat, FnOk P w K mg base CX0 (k + n) T.f_like T.fd_like ["_law_found", "_law_due"] (lSp K false (sp_like n)) := by
  intro n
  induction n with
  | zero => exact ⟨fun _ _ _ _ h => (let ⟨_, _, _, _, _, _, _, _, sp, _⟩ := h; sp.elim), fun _ _ _ _ _ _ _ _ _ _ _ _ _ h => (let ⟨_, _, _, _, _, _, _, _, sp, _⟩ := h; sp.elim)⟩
  | succ n G =>
    refine T.F_like.ok sc_like (fun vs H Q E h => ?_) (fun cdv A outer s H vs Q E hr h => ?_)
    · obtain ⟨W, N0, ds, Pd, _, _, _, dd, sp, _⟩ := h
      rw [dd.len]
      obtain ⟨x, rfl, _⟩ := sp
      rfl
    · obtain ⟨W, N0, ds, Pd, al, wn, ok, dd, sp, q⟩ := h
      have tm : PSs (cxOf CX0 P w K mg base ["_law_found", "_law_due", "_law_k"] "_law_like" (defScope s_like) T.f_like cdv A outer s H E).nox (defBody s_like) (lS ⟨K, W, N0, H, false⟩ (d_like (sp_like n))) := ((ss_cons (ds_if (PW.pt (wt_or (dt_ne hr (c_b (dd_isi (by rfl) T.m_isinstance (c_b (dd_v (pv 1))) (pe_bltn (v := .ty "tuple") (by rfl) T.m_tuple (by decide +kernel) rfl))) (c_b (dd_isi (by rfl) T.m_isinstance (c_b (dd_v (pv 0))) (pe_bltn (v := .ty "tuple") (by rfl) T.m_tuple (by decide +kernel) rfl)))) (wt_or1 (dt_ne hr (c_b (dd_isi (by rfl) T.m_isinstance (c_b (dd_v (pv 1))) (pe_bltn (v := .ty "list") (by rfl) T.m_list (by decide +kernel) rfl))) (c_b (dd_isi (by rfl) T.m_isinstance (c_b (dd_v (pv 0))) (pe_bltn (v := .ty "list") (by rfl) T.m_list (by decide +kernel) rfl))))))) (ss_one (ds_ret (by rfl) dd_bl)) ss_nil)
      (ss_cons (ds_if (dt_not (dt_val (dd_isiT (by rfl) T.m_isinstance (c_b (dd_v (pv 1))) (pe_bltn (v := .ty "tuple") (by rfl) T.m_tuple (by decide +kernel) rfl) (pe_bltn (v := .ty "list") (by rfl) T.m_list (by decide +kernel) rfl)))) (ss_one (ds_ret (by rfl) (dd_and (dd_eq hr (c_b (dd_isi (by rfl) T.m_isinstance (c_b (dd_v (pv 0))) (pe_bltn (v := .ty "bool") (by rfl) T.m_bool (by decide +kernel) rfl))) (c_b (dd_isi (by rfl) T.m_isinstance (c_b (dd_v (pv 1))) (pe_bltn (v := .ty "bool") (by rfl) T.m_bool (by decide +kernel) rfl)))) (dd_one (dd_eq hr (c_b (dd_v (pv 0))) (c_b (dd_v (pv 1)))))))) ss_nil)
      (ss_one (ds_ret (by rfl) (dd_and (dd_eq hr (c_b (dd_len (by rfl) T.m_len (c_b (dd_v (pv 0))))) (c_b (dd_len (by rfl) T.m_len (c_b (dd_v (pv 1)))))) (dd_one (dd_all (by rfl) T.m_all (c_b (n_c (PE.mono (pe_lc (own := [("_law_k", 2)]) (by rfl) sc_like.nd (db_rng (by rfl) T.m_range (da_cons (dd_len (by rfl) T.m_len (c_b (dd_v (pv 1)))) da_nil)) (blkOk_by (own := [("_law_k", 2)]) (N := ["_law_found", "_law_due", "_law_k"]) (sc := defScope s_like) (by decide +kernel)) (fun _ _ _ _ _ => (dg_name (i := 2) sc_like.nd rfl (Or.inl rfl))) (fun _ _ _ _ _ => ts_nil) (fun _ _ _ _ _ => (dd_call G hr (by rfl) T.g_like T.F_like.kp T.b_like pass0 (da_cons (dd_ix hr (c_b (dd_v (pv 0))) (c_b (dd_v (pv 2)))) (da_cons (dd_ix hr (c_b (dd_v (pv 1))) (c_b (dd_v (pv 2)))) da_nil))))) (l_lc (by simp)))))))))))))
      exact ⟨_, tm, fn_d al wn ok dd q (rd_like sp)⟩
theorem ok_like (T : Txt K mg) {k : Nat} : FnOk P w K mg base CX0 (k + 7) T.f_like T.fd_like ["_law_found", "_law_due"] (lSp K false (sp_like 7)) := like_all T 7
theorem ok_mixed (T : Txt K mg) {k : Nat} : FnOk P w K mg base CX0 (k + 2) T.f_mixed T.fd_mixed ["_law_bag_here", "_law_things"] (lSp K true sp_mixed) := by
  refine T.F_mixed.ok sc_mixed (fun vs H Q E h => ?_) (fun cdv A outer s H vs Q E hr h => ?_)
  · obtain ⟨W, N0, ds, Pd, _, _, _, dd, sp, _⟩ := h
    rw [dd.len]
    exact ln_mixed sp
  · obtain ⟨W, N0, ds, Pd, al, wn, ok, dd, sp, q⟩ := h
    have tm : PSs (cxOf CX0 P w K mg base ["_law_bag_here", "_law_things", "_law_found", "_law_thing"] "_law_mixed" (defScope s_mixed) T.f_mixed cdv A outer s H E).nox (defBody s_mixed) (lS ⟨K, W, N0, H, true⟩ (d_mixed)) := ((ss_cons (ds_setO (i := 2) sc_mixed.nd rfl (.inl rfl) (dn_lst da_nil))
      (ss_cons (ds_for PassesOwn.never rfl (di_seq (dd_v (pv 1))) (dg_name (i := 3) sc_mixed.nd rfl (Or.inl rfl)) (ss_one (ds_ins (pv 2) (dd_call (ok_pull T) hr (by rfl) T.g_pull T.F_pull.kp T.b_pull pass0 (da_cons (dd_v (pv 0)) (da_cons (dd_add (c_b (dd_len (by rfl) T.m_len (dd_b (pv 2)))) (c_b dd_int)) da_nil))) (dd_v (pv 3)))))
      (ss_one (ds_retO (pv 2))))))
    exact ⟨_, tm, fn_d al wn ok dd q (rd_mixed sp)⟩
theorem ok_some (T : Txt K mg) {k : Nat} : FnOk P w K mg base CX0 (k + 3) T.f_some T.fd_some ["_law_bag_here", "_law_things"] (lSp K true sp_some) := by
  refine T.F_some.ok sc_some (fun vs H Q E h => ?_) (fun cdv A outer s H vs Q E hr h => ?_)
  · obtain ⟨W, N0, ds, Pd, _, _, _, dd, sp, _⟩ := h
    rw [dd.len]
    exact ln_some sp
  · obtain ⟨W, N0, ds, Pd, al, wn, ok, dd, sp, q⟩ := h
    have tm : PSs (cxOf CX0 P w K mg base ["_law_bag_here", "_law_things", "_law_mixed_here"] "_law_some" (defScope s_some) T.f_some cdv A outer s H E).nox (defBody s_some) (lS ⟨K, W, N0, H, true⟩ (d_some)) := ((ss_cons (ds_set (i := 2) sc_some.nd rfl (.inl rfl) (n_c (dn_call (ok_mixed T) hr (by rfl) T.g_mixed T.F_mixed.kp T.b_mixed pass0 (da_cons (dd_v (pv 0)) (da_cons (dd_v (pv 1)) da_nil)))))
      (ss_one (ds_retN (dn_cut (c_b (dd_v (pv 2))) do_none (do_some (dd_add (c_b dd_int) (c_b (dd_call (ok_pull T) hr (by rfl) T.g_pull T.F_pull.kp T.b_pull pass0 (da_cons (dd_v (pv 0)) (da_cons (dd_len (by rfl) T.m_len (c_b (dd_v (pv 2)))) da_nil)))))))))))
    exact ⟨_, tm, fn_d al wn ok dd q (rd_some sp)⟩
theorem ok_names (T : Txt K mg) {k : Nat} : FnOk P w K mg base CX0 (k + 3) T.f_names T.fd_names ["_law_bag_here", "_law_count"] (lSp K true sp_names) := by
  refine T.F_names.ok sc_names (fun vs H Q E h => ?_) (fun cdv A outer s H vs Q E hr h => ?_)
  · obtain ⟨W, N0, ds, Pd, _, _, _, dd, sp, _⟩ := h
    rw [dd.len]
    exact ln_names sp
  · obtain ⟨W, N0, ds, Pd, al, wn, ok, dd, sp, q⟩ := h
    have tm : PSs (cxOf CX0 P w K mg base ["_law_bag_here", "_law_count", "_law_letters", "_law_base", "_law_k", "_law_spot", "_law_first", "_law_step"] "_law_names" (defScope s_names) T.f_names cdv A outer s H E).nox (defBody s_names) (lS ⟨K, W, N0, H, true⟩ (d_names)) := ((ss_cons (PS.mono (ps_asg (n_c (dn_tup (da_cons dd_str (da_cons dd_str da_nil)))) (PG.mono (pg_tup (by rfl) (PGs.mono (pgs_cons (dg_name (i := 2) sc_names.nd rfl (Or.inr rfl)) (PGs.mono (pgs_cons (dg_name (i := 3) sc_names.nd rfl (Or.inr rfl)) dgs_nil) l_gcons)) l_gcons)) (l_gtup rfl))) l_asg)
      (ss_cons (ds_for PassesOwn.never rfl (di_rng (by rfl) T.m_range (da_cons (dd_call (ok_pull T) hr (by rfl) T.g_pull T.F_pull.kp T.b_pull pass0 (da_cons (dd_v (pv 0)) (da_cons dd_int da_nil))) da_nil)) (dg_name (i := 4) sc_names.nd rfl (Or.inl rfl)) (ss_one (ds_set (i := 3) sc_names.nd rfl (.inr rfl) (dd_add (c_b (dd_v (pv 3))) (c_b (dd_call (ok_of T) hr (by rfl) T.g_of T.F_of.kp T.b_of pass0 (da_cons (dd_v (pv 0)) (da_cons (dd_v (pv 2)) da_nil))))))))
      (ss_cons (ds_if (dt_eq hr (c_b (dd_call (ok_pull T) hr (by rfl) T.g_pull T.F_pull.kp T.b_pull pass0 (da_cons (dd_v (pv 0)) (da_cons dd_int da_nil)))) (c_b dd_int)) (ss_one (ds_retN (PE.mono (pe_lc (own := [("_law_k", 4)]) (by rfl) sc_names.nd (db_rng (by rfl) T.m_range (da_cons (dd_v (pv 1)) da_nil)) (blkOk_by (own := [("_law_k", 4)]) (N := ["_law_bag_here", "_law_count", "_law_letters", "_law_base", "_law_k", "_law_spot", "_law_first", "_law_step"]) (sc := defScope s_names) (by decide +kernel)) (fun _ _ _ _ _ => (dg_name (i := 4) sc_names.nd rfl (Or.inl rfl))) (fun _ _ _ _ _ => ts_nil) (fun _ _ _ _ _ => (dd_mul (c_b (dd_ix hr (c_b (dd_v (pv 2))) (c_b (dd_mod (c_b (dd_add (c_b (dd_len (by rfl) T.m_len (c_b (dd_v (pv 3))))) (c_b (dd_mul (c_b dd_int) (c_b (dd_v (pv 4))))))) (c_b dd_int))))) (c_b (dd_add (c_b dd_int) (c_b (dd_mod (c_b (dd_add (c_b (dd_len (by rfl) T.m_len (c_b (dd_v (pv 3))))) (c_b (dd_mul (c_b dd_int) (c_b (dd_v (pv 4))))))) (c_b dd_int)))))))) (l_lc (by simp))))) ss_nil)
      (ss_cons (PS.mono (ps_asg (n_c (dn_tup (da_cons (dd_call (ok_pull T) hr (by rfl) T.g_pull T.F_pull.kp T.b_pull pass0 (da_cons (dd_v (pv 0)) (da_cons (dd_add (c_b (dd_len (by rfl) T.m_len (c_b (dd_v (pv 3))))) (c_b dd_int)) da_nil))) (da_cons (dd_call (ok_pull T) hr (by rfl) T.g_pull T.F_pull.kp T.b_pull pass0 (da_cons (dd_v (pv 0)) (da_cons dd_int da_nil))) (da_cons (dd_call (ok_of T) hr (by rfl) T.g_of T.F_of.kp T.b_of pass0 (da_cons (dd_v (pv 0)) (da_cons (n_c (dn_lst (da_cons dd_int (da_cons dd_int (da_cons dd_int (da_cons dd_int (da_cons dd_int da_nil))))))) da_nil))) da_nil))))) (PG.mono (pg_tup (by rfl) (PGs.mono (pgs_cons (dg_name (i := 5) sc_names.nd rfl (Or.inr rfl)) (PGs.mono (pgs_cons (dg_name (i := 6) sc_names.nd rfl (Or.inr rfl)) (PGs.mono (pgs_cons (dg_name (i := 7) sc_names.nd rfl (Or.inr rfl)) dgs_nil) l_gcons)) l_gcons)) l_gcons)) (l_gtup rfl))) l_asg)
      (ss_one (ds_retN (PE.mono (pe_lc (own := [("_law_k", 4)]) (by rfl) sc_names.nd (db_rng (by rfl) T.m_range (da_cons (dd_v (pv 1)) da_nil)) (blkOk_by (own := [("_law_k", 4)]) (N := ["_law_bag_here", "_law_count", "_law_letters", "_law_base", "_law_k", "_law_spot", "_law_first", "_law_step"]) (sc := defScope s_names) (by decide +kernel)) (fun _ _ _ _ _ => (dg_name (i := 4) sc_names.nd rfl (Or.inl rfl))) (fun _ _ _ _ _ => ts_nil) (fun _ _ _ _ _ => (dd_add (c_b (dd_add (c_b (dd_cut (c_b (dd_v (pv 3))) do_none (do_some (dd_v (pv 5))))) (c_b (dd_ix hr (c_b (dd_v (pv 2))) (c_b (dd_mod (c_b (dd_add (c_b (dd_v (pv 6))) (c_b (dd_mul (c_b (dd_v (pv 7))) (c_b (dd_v (pv 4))))))) (c_b dd_int))))))) (c_b (dd_cut (c_b (dd_v (pv 3))) (do_some (dd_v (pv 5))) do_none))))) (l_lc (by simp))))))))))
    exact ⟨_, tm, fn_d al wn ok dd q (rd_names sp)⟩
theorem ok_wish (T : Txt K mg) {k : Nat} : FnOk P w K mg base CX0 (k + 3) T.f_wish T.fd_wish ["_law_bag_here", "_law_names_here", "_law_most"] (lSp K true sp_wish) := by
  refine T.F_wish.ok sc_wish (fun vs H Q E h => ?_) (fun cdv A outer s H vs Q E hr h => ?_)
  · obtain ⟨W, N0, ds, Pd, _, _, _, dd, sp, _⟩ := h
    rw [dd.len]
    exact ln_wish sp
  · obtain ⟨W, N0, ds, Pd, al, wn, ok, dd, sp, q⟩ := h
    have tm : PSs (cxOf CX0 P w K mg base ["_law_bag_here", "_law_names_here", "_law_most", "_law_base", "_law_found", "_law_k", "_law_one", "_law_other", "_law_good"] "_law_wish" (defScope s_wish) T.f_wish cdv A outer s H E).nox (defBody s_wish) (lS ⟨K, W, N0, H, true⟩ (d_wish)) := ((ss_cons (PS.mono (ps_par (i := 3) (j := 4) (by rfl) sc_wish.nd rfl rfl (by decide) rfl rfl (pa_cons (n_c (dn_call (ok_mixed T) hr (by rfl) T.g_mixed T.F_mixed.kp T.b_mixed pass0 (da_cons (dd_v (pv 0)) (da_cons (dd_v (pv 1)) da_nil)))) (pa_cons (dn_lst da_nil) pa_nil)) (by rfl)) l_parR)
      (ss_cons (ds_for PassesOwn.never rfl (di_rng (by rfl) T.m_range (da_cons (dd_call (ok_pull T) hr (by rfl) T.g_pull T.F_pull.kp T.b_pull pass0 (da_cons (dd_v (pv 0)) (da_cons (dd_add (c_b (dd_v (pv 2))) (c_b dd_int)) da_nil))) da_nil)) (dg_name (i := 5) sc_wish.nd rfl (Or.inl rfl)) (ss_cons (PS.mono (ps_par (i := 6) (j := 7) (by rfl) sc_wish.nd rfl rfl (by decide) rfl rfl (pa_cons (dd_call (ok_of T) hr (by rfl) T.g_of T.F_of.kp T.b_of pass0 (da_cons (dd_v (pv 0)) (da_cons (dd_v (pv 1)) da_nil))) (pa_cons (dd_call (ok_of T) hr (by rfl) T.g_of T.F_of.kp T.b_of pass0 (da_cons (dd_v (pv 0)) (da_cons (dd_v (pv 1)) da_nil))) pa_nil)) (by rfl)) l_par)
      (ss_one (ds_if (dt_ne hr (c_b (dd_v (pv 6))) (c_b (dd_v (pv 7)))) (ss_cons (ds_set (i := 8) sc_wish.nd rfl (.inl rfl) (dd_or (dd_lt (c_b (dd_index (c_b (dd_v (pv 3))) (c_b (dd_v (pv 6))))) (c_b (dd_index (c_b (dd_v (pv 3))) (c_b (dd_v (pv 7)))))) (dd_one (dd_eq hr (c_b (dd_call (ok_pull T) hr (by rfl) T.g_pull T.F_pull.kp T.b_pull pass0 (da_cons (dd_v (pv 0)) (da_cons dd_int da_nil)))) (c_b dd_int)))))
      (ss_one (ds_app (pv 4) (dd_if (dt_tru (c_b (dd_v (pv 8)))) (n_c (dn_tup (da_cons (dd_v (pv 6)) (da_cons (dd_v (pv 7)) da_nil)))) (n_c (dn_tup (da_cons (dd_v (pv 7)) (da_cons (dd_v (pv 6)) da_nil)))))))) ss_nil))))
      (ss_one (ds_retO (pv 4))))))
    exact ⟨_, tm, fn_d al wn ok dd q (rd_wish sp)⟩
theorem ok_wrong (T : Txt K mg) {k : Nat} : FnOk P w K mg base CX0 (k + 1) T.f_wrong T.fd_wrong ["_law_order_z", "_law_wish_z"] (lSp K false sp_wrong) := by
  refine T.F_wrong.ok sc_wrong (fun vs H Q E h => ?_) (fun cdv A outer s H vs Q E hr h => ?_)
  · obtain ⟨W, N0, ds, Pd, _, _, _, dd, sp, _⟩ := h
    rw [dd.len]
    exact ln_wrong sp
  · obtain ⟨W, N0, ds, Pd, al, wn, ok, dd, sp, q⟩ := h
    have tm : PSs (cxOf CX0 P w K mg base ["_law_order_z", "_law_wish_z", "_law_low", "_law_high"] "_law_wrong" (defScope s_wrong) T.f_wrong cdv A outer s H E).nox (defBody s_wrong) (lS ⟨K, W, N0, H, false⟩ (d_wrong)) := ((ss_one (ds_ret (by rfl) (n_c (PE.mono (pe_lc (own := [("_law_low", 2), ("_law_high", 3)]) (by rfl) sc_wrong.nd (db_seq (c_b (dd_v (pv 1)))) (blkOk_by (own := [("_law_low", 2), ("_law_high", 3)]) (N := ["_law_order_z", "_law_wish_z", "_law_low", "_law_high"]) (sc := defScope s_wrong) (by decide +kernel)) (fun _ _ _ _ _ => (PG.mono (pg_tup (by rfl) (PGs.mono (pgs_cons (dg_name (i := 2) sc_wrong.nd rfl (Or.inl rfl)) (PGs.mono (pgs_cons (dg_name (i := 3) sc_wrong.nd rfl (Or.inl rfl)) dgs_nil) l_gcons)) l_gcons)) (l_gtup rfl))) (fun _ _ _ _ _ => (ts_one (dt_lt (c_b (dd_index (c_b (dd_v (pv 0))) (c_b (dd_v (pv 3))))) (c_b (dd_index (c_b (dd_v (pv 0))) (c_b (dd_v (pv 2)))))))) (fun _ _ _ _ _ => (n_c (dn_tup (da_cons (dd_v (pv 2)) (da_cons (dd_v (pv 3)) da_nil)))))) (l_lc (by simp)))))))
    exact ⟨_, tm, fn_d al wn ok dd q (rd_wrong sp)⟩
theorem ok_tally (T : Txt K mg) {k : Nat} : FnOk P w K mg base CX0 (k + 2) T.f_tally T.fd_tally ["_law_order_z", "_law_wish_z", "_law_chain_z"] (lSp K false sp_tally) := by
  refine T.F_tally.ok sc_tally (fun vs H Q E h => ?_) (fun cdv A outer s H vs Q E hr h => ?_)
  · obtain ⟨W, N0, ds, Pd, _, _, _, dd, sp, _⟩ := h
    rw [dd.len]
    exact ln_tally sp
  · obtain ⟨W, N0, ds, Pd, al, wn, ok, dd, sp, q⟩ := h
    have tm : PSs (cxOf CX0 P w K mg base ["_law_order_z", "_law_wish_z", "_law_chain_z", "_law_links", "_law_k", "_law_link"] "_law_tally" (defScope s_tally) T.f_tally cdv A outer s H E).nox (defBody s_tally) (lS ⟨K, W, N0, H, false⟩ (d_tally)) := ((ss_cons (PS.mono (ps_setLc (i := 3) (own := [("_law_k", 4)]) (by rfl) sc_tally.nd rfl rfl (sw_true rfl rfl rfl (by decide +kernel)) (db_rng (by rfl) T.m_range (da_cons (dd_sub (c_b (dd_len (by rfl) T.m_len (c_b (dd_v (pv 2))))) (c_b dd_int)) da_nil)) (blkOk_by (own := [("_law_k", 4)]) (N := ["_law_order_z", "_law_wish_z", "_law_chain_z", "_law_links", "_law_k", "_law_link"]) (sc := defScope s_tally) (by decide +kernel)) (fun _ _ _ _ _ => (dg_name (i := 4) sc_tally.nd rfl (Or.inl rfl))) (fun _ _ _ _ _ => ts_nil) (fun _ _ _ _ _ => (n_c (dn_tup (da_cons (dd_ix hr (c_b (dd_v (pv 2))) (c_b (dd_v (pv 4)))) (da_cons (dd_ix hr (c_b (dd_v (pv 2))) (c_b (dd_add (c_b (dd_v (pv 4))) (c_b dd_int)))) da_nil)))))) (l_setF_n (l_lc (by simp))))
      (ss_cons (ds_if (PW.pt (wt_or (dt_eq hr (c_b (dd_v (pv 3))) (c_b (n_c (dn_lst da_nil)))) (wt_or1 (dt_val (dd_any (by rfl) T.m_any (c_b (n_c (PE.mono (pe_lc (own := [("_law_link", 5)]) (by rfl) sc_tally.nd (db_seq (c_b (dd_v (pv 3)))) (blkOk_by (own := [("_law_link", 5)]) (N := ["_law_order_z", "_law_wish_z", "_law_chain_z", "_law_links", "_law_k", "_law_link"]) (sc := defScope s_tally) (by decide +kernel)) (fun _ _ _ _ _ => (dg_name (i := 5) sc_tally.nd rfl (Or.inl rfl))) (fun _ _ _ _ _ => ts_nil) (fun _ _ _ _ _ => (dd_notin hr (c_b (dd_v (pv 5))) (c_b (dd_v (pv 1)))))) (l_lc (by simp)))))))))) (ss_one (ds_ret (by rfl) dd_non)) ss_nil)
      (ss_one (ds_ret (by rfl) (dd_len (by rfl) T.m_len (c_b (n_c (PE.mono (pe_lc (own := [("_law_link", 5)]) (by rfl) sc_tally.nd (db_seq (c_b (dd_v (pv 3)))) (blkOk_by (own := [("_law_link", 5)]) (N := ["_law_order_z", "_law_wish_z", "_law_chain_z", "_law_links", "_law_k", "_law_link"]) (sc := defScope s_tally) (by decide +kernel)) (fun _ _ _ _ _ => (dg_name (i := 5) sc_tally.nd rfl (Or.inl rfl))) (fun _ _ _ _ _ => (ts_one (dt_in hr (c_b (dd_v (pv 5))) (c_b (dd_call (ok_wrong T) hr (by rfl) T.g_wrong T.F_wrong.kp T.b_wrong pass0 (da_cons (dd_v (pv 0)) (da_cons (dd_v (pv 1)) da_nil))))))) (fun _ _ _ _ _ => (dd_v (pv 5)))) (l_lc (by simp)))))))))))
    exact ⟨_, tm, fn_d al wn ok dd q (rd_tally sp)⟩
theorem ok_walk (T : Txt K mg) {k : Nat} : FnOk P w K mg base CX0 (k + 3) T.f_walk T.fd_walk ["_law_bag_here", "_law_wish_z", "_law_first", "_law_most"] (lSp K true sp_walk) := by
  refine T.F_walk.ok sc_walk (fun vs H Q E h => ?_) (fun cdv A outer s H vs Q E hr h => ?_)
  · obtain ⟨W, N0, ds, Pd, _, _, _, dd, sp, _⟩ := h
    rw [dd.len]
    exact ln_walk sp
  · obtain ⟨W, N0, ds, Pd, al, wn, ok, dd, sp, q⟩ := h
    have tm : PSs (cxOf CX0 P w K mg base ["_law_bag_here", "_law_wish_z", "_law_first", "_law_most", "_law_found", "_law_k", "_law_some_here", "_law_low", "_law_high"] "_law_walk" (defScope s_walk) T.f_walk cdv A outer s H E).nox (defBody s_walk) (lS ⟨K, W, N0, H, true⟩ (d_walk)) := ((ss_cons (ds_setO (i := 4) sc_walk.nd rfl (.inr rfl) (dn_lst (da_cons (dd_v (pv 2)) da_nil)))
      (ss_cons (ds_for PassesOwn.never rfl (di_rng (by rfl) T.m_range (da_cons (dd_v (pv 3)) da_nil)) (dg_name (i := 5) sc_walk.nd rfl (Or.inl rfl)) (ss_cons (PS.mono (ps_setLc (i := 6) (own := [("_law_low", 7), ("_law_high", 8)]) (by rfl) sc_walk.nd rfl rfl (sw_true rfl rfl rfl (by decide +kernel)) (db_seq (c_b (dd_v (pv 1)))) (blkOk_by (own := [("_law_low", 7), ("_law_high", 8)]) (N := ["_law_bag_here", "_law_wish_z", "_law_first", "_law_most", "_law_found", "_law_k", "_law_some_here", "_law_low", "_law_high"]) (sc := defScope s_walk) (by decide +kernel)) (fun _ _ _ _ _ => (PG.mono (pg_tup (by rfl) (PGs.mono (pgs_cons (dg_name (i := 7) sc_walk.nd rfl (Or.inl rfl)) (PGs.mono (pgs_cons (dg_name (i := 8) sc_walk.nd rfl (Or.inl rfl)) dgs_nil) l_gcons)) l_gcons)) (l_gtup rfl))) (fun _ _ _ _ _ => (ts_one (dt_eq hr (c_b (dd_v (pv 7))) (c_b (dd_ix hr (dd_b (pv 4)) (c_b (dd_neg dd_int))))))) (fun _ _ _ _ _ => (dd_v (pv 8)))) (l_setF_n (l_lc (by simp))))
      (ss_one (ds_if (dt_ne hr (c_b (dd_v (pv 6))) (c_b (n_c (dn_lst da_nil)))) (ss_one (ds_app (pv 4) (dd_call (ok_of T) hr (by rfl) T.g_of T.F_of.kp T.b_of pass0 (da_cons (dd_v (pv 0)) (da_cons (dd_v (pv 6)) da_nil))))) ss_nil))))
      (ss_one (ds_retO (pv 4))))))
    exact ⟨_, tm, fn_d al wn ok dd q (rd_walk sp)⟩
theorem ok_law (T : Txt K mg) : FnOk P w K mg base CX0 8 T.f_law T.fd_law ["_law_script"] (spLaw K) := by
  refine T.F_law.ok sc_law (fun vs H Q E h => ?_) (fun cdv A outer s H vs Q E hr h => ?_)
  · obtain ⟨a, ns, rfl, _⟩ := h
    rfl
  · obtain ⟨a, ns, rfl, hS, hlen, q⟩ := h
    have tm : ∀ W N0 H0, PSs (cxOf CX0 P w K mg base ["_law_script", "_law_bag_here", "_law_turn", "_law_names_here", "_law_order_z", "_law_wish_z", "_law_walk_here", "_law_some_here", "_law_chain_z", "_law_due", "_law_handed"] "law" (defScope s_law) T.f_law cdv A outer s H E).nox ((defBody s_law).drop 1) (lS ⟨K, W, N0, H0, false⟩ (d_law)) := fun W N0 H0 => ((ss_cons (ds_for PassesOwn.never rfl (di_rng (by rfl) T.m_range (da_cons dd_int da_nil)) (dg_name (i := 2) sc_law.nd rfl (Or.inl rfl)) (ss_cons (ds_set (i := 3) sc_law.nd rfl (.inl rfl) (n_c (dn_call (ok_mixed T) hr (by rfl) T.g_mixed T.F_mixed.kp T.b_mixed pass0 (da_cons (dd_v (pv 1)) (da_cons (n_c (dn_call (ok_names T) hr (by rfl) T.g_names T.F_names.kp T.b_names pass0 (da_cons (dd_v (pv 1)) (da_cons (dd_add (c_b dd_int) (c_b (dd_call (ok_pull T) hr (by rfl) T.g_pull T.F_pull.kp T.b_pull pass0 (da_cons (dd_v (pv 1)) (da_cons dd_int da_nil))))) da_nil)))) da_nil)))))
      (ss_cons (PS.mono (ps_par (i := 4) (j := 5) (by rfl) sc_law.nd rfl rfl (by decide) rfl rfl (pa_cons (n_c (dn_call (ok_mixed T) hr (by rfl) T.g_mixed T.F_mixed.kp T.b_mixed pass0 (da_cons (dd_v (pv 1)) (da_cons (dd_v (pv 3)) da_nil)))) (pa_cons (n_c (dn_call (ok_wish T) hr (by rfl) T.g_wish T.F_wish.kp T.b_wish pass0 (da_cons (dd_v (pv 1)) (da_cons (dd_v (pv 3)) (da_cons dd_int da_nil))))) pa_nil)) (by rfl)) l_par)
      (ss_cons (ds_set (i := 6) sc_law.nd rfl (.inl rfl) (n_c (dn_call (ok_walk T) hr (by rfl) T.g_walk T.F_walk.kp T.b_walk pass0 (da_cons (dd_v (pv 1)) (da_cons (dd_v (pv 5)) (da_cons (dd_call (ok_of T) hr (by rfl) T.g_of T.F_of.kp T.b_of pass0 (da_cons (dd_v (pv 1)) (da_cons (dd_v (pv 3)) da_nil))) (da_cons (dd_call (ok_pull T) hr (by rfl) T.g_pull T.F_pull.kp T.b_pull pass0 (da_cons (dd_v (pv 1)) (da_cons dd_int da_nil))) da_nil)))))))
      (ss_cons (ds_set (i := 7) sc_law.nd rfl (.inl rfl) (n_c (dn_lst (da_cons (dd_v (pv 6)) (da_cons (n_c (dn_rev (c_b (dd_v (pv 6))))) (da_cons (n_c (dn_call (ok_some T) hr (by rfl) T.g_some T.F_some.kp T.b_some pass0 (da_cons (dd_v (pv 1)) (da_cons (dd_v (pv 3)) da_nil)))) (da_cons (dd_add (c_b (dd_v (pv 6))) (c_b (n_c (dn_lst (da_cons dd_str da_nil))))) da_nil)))))))
      (ss_one (ds_for PassesOwn.never rfl (di_seq (dd_add (c_b (dd_v (pv 7))) (c_b (n_c (dn_lst (da_cons (n_c (dn_lst da_nil)) (da_cons (dd_cut (c_b (dd_v (pv 6))) do_none (do_some dd_int)) (da_cons (dd_cut (c_b (dd_v (pv 6))) (do_some dd_int) do_none) (da_cons (dd_add (c_b (dd_v (pv 6))) (c_b (dd_v (pv 6)))) da_nil))))))))) (dg_name (i := 8) sc_law.nd rfl (Or.inl rfl)) (ss_cons (PS.mono (ps_par (i := 9) (j := 10) (by rfl) sc_law.nd rfl rfl (by decide) rfl rfl (pa_cons (dd_call (ok_tally T) hr (by rfl) T.g_tally T.F_tally.kp T.b_tally pass0 (da_cons (dd_v (pv 4)) (da_cons (dd_v (pv 5)) (da_cons (dd_v (pv 8)) da_nil)))) (pa_cons (n_c (dn_list (by rfl) T.m_list (c_b (dd_v (pv 8))))) pa_nil)) (by rfl)) l_par)
      (ss_cons (ds_if (dt_not (dt_val (dd_call (ok_like T) hr (by rfl) T.g_like T.F_like.kp T.b_like pass0 (da_cons (n_c (dn_lst (da_cons (dd_call (ok_chain_count T) hr (by rfl) T.g_chain_count T.F_chain_count.kp T.b_chain_count pass0 (da_cons (dd_v (pv 4)) (da_cons (dd_v (pv 5)) (da_cons (dd_v (pv 10)) da_nil)))) (da_cons (dd_callKP (ok_chain_count T) hr (by rfl) T.g_chain_count T.F_chain_count.kp T.kb_chain_count_0_chain_wish_order pass0 (dk_cons (n_c (dn_tuple (by rfl) T.m_tuple (c_b (dd_v (pv 8))))) (dk_cons (dd_v (pv 5)) (dk_cons (dd_v (pv 4)) dk_nil))) (fun h hl => kd_kb_chain_count_0_chain_wish_order h hl)) da_nil)))) (da_cons (n_c (dn_lst (da_cons (dd_v (pv 9)) (da_cons (dd_v (pv 9)) da_nil)))) da_nil))))) (ss_one (ds_ret (by rfl) dd_bl)) ss_nil)
      (ss_one (ds_if (dt_ne hr (c_b (dd_v (pv 10))) (c_b (dd_v (pv 8)))) (ss_one (ds_ret (by rfl) dd_bl)) ss_nil)))))))))))
      (ss_one (ds_ret (by rfl) dd_bl))))
    refine ⟨_, pss_cons (ps_set (i := 1) sc_law.nd rfl (.inl rfl) (pe_call (okb_bag T) hr (by rfl) T.g_bag T.F_bag.kp T.b_bag .nil pass0 (pa_cons (pv 0) pa_nil))) (pss_ex tm), ?_⟩
    refine ⟨.ref a, rfl, a, ns, rfl, hS, hlen, fun H0 b s0 e0 nb ns0 B0 => law_bag (n := 9) e0 nb B0 q ?_⟩
    exact rd_law
end
theorem all_mk {l : PySem.W.OpenLaw} {w : World} {K : PySem.W.Frag} {h : Heap} {mg : Str → Option Value} {fa : Addr} (X : K.In h) (G : h.Ns mainGlobals mg) (hfa : mg "law" = some (.ref fa))
    {f0 : Addr} {od0 an0 : Option Addr} {sl0 : Array (Option Value)} {oc0 kV0 dc0 pm0 cd0 ct0 : Value}
    (a0 : PySem.W.nsIn K mainGlobals "check_wish" = some (some (.ref f0)))
    (l0 : K.lookup f0 = some ⟨oc0, od0, .func (PySem.W.fnOf "check_wish" "check_wish" (defArgs s_check_wish) (defBody s_check_wish) (defScope s_check_wish) .none kV0 dc0 pm0 an0 cd0 ct0), sl0⟩) (c0 : PySem.W.codeIn K cd0 "check_wish" = true) (k0 : PySem.W.keepIn K (.ref f0) = true)
    {f1 : Addr} {od1 an1 : Option Addr} {sl1 : Array (Option Value)} {oc1 kV1 dc1 pm1 cd1 ct1 : Value}
    (a1 : PySem.W.nsIn K mainGlobals "is_pair" = some (some (.ref f1)))
    (l1 : K.lookup f1 = some ⟨oc1, od1, .func (PySem.W.fnOf "is_pair" "is_pair" (defArgs s_is_pair) (defBody s_is_pair) (defScope s_is_pair) .none kV1 dc1 pm1 an1 cd1 ct1), sl1⟩) (c1 : PySem.W.codeIn K cd1 "is_pair" = true) (k1 : PySem.W.keepIn K (.ref f1) = true)
    {f2 : Addr} {od2 an2 : Option Addr} {sl2 : Array (Option Value)} {oc2 kV2 dc2 pm2 cd2 ct2 : Value}
    (a2 : PySem.W.nsIn K mainGlobals "places" = some (some (.ref f2)))
    (l2 : K.lookup f2 = some ⟨oc2, od2, .func (PySem.W.fnOf "places" "places" (defArgs s_places) (defBody s_places) (defScope s_places) .none kV2 dc2 pm2 an2 cd2 ct2), sl2⟩) (c2 : PySem.W.codeIn K cd2 "places" = true) (k2 : PySem.W.keepIn K (.ref f2) = true)
    {f3 : Addr} {od3 an3 : Option Addr} {sl3 : Array (Option Value)} {oc3 kV3 dc3 pm3 cd3 ct3 : Value}
    (a3 : PySem.W.nsIn K mainGlobals "is_linked" = some (some (.ref f3)))
    (l3 : K.lookup f3 = some ⟨oc3, od3, .func (PySem.W.fnOf "is_linked" "is_linked" (defArgs s_is_linked) (defBody s_is_linked) (defScope s_is_linked) .none kV3 dc3 pm3 an3 cd3 ct3), sl3⟩) (c3 : PySem.W.codeIn K cd3 "is_linked" = true) (k3 : PySem.W.keepIn K (.ref f3) = true)
    {f4 : Addr} {od4 an4 : Option Addr} {sl4 : Array (Option Value)} {oc4 kV4 dc4 pm4 cd4 ct4 : Value}
    (a4 : PySem.W.nsIn K mainGlobals "wrong_count" = some (some (.ref f4)))
    (l4 : K.lookup f4 = some ⟨oc4, od4, .func (PySem.W.fnOf "wrong_count" "wrong_count" (defArgs s_wrong_count) (defBody s_wrong_count) (defScope s_wrong_count) .none kV4 dc4 pm4 an4 cd4 ct4), sl4⟩) (c4 : PySem.W.codeIn K cd4 "wrong_count" = true) (k4 : PySem.W.keepIn K (.ref f4) = true)
    {f5 : Addr} {od5 an5 : Option Addr} {sl5 : Array (Option Value)} {oc5 kV5 dc5 pm5 cd5 ct5 : Value}
    (a5 : PySem.W.nsIn K mainGlobals "chain_count" = some (some (.ref f5)))
    (l5 : K.lookup f5 = some ⟨oc5, od5, .func (PySem.W.fnOf "chain_count" "chain_count" (defArgs s_chain_count) (defBody s_chain_count) (defScope s_chain_count) .none kV5 dc5 pm5 an5 cd5 ct5), sl5⟩) (c5 : PySem.W.codeIn K cd5 "chain_count" = true) (k5 : PySem.W.keepIn K (.ref f5) = true)
    {f6 : Addr} {od6 an6 : Option Addr} {sl6 : Array (Option Value)} {oc6 kV6 dc6 pm6 cd6 ct6 : Value}
    (a6 : PySem.W.nsIn K mainGlobals "_law_bag" = some (some (.ref f6)))
    (l6 : K.lookup f6 = some ⟨oc6, od6, .func (PySem.W.fnOf "_law_bag" "_law_bag" (defArgs s_bag) (defBody s_bag) (defScope s_bag) .none kV6 dc6 pm6 an6 cd6 ct6), sl6⟩) (c6 : PySem.W.codeIn K cd6 "_law_bag" = true) (k6 : PySem.W.keepIn K (.ref f6) = true)
    {f7 : Addr} {od7 an7 : Option Addr} {sl7 : Array (Option Value)} {oc7 kV7 dc7 pm7 cd7 ct7 : Value}
    (a7 : PySem.W.nsIn K mainGlobals "_law_pull" = some (some (.ref f7)))
    (l7 : K.lookup f7 = some ⟨oc7, od7, .func (PySem.W.fnOf "_law_pull" "_law_pull" (defArgs s_pull) (defBody s_pull) (defScope s_pull) .none kV7 dc7 pm7 an7 cd7 ct7), sl7⟩) (c7 : PySem.W.codeIn K cd7 "_law_pull" = true) (k7 : PySem.W.keepIn K (.ref f7) = true)
    {f8 : Addr} {od8 an8 : Option Addr} {sl8 : Array (Option Value)} {oc8 kV8 dc8 pm8 cd8 ct8 : Value}
    (a8 : PySem.W.nsIn K mainGlobals "_law_of" = some (some (.ref f8)))
    (l8 : K.lookup f8 = some ⟨oc8, od8, .func (PySem.W.fnOf "_law_of" "_law_of" (defArgs s_of) (defBody s_of) (defScope s_of) .none kV8 dc8 pm8 an8 cd8 ct8), sl8⟩) (c8 : PySem.W.codeIn K cd8 "_law_of" = true) (k8 : PySem.W.keepIn K (.ref f8) = true)
    {f9 : Addr} {od9 an9 : Option Addr} {sl9 : Array (Option Value)} {oc9 kV9 dc9 pm9 cd9 ct9 : Value}
    (a9 : PySem.W.nsIn K mainGlobals "_law_like" = some (some (.ref f9)))
    (l9 : K.lookup f9 = some ⟨oc9, od9, .func (PySem.W.fnOf "_law_like" "_law_like" (defArgs s_like) (defBody s_like) (defScope s_like) .none kV9 dc9 pm9 an9 cd9 ct9), sl9⟩) (c9 : PySem.W.codeIn K cd9 "_law_like" = true) (k9 : PySem.W.keepIn K (.ref f9) = true)
    {f10 : Addr} {od10 an10 : Option Addr} {sl10 : Array (Option Value)} {oc10 kV10 dc10 pm10 cd10 ct10 : Value}
    (a10 : PySem.W.nsIn K mainGlobals "_law_mixed" = some (some (.ref f10)))
    (l10 : K.lookup f10 = some ⟨oc10, od10, .func (PySem.W.fnOf "_law_mixed" "_law_mixed" (defArgs s_mixed) (defBody s_mixed) (defScope s_mixed) .none kV10 dc10 pm10 an10 cd10 ct10), sl10⟩) (c10 : PySem.W.codeIn K cd10 "_law_mixed" = true) (k10 : PySem.W.keepIn K (.ref f10) = true)
    {f11 : Addr} {od11 an11 : Option Addr} {sl11 : Array (Option Value)} {oc11 kV11 dc11 pm11 cd11 ct11 : Value}
    (a11 : PySem.W.nsIn K mainGlobals "_law_some" = some (some (.ref f11)))
    (l11 : K.lookup f11 = some ⟨oc11, od11, .func (PySem.W.fnOf "_law_some" "_law_some" (defArgs s_some) (defBody s_some) (defScope s_some) .none kV11 dc11 pm11 an11 cd11 ct11), sl11⟩) (c11 : PySem.W.codeIn K cd11 "_law_some" = true) (k11 : PySem.W.keepIn K (.ref f11) = true)
    {f12 : Addr} {od12 an12 : Option Addr} {sl12 : Array (Option Value)} {oc12 kV12 dc12 pm12 cd12 ct12 : Value}
    (a12 : PySem.W.nsIn K mainGlobals "_law_names" = some (some (.ref f12)))
    (l12 : K.lookup f12 = some ⟨oc12, od12, .func (PySem.W.fnOf "_law_names" "_law_names" (defArgs s_names) (defBody s_names) (defScope s_names) .none kV12 dc12 pm12 an12 cd12 ct12), sl12⟩) (c12 : PySem.W.codeIn K cd12 "_law_names" = true) (k12 : PySem.W.keepIn K (.ref f12) = true)
    {f13 : Addr} {od13 an13 : Option Addr} {sl13 : Array (Option Value)} {oc13 kV13 dc13 pm13 cd13 ct13 : Value}
    (a13 : PySem.W.nsIn K mainGlobals "_law_wish" = some (some (.ref f13)))
    (l13 : K.lookup f13 = some ⟨oc13, od13, .func (PySem.W.fnOf "_law_wish" "_law_wish" (defArgs s_wish) (defBody s_wish) (defScope s_wish) .none kV13 dc13 pm13 an13 cd13 ct13), sl13⟩) (c13 : PySem.W.codeIn K cd13 "_law_wish" = true) (k13 : PySem.W.keepIn K (.ref f13) = true)
    {f14 : Addr} {od14 an14 : Option Addr} {sl14 : Array (Option Value)} {oc14 kV14 dc14 pm14 cd14 ct14 : Value}
    (a14 : PySem.W.nsIn K mainGlobals "_law_wrong" = some (some (.ref f14)))
    (l14 : K.lookup f14 = some ⟨oc14, od14, .func (PySem.W.fnOf "_law_wrong" "_law_wrong" (defArgs s_wrong) (defBody s_wrong) (defScope s_wrong) .none kV14 dc14 pm14 an14 cd14 ct14), sl14⟩) (c14 : PySem.W.codeIn K cd14 "_law_wrong" = true) (k14 : PySem.W.keepIn K (.ref f14) = true)
    {f15 : Addr} {od15 an15 : Option Addr} {sl15 : Array (Option Value)} {oc15 kV15 dc15 pm15 cd15 ct15 : Value}
    (a15 : PySem.W.nsIn K mainGlobals "_law_tally" = some (some (.ref f15)))
    (l15 : K.lookup f15 = some ⟨oc15, od15, .func (PySem.W.fnOf "_law_tally" "_law_tally" (defArgs s_tally) (defBody s_tally) (defScope s_tally) .none kV15 dc15 pm15 an15 cd15 ct15), sl15⟩) (c15 : PySem.W.codeIn K cd15 "_law_tally" = true) (k15 : PySem.W.keepIn K (.ref f15) = true)
    {f16 : Addr} {od16 an16 : Option Addr} {sl16 : Array (Option Value)} {oc16 kV16 dc16 pm16 cd16 ct16 : Value}
    (a16 : PySem.W.nsIn K mainGlobals "_law_walk" = some (some (.ref f16)))
    (l16 : K.lookup f16 = some ⟨oc16, od16, .func (PySem.W.fnOf "_law_walk" "_law_walk" (defArgs s_walk) (defBody s_walk) (defScope s_walk) .none kV16 dc16 pm16 an16 cd16 ct16), sl16⟩) (c16 : PySem.W.codeIn K cd16 "_law_walk" = true) (k16 : PySem.W.keepIn K (.ref f16) = true)
    {f17 : Addr} {od17 an17 : Option Addr} {sl17 : Array (Option Value)} {oc17 kV17 dc17 pm17 cd17 ct17 : Value}
    (a17 : PySem.W.nsIn K mainGlobals "law" = some (some (.ref f17)))
    (l17 : K.lookup f17 = some ⟨oc17, od17, .func (PySem.W.fnOf "law" "law" (defArgs s_law) (defBody s_law) (defScope s_law) .none kV17 dc17 pm17 an17 cd17 ct17), sl17⟩) (c17 : PySem.W.codeIn K cd17 "law" = true) (k17 : PySem.W.keepIn K (.ref f17) = true)
    (z_all : PySem.W.nsIn K mainGlobals "all" = some none)
    (z_any : PySem.W.nsIn K mainGlobals "any" = some none)
    (z_bool : PySem.W.nsIn K mainGlobals "bool" = some none)
    (z_enumerate : PySem.W.nsIn K mainGlobals "enumerate" = some none)
    (z_isinstance : PySem.W.nsIn K mainGlobals "isinstance" = some none)
    (z_len : PySem.W.nsIn K mainGlobals "len" = some none)
    (z_list : PySem.W.nsIn K mainGlobals "list" = some none)
    (z_range : PySem.W.nsIn K mainGlobals "range" = some none)
    (z_str : PySem.W.nsIn K mainGlobals "str" = some none)
    (z_sum : PySem.W.nsIn K mainGlobals "sum" = some none)
    (z_tuple : PySem.W.nsIn K mainGlobals "tuple" = some none)
    (z_zip : PySem.W.nsIn K mainGlobals "zip" = some none)
    : ∃ fd : FuncData, (∀ (s : Shared) (v : Value), BindsTo s fd ⟨[v], []⟩ [("_law_script", v)]) ∧ ∀ base : Heap, K.In base → base.Ns mainGlobals mg → FnOk l.prog w K mg base CX0 8 fa fd ["_law_script"] (DL.spLaw K) := by
  have e := hfa.symm.trans (PySem.W.mg_of X G a17)
  cases e
  have F0 := fun_mk (st := s_check_wish) l0 c0 k0
  have b0 := F0.binds (ps := ["names", "wish"]) fun _ _ _ _ _ _ us hl => match us, hl with | [_, _], _ => rfl
  have F1 := fun_mk (st := s_is_pair) l1 c1 k1
  have b1 := F1.binds (ps := ["known", "item"]) fun _ _ _ _ _ _ us hl => match us, hl with | [_, _], _ => rfl
  have F2 := fun_mk (st := s_places) l2 c2 k2
  have b2 := F2.binds (ps := ["order"]) fun _ _ _ _ _ _ us hl => match us, hl with | [_], _ => rfl
  have F3 := fun_mk (st := s_is_linked) l3 c3 k3
  have b3 := F3.binds (ps := ["wish", "names"]) fun _ _ _ _ _ _ us hl => match us, hl with | [_, _], _ => rfl
  have F4 := fun_mk (st := s_wrong_count) l4 c4 k4
  have b4 := F4.binds (ps := ["order", "wish", "chain"]) fun _ _ _ _ _ _ us hl => match us, hl with | [_, _, _], _ => rfl
  have F5 := fun_mk (st := s_chain_count) l5 c5 k5
  have b5 := F5.binds (ps := ["order", "wish", "chain"]) fun _ _ _ _ _ _ us hl => match us, hl with | [_, _, _], _ => rfl
  have F6 := fun_mk (st := s_bag) l6 c6 k6
  have b6 := F6.binds (ps := ["_law_script"]) fun _ _ _ _ _ _ us hl => match us, hl with | [_], _ => rfl
  have F7 := fun_mk (st := s_pull) l7 c7 k7
  have b7 := F7.binds (ps := ["_law_bag_here", "_law_amount"]) fun _ _ _ _ _ _ us hl => match us, hl with | [_, _], _ => rfl
  have F8 := fun_mk (st := s_of) l8 c8 k8
  have b8 := F8.binds (ps := ["_law_bag_here", "_law_things"]) fun _ _ _ _ _ _ us hl => match us, hl with | [_, _], _ => rfl
  have F9 := fun_mk (st := s_like) l9 c9 k9
  have b9 := F9.binds (ps := ["_law_found", "_law_due"]) fun _ _ _ _ _ _ us hl => match us, hl with | [_, _], _ => rfl
  have F10 := fun_mk (st := s_mixed) l10 c10 k10
  have b10 := F10.binds (ps := ["_law_bag_here", "_law_things"]) fun _ _ _ _ _ _ us hl => match us, hl with | [_, _], _ => rfl
  have F11 := fun_mk (st := s_some) l11 c11 k11
  have b11 := F11.binds (ps := ["_law_bag_here", "_law_things"]) fun _ _ _ _ _ _ us hl => match us, hl with | [_, _], _ => rfl
  have F12 := fun_mk (st := s_names) l12 c12 k12
  have b12 := F12.binds (ps := ["_law_bag_here", "_law_count"]) fun _ _ _ _ _ _ us hl => match us, hl with | [_, _], _ => rfl
  have F13 := fun_mk (st := s_wish) l13 c13 k13
  have b13 := F13.binds (ps := ["_law_bag_here", "_law_names_here", "_law_most"]) fun _ _ _ _ _ _ us hl => match us, hl with | [_, _, _], _ => rfl
  have F14 := fun_mk (st := s_wrong) l14 c14 k14
  have b14 := F14.binds (ps := ["_law_order_z", "_law_wish_z"]) fun _ _ _ _ _ _ us hl => match us, hl with | [_, _], _ => rfl
  have F15 := fun_mk (st := s_tally) l15 c15 k15
  have b15 := F15.binds (ps := ["_law_order_z", "_law_wish_z", "_law_chain_z"]) fun _ _ _ _ _ _ us hl => match us, hl with | [_, _, _], _ => rfl
  have F16 := fun_mk (st := s_walk) l16 c16 k16
  have b16 := F16.binds (ps := ["_law_bag_here", "_law_wish_z", "_law_first", "_law_most"]) fun _ _ _ _ _ _ us hl => match us, hl with | [_, _, _, _], _ => rfl
  have F17 := fun_mk (st := s_law) l17 c17 k17
  have b17 := F17.binds (ps := ["_law_script"]) fun _ _ _ _ _ _ us hl => match us, hl with | [_], _ => rfl
  have kb_chain_count_0_chain_wish_order : KBinds K (PySem.W.fnOf "chain_count" "chain_count" (defArgs s_chain_count) (defBody s_chain_count) (defScope s_chain_count) .none kV5 dc5 pm5 an5 cd5 ct5) ["order", "wish", "chain"] ["chain", "wish", "order"] (kwG_kb_chain_count_0_chain_wish_order (α := Value)) (kwG_kb_chain_count_0_chain_wish_order (α := V)) := by
    refine ⟨fun s us ws _ hl => ?_, fun {vs us zs ws} r1 r2 => ?_⟩
    · match us, ws, hl with
      | [], [c0, c1, c2], _ => exact BindsTo.of_eq (fd := (PySem.W.fnOf "chain_count" "chain_count" (defArgs s_chain_count) (defBody s_chain_count) (defScope s_chain_count) .none kV5 dc5 pm5 an5 cd5 ct5)) rfl
    · cases r1 with
      | nil =>
        cases r2 with
        | nil => exact .nil
        | cons q0 r2 =>
          cases r2 with
          | nil => exact .nil
          | cons q1 r2 =>
            cases r2 with
            | nil => exact .nil
            | cons q2 r2 =>
              cases r2 with
              | nil =>
                exact (.cons q2 (.cons q1 (.cons q0 .nil)))
              | cons _ _ => exact .nil
      | cons _ _ => (cases r2 <;> exact .nil)
  let T : Txt K mg := { f_check_wish := _, fd_check_wish := _, F_check_wish := F0, b_check_wish := b0, g_check_wish := PySem.W.mg_of X G a0, f_is_pair := _, fd_is_pair := _, F_is_pair := F1, b_is_pair := b1, g_is_pair := PySem.W.mg_of X G a1, f_places := _, fd_places := _, F_places := F2, b_places := b2, g_places := PySem.W.mg_of X G a2, f_is_linked := _, fd_is_linked := _, F_is_linked := F3, b_is_linked := b3, g_is_linked := PySem.W.mg_of X G a3, f_wrong_count := _, fd_wrong_count := _, F_wrong_count := F4, b_wrong_count := b4, g_wrong_count := PySem.W.mg_of X G a4, f_chain_count := _, fd_chain_count := _, F_chain_count := F5, b_chain_count := b5, g_chain_count := PySem.W.mg_of X G a5, f_bag := _, fd_bag := _, F_bag := F6, b_bag := b6, g_bag := PySem.W.mg_of X G a6, f_pull := _, fd_pull := _, F_pull := F7, b_pull := b7, g_pull := PySem.W.mg_of X G a7, f_of := _, fd_of := _, F_of := F8, b_of := b8, g_of := PySem.W.mg_of X G a8, f_like := _, fd_like := _, F_like := F9, b_like := b9, g_like := PySem.W.mg_of X G a9, f_mixed := _, fd_mixed := _, F_mixed := F10, b_mixed := b10, g_mixed := PySem.W.mg_of X G a10, f_some := _, fd_some := _, F_some := F11, b_some := b11, g_some := PySem.W.mg_of X G a11, f_names := _, fd_names := _, F_names := F12, b_names := b12, g_names := PySem.W.mg_of X G a12, f_wish := _, fd_wish := _, F_wish := F13, b_wish := b13, g_wish := PySem.W.mg_of X G a13, f_wrong := _, fd_wrong := _, F_wrong := F14, b_wrong := b14, g_wrong := PySem.W.mg_of X G a14, f_tally := _, fd_tally := _, F_tally := F15, b_tally := b15, g_tally := PySem.W.mg_of X G a15, f_walk := _, fd_walk := _, F_walk := F16, b_walk := b16, g_walk := PySem.W.mg_of X G a16, f_law := _, fd_law := _, F_law := F17, b_law := b17, g_law := PySem.W.mg_of X G a17, kb_chain_count_0_chain_wish_order := kb_chain_count_0_chain_wish_order, m_all := PySem.W.mg_none_of X G z_all, m_any := PySem.W.mg_none_of X G z_any, m_bool := PySem.W.mg_none_of X G z_bool, m_enumerate := PySem.W.mg_none_of X G z_enumerate, m_isinstance := PySem.W.mg_none_of X G z_isinstance, m_len := PySem.W.mg_none_of X G z_len, m_list := PySem.W.mg_none_of X G z_list, m_range := PySem.W.mg_none_of X G z_range, m_str := PySem.W.mg_none_of X G z_str, m_sum := PySem.W.mg_none_of X G z_sum, m_tuple := PySem.W.mg_none_of X G z_tuple, m_zip := PySem.W.mg_none_of X G z_zip }
  exact ⟨(PySem.W.fnOf "law" "law" (defArgs s_law) (defBody s_law) (defScope s_law) .none kV17 dc17 pm17 an17 cd17 ct17), fun s v => .of_eq rfl, fun base _ _ => ok_law T⟩
end RK
open PySem PySem.W PyProof.Rows
set_option maxHeartbeats 0 in
theorem PySem.Challenge.cw_raisekeys_k35_counts_of_chains_holds : PySem.Challenge.rw_raisekeys_k35_counts_of_chains.Holds := by
  w_on; o_law; k_head; (case hw => w_witness2)
  k_fill
  refine L2.walk_of (l := PySem.Challenge.rw_raisekeys_k35_counts_of_chains) (n := 63) (k := 8) (x := "_law_script") (CX := fun _ => L2.CX0) (sp := fun w => DL.spLaw _) rfl (by decide) rfl ⟨rfl, by decide, by decide⟩ (fun w h Y => PySem.W.kIn_of Y) ?F (fun _ _ a ns hl _ hS => ⟨a, ns, rfl, hS, hl, fun _ => rfl⟩) (fun _ _ _ _ _ h => h)
  case F =>
    intro w mg fa h KX G hmg
    refine' RK.all_mk KX G hmg ?a0 ?l0 ?c0 ?k0 ?a1 ?l1 ?c1 ?k1 ?a2 ?l2 ?c2 ?k2 ?a3 ?l3 ?c3 ?k3 ?a4 ?l4 ?c4 ?k4 ?a5 ?l5 ?c5 ?k5 ?a6 ?l6 ?c6 ?k6 ?a7 ?l7 ?c7 ?k7 ?a8 ?l8 ?c8 ?k8 ?a9 ?l9 ?c9 ?k9 ?a10 ?l10 ?c10 ?k10 ?a11 ?l11 ?c11 ?k11 ?a12 ?l12 ?c12 ?k12 ?a13 ?l13 ?c13 ?k13 ?a14 ?l14 ?c14 ?k14 ?a15 ?l15 ?c15 ?k15 ?a16 ?l16 ?c16 ?k16 ?a17 ?l17 ?c17 ?k17 ?z_all ?z_any ?z_bool ?z_enumerate ?z_isinstance ?z_len ?z_list ?z_range ?z_str ?z_sum ?z_tuple ?z_zip
    (case a0 => k_is)
    (case l0 => k_is)
    (case c0 => k_is)
    (case k0 => k_is)
    (case a1 => k_is)
    (case l1 => k_is)
    (case c1 => k_is)
    (case k1 => k_is)
    (case a2 => k_is)
    (case l2 => k_is)
    (case c2 => k_is)
    (case k2 => k_is)
    (case a3 => k_is)
    (case l3 => k_is)
    (case c3 => k_is)
    (case k3 => k_is)
    (case a4 => k_is)
    (case l4 => k_is)
    (case c4 => k_is)
    (case k4 => k_is)
    (case a5 => k_is)
    (case l5 => k_is)
    (case c5 => k_is)
    (case k5 => k_is)
    (case a6 => k_is)
    (case l6 => k_is)
    (case c6 => k_is)
    (case k6 => k_is)
    (case a7 => k_is)
    (case l7 => k_is)
    (case c7 => k_is)
    (case k7 => k_is)
    (case a8 => k_is)
    (case l8 => k_is)
    (case c8 => k_is)
    (case k8 => k_is)
    (case a9 => k_is)
    (case l9 => k_is)
    (case c9 => k_is)
    (case k9 => k_is)
    (case a10 => k_is)
    (case l10 => k_is)
    (case c10 => k_is)
    (case k10 => k_is)
    (case a11 => k_is)
    (case l11 => k_is)
    (case c11 => k_is)
    (case k11 => k_is)
    (case a12 => k_is)
    (case l12 => k_is)
    (case c12 => k_is)
    (case k12 => k_is)
    (case a13 => k_is)
    (case l13 => k_is)
    (case c13 => k_is)
    (case k13 => k_is)
    (case a14 => k_is)
    (case l14 => k_is)
    (case c14 => k_is)
    (case k14 => k_is)
    (case a15 => k_is)
    (case l15 => k_is)
    (case c15 => k_is)
    (case k15 => k_is)
    (case a16 => k_is)
    (case l16 => k_is)
    (case c16 => k_is)
    (case k16 => k_is)
    (case a17 => k_is)
    (case l17 => k_is)
    (case c17 => k_is)
    (case k17 => k_is)
    (case z_all => k_is)
    (case z_any => k_is)
    (case z_bool => k_is)
    (case z_enumerate => k_is)
    (case z_isinstance => k_is)
    (case z_len => k_is)
    (case z_list => k_is)
    (case z_range => k_is)
    (case z_str => k_is)
    (case z_sum => k_is)
    (case z_tuple => k_is)
    (case z_zip => k_is)
